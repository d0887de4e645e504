import PyProof.Rows.All
import Wide.All
import OpenK.AllK
import Wide.FinOn
import Lean
import PyProof.EqAt
import PyProof.EqKinds
import PyProof.TupleCall
import PyProof.NeKinds
import PyProof.ListRange
import PyProof.Draws
import PyProof.Rows.SortStr
import KE.KDictSum
import KE.KEqDict
import KE.KDictOf
import KE.KRevSl
import PyProof.StrWalks
import PyProof.StrBlock2
import PyProof.SetKind
import PyProof.SetRoads
import PyProof.Rows.SetFrom
import PyProof.ReprRoads
import PyProof.ReprLen
import PyProof.NsDelKeeps
import PyProof.ListMulRoad
import PyProof.FactsAll.tuple_2
import KE.KLam
import KE.KNestM
import PyProof.AttrMissHeap
import PyProof.Rows.SortShell
import PySem.Challenge.RW_figurejudge_k42_sets_of_rooms
set_option Elab.async false
set_option linter.all false
set_option maxRecDepth 100000
set_option maxHeartbeats 4000000
namespace L2
open PySem PySem.Spec PyProof.Rows
abbrev Key:=Sum Int Str
def mn:Key→Value→Bool
 | .inl k,v=>Value.isInt k v
 | .inr x,v=>Value.isStrOf x v
def O6 (w:World):Key→Int
 | .inl k=>hashInt k
 | .inr x=>hashStr w x
theorem cC:∀{k:Key} {v:Value},mn k v=true→(∃i t,k=Sum.inl i∧v=Value.int i t)∨(∃x t,k=Sum.inr x∧v=Value.str x t)
 | .inl i,v,h=>by
  obtain⟨t,e⟩:=Value.isInt_shape (k:=i) (v:=v) h
  exact .inl ⟨i,t,rfl,e⟩
 | .inr x,v,h=>by
  obtain⟨t,e⟩:=Value.isStrOf_shape (x:=x) (v:=v) h
  exact .inr ⟨x,t,rfl,e⟩
theorem AE (i:Int) (t:Tok):mn (.inl i) (.int i t)=true:=by simp[mn,Value.isInt]
theorem AF (x:Str) (t:Tok):mn (.inr x) (.str x t)=true:=by simp[mn,Value.isStrOf]
theorem HN (a b:Int):decide ((Sum.inl a:Key)=Sum.inl b)=(a == b):=by
 by_cases e:a=b
 ·subst e;simp
 ·have h:¬(Sum.inl a:Key)=Sum.inl b:=fun q=>e (Sum.inl.inj q)
  rw[decide_eq_false h]
  exact(beq_eq_false_iff_ne.mpr e).symm
theorem HP (a b:Str):decide ((Sum.inr a:Key)=Sum.inr b)=decide (a=b):=by
 by_cases e:a=b
 ·subst e;simp
 ·have h:¬(Sum.inr a:Key)=Sum.inr b:=fun q=>e (Sum.inr.inj q)
  rw[decide_eq_false h,decide_eq_false e]
theorem HQ (a:Int) (b:Str):decide ((Sum.inl a:Key)=Sum.inr b)=false:=decide_eq_false (fun q=>nomatch q)
theorem HR (a:Str) (b:Int):decide ((Sum.inr a:Key)=Sum.inl b)=false:=decide_eq_false (fun q=>nomatch q)
def bY (prog:Program) (w:World):PySem.KeyKind prog w Key where
 is:=mn
 hash:=O6 w
 inj:=fun v a b ha hb=>by
  rcases cC ha with⟨i,t,rfl,rfl⟩ | ⟨x,t,rfl,rfl⟩
  ·rcases cC hb with⟨j,u,rfl,e⟩ | ⟨y,u,rfl,e⟩
   ·injection e with e1 _;rw[e1]
   ·exact nomatch e
  ·rcases cC hb with⟨j,u,rfl,e⟩ | ⟨y,u,rfl,e⟩
   ·exact nomatch e
   ·injection e with e1 _;rw[e1]
 byValue:=fun k v h=>by
  rcases cC h with⟨i,t,rfl,rfl⟩ | ⟨x,t,rfl,rfl⟩<;>rfl
 pyHash:=fun hv h=>by
  rcases cC hv with⟨i,t,rfl,rfl⟩ | ⟨x,t,rfl,rfl⟩
  ·exact wpAny_pyHash_int h
  ·exact wpAny_pyHash_str h
 eqBool:=fun hu hv h=>by
  rcases cC hu with⟨i,t,rfl,rfl⟩ | ⟨x,t,rfl,rfl⟩
  ·rcases cC hv with⟨j,u,rfl,rfl⟩ | ⟨y,u,rfl,rfl⟩
   ·rw[HN] at h;exact wpAny_eqBool_int h
   ·rw[HQ] at h;exact SeqAt.EqAt.int_str i t y u _ _ _ _ h
  ·rcases cC hv with⟨j,u,rfl,rfl⟩ | ⟨y,u,rfl,rfl⟩
   ·rw[HR] at h;exact SeqAt.EqAt.str_int x t j u _ _ _ _ h
   ·rw[HP] at h;exact wpAny_eqBool_str h
 «strs» :=fun k x t v h=>by
  rcases cC h with⟨i,u,rfl,e⟩ | ⟨y,u,rfl,e⟩
  ·exact nomatch e
  ·injection e with e1 _
   subst e1
   cases v<;>rfl
theorem zg (prog:Program) (w:World) (k:Key) (v:Value):(bY prog w).is k v=mn k v:=rfl
theorem xv (prog:Program) (w:World) (i:Int) (t:Tok):(bY prog w).is (.inl i) (.int i t)=true:=AE i t
theorem xx (prog:Program) (w:World) (x:Str) (t:Tok):(bY prog w).is (.inr x) (.str x t)=true:=AF x t
inductive V where
 | non | bl (b:Bool) | int (i:Int) | str (x:Str) | jK (b:Array UInt8) | flt (b:UInt64) | ref (a:Addr) | ty (n:String)
 deriving DecidableEq
def RelV:V→Value→Prop
 | .non,u=>u=Value.none
 | .bl b,u=>u=Value.bool b
 | .int i,u=>∃t,u=Value.int i t
 | .str x,u=>∃t,u=Value.str x t
 | .jK b,u=>∃t,u=Value.bytes b t
 | .flt b,u=>∃t,u=Value.float b t
 | .ref a,u=>u=Value.ref a
 | .ty n,u=>u=Value.type n
abbrev Vals:List V→List Value→Prop:=Paired RelV
theorem Vals.length {xs:List V} {us:List Value} (r:Vals xs us):xs.length=us.length:=Paired.length r
theorem Vals.get:∀{xs:List V} {us:List Value} {i:Nat} {x:V},Vals xs us→xs[i]? =some x→∃u,us[i]? =some u∧RelV x u
 | _,_,_,_,.nil,e=>by simp at e
 | _,_,0,_,.cons r _,e=>by simp at e;subst e;exact⟨_,rfl,r⟩
 | _,_,i+1,x,.cons _ t,e=>by
  obtain⟨u,h1,h2⟩:=Vals.get (i:=i) (x:=x) t (by simpa using e)
  exact⟨u,by simpa using h1,h2⟩
theorem Vals.set {x:V} {u:Value} (r:RelV x u):∀{xs:List V} {us:List Value} (i:Nat),Vals xs us→Vals (xs.set i x) (us.set i u)
 | _,_,_,.nil=>.nil
 | _,_,0,.cons _ t=>.cons r t
 | _,_,i+1,.cons q t=>.cons q (Vals.set r i t)
theorem Vals.append:∀{xs ys:List V} {us ws:List Value},Vals xs us→Vals ys ws→Vals (xs++ys) (us++ws)
 | _,_,_,_,.nil,s=>s
 | _,_,_,_,.cons r t,s=>.cons r (Vals.append t s)
theorem Vals.take:∀{xs:List V} {us:List Value} (n:Nat),Vals xs us→Vals (xs.take n) (us.take n)
 | _,_,0,_=>.nil
 | _,_,_+1,.nil=>.nil
 | _,_,n+1,.cons r t=>.cons r (Vals.take n t)
theorem Vals.drop:∀{xs:List V} {us:List Value} (n:Nat),Vals xs us→Vals (xs.drop n) (us.drop n)
 | _,_,0,r=>r
 | _,_,_+1,.nil=>.nil
 | _,_,n+1,.cons _ t=>Vals.drop n t
def jL:Option V→Option Value→Prop
 | some v,some u=>RelV v u
 | none,none=>True
 | _,_=>False
def KV {κ:Type}:List (κ×V)→List (κ×Value)→Prop:=Paired fun(p:κ×V) (q:κ×Value)=>p.1=q.1∧RelV p.2 q.2
def kV:Key→V
 | .inl i=>.int i
 | .inr x=>.str x
inductive HO where
 | lst (xs:List V)
 | tup (xs:List V)
 | dK (kvs:List (Key×V)) | dT (kvs:List (List Key×V))
 | set (S:Int→Bool) (n:Nat)
 | ins (C dx:Addr) (fs:List (Str×V))
 | own (x:Addr)
 | xd (fs:List (Str×V))
 | met (f x:Addr)
 | rng (lo hi:Int)
 | iW (o:Obj) (u:HO)
 | dZ (ps:Array Value)
 | ext (φ:Heap→Prop)
abbrev Hp:=Addr→Option HO
def upd (H:Hp) (a:Addr) (o:HO):Hp:=fun b=>if b=a then some o else H b
theorem af {H:Hp} {a:Addr} {o:HO}:upd H a o a=some o:=by unfold upd;rw[if_pos rfl]
theorem ak {H:Hp} {a b:Addr} {o:HO} (h:b≠a):upd H a o b=H b:=by unfold upd;rw[if_neg h]
theorem kg {H:Hp} {a b:Addr} {o u:HO} (h:H a=some o) (h':H b=some u) (d:o≠u):a≠b:=by
 intro e;subst e;rw[h] at h';exact d (Option.some.inj h')
theorem aq {H:Hp} {a b:Addr} {o:HO} (h:H a=some o) (h':H b=none):a≠b:=by
 intro e;subst e;rw[h] at h';cases h'
section
variable (P:Program) (w:World)
def bx (H:Hp) (h:Heap) (a:Addr):HO→Prop
 | .lst xs=>xs.length≤sizeLine∧∃(its:List Value) (n:Nat),Vals xs its∧h.get? a=some {cls:=.type "list",data:=.seq its.toArray n}
 | .tup xs=>(xs.length≤sizeLine∧∃o,h.get? a=some o∧o.dict=none)∧∃its:List Value,Vals xs its∧IsTup h a its.toArray
 | .dK kvs=>kvs.length≤sizeLine∧(a == sysModules)=false∧∃vs,KV kvs vs∧h.DictOf (bY P w) a vs
 | .dT kvs=>kvs.length≤sizeLine∧(a == sysModules)=false∧∃xs:List (List Key×Addr×Value),
   Paired (fun(p:List Key×V) (q:List Key×Addr×Value)=>p.1=q.1∧H q.2.1=some (.tup (p.1.map kV))∧RelV p.2 q.2.2) kvs xs∧
   ∃o es ep,h.get? a=some o∧o.ExactDict∧o.data=.dict es ep∧es.toList=xs.map (entryOfKey (tupleKind (bY P w)))∧(xs.map (·.1)).Nodup
 | .set S n=>h.SetOf (intKind P w) a S n
 | .ins C dx fs=>H dx=some (.own a)∧fs.length≤1000∧dx≠a∧h.get? a=some (PySem.W.instObj C dx)∧
   ∃mA,h.Ns1 dx mA∧(∀f,jL (fs.lookup f) (mA f))∧PySem.Within mA (fs.map (·.1))
 | .own _=>∃o,h.get? a=some o
 | .xd fs=>∃mA,h.Ns1 a mA∧∀f,jL (fs.lookup f) (mA f)
 | .rng lo hi=>∃t u v,h.get? a=some {cls:=.type "range",data:=.fields #[.int lo t,.int hi u,.int 1 v]}
 | .iW o u=>h.get? a=some o∧bx H h a u
 | .dZ ps=>h.get? a=some {cls:=.none,data:=.fields ps}
 | .met f x=>h.get? a=some (PySem.W.methodObj (.ref f) (.ref x))
 | .ext φ=>φ h∧(∃o,h.get? a=some o)∧∀h1 h2:Heap,φ h1→(∀o,h1.get? a=some o→h2.get? a=some o)→φ h2
def dc (H:Hp) (h:Heap):Prop:=∀a o,H a=some o→bx P w H h a o
end
section
variable {P:Program} {w:World} {H H':Hp} {h h':Heap} {a:Addr} {o:HO}
theorem bx.lt (x:bx P w H h a o):a<h.objs.size:=by
 cases o with
 | lst xs=>obtain⟨_,_,_,_,e⟩:=x;exact Heap.lt_size e
 | tup xs=>obtain⟨_,_,_,p⟩:=x;exact p.lt
 | dK kvs=>obtain⟨_,_,_,_,o,_,_,e,_⟩:=x;exact Heap.lt_size e
 | dT kvs=>obtain⟨_,_,_,_,o,_,_,e,_⟩:=x;exact Heap.lt_size e
 | set S n=>obtain⟨o,_,_,_,e,_⟩:=x;exact Heap.lt_size e
 | ins C dx fs=>obtain⟨_,_,_,e,_⟩:=x;exact Heap.lt_size e
 | own y=>obtain⟨_,e⟩:=x;exact Heap.lt_size e
 | xd fs=>obtain⟨_,⟨_,_,_,e,_⟩,_⟩:=x;exact Heap.lt_size e
 | rng lo hi=>obtain⟨_,_,_,e⟩:=x;exact Heap.lt_size e
 | iW ob u=>obtain⟨e,_⟩:=x;exact Heap.lt_size e
 | dZ ps=>exact Heap.lt_size (show h.get? a=some _ from x)
 | met f y=>exact Heap.lt_size (show h.get? a=some _ from x)
 | ext φ=>obtain⟨_,⟨_,e⟩,_⟩:=x;exact Heap.lt_size e
theorem Paired.pG {α β:Type} {F G:α→β→Prop}:∀{l₁:List α} {l₂:List β},Paired F l₁ l₂→(∀a b,F a b→G a b)→Paired G l₁ l₂
 | _,_,.nil,_=>.nil
 | _,_,.cons r t,f=>.cons (f _ _ r) (Paired.pG t f)
theorem bx.stay (x:bx P w H h a o) (k:∀b u,(b=a∨H b=some (.own a))→h.get? b=some u→h'.get? b=some u)
  (ho:∀b,H b=some (.own a)→H' b=some (.own a)) (ht:∀b xs,H b=some (.tup xs)→H' b=some (.tup xs)):bx P w H' h' a o:=by
 induction o with
 | lst xs=>obtain⟨z,its,n,r,e⟩:=x;exact⟨z,its,n,r,k _ _ (.inl rfl) e⟩
 | tup xs=>obtain⟨⟨z,o2,e2,d2⟩,its,r,ob,e,c⟩:=x;exact⟨⟨z,o2,k _ _ (.inl rfl) e2,d2⟩,its,r,ob,k _ _ (.inl rfl) e,c⟩
 | dK kvs=>obtain⟨z,y,vs,r,ob,es,ep,e,c⟩:=x;exact⟨z,y,vs,r,ob,es,ep,k _ _ (.inl rfl) e,c⟩
 | dT kvs=>
  obtain⟨z,y,xs,r,ob,es,ep,e,c⟩:=x
  exact⟨z,y,xs,Paired.pG r fun p q z=>⟨z.1,ht _ _ z.2.1,z.2.2⟩,ob,es,ep,k _ _ (.inl rfl) e,c⟩
 | set S n=>obtain⟨ob,es,ep,t,e,c⟩:=x;exact⟨ob,es,ep,t,k _ _ (.inl rfl) e,c⟩
 | ins C dx fs=>
  obtain⟨d,z,ne,e,mA,⟨od,es,ep,e2,c⟩,r⟩:=x
  exact⟨ho _ d,z,ne,k _ _ (.inl rfl) e,mA,⟨od,es,ep,k _ _ (.inr d) e2,c⟩,r⟩
 | own y=>obtain⟨ob,e⟩:=x;exact⟨ob,k _ _ (.inl rfl) e⟩
 | xd fs=>obtain⟨mA,⟨od,es,ep,e,c⟩,r⟩:=x;exact⟨mA,⟨od,es,ep,k _ _ (.inl rfl) e,c⟩,r⟩
 | rng lo hi=>obtain⟨t,u,v,e⟩:=x;exact⟨t,u,v,k _ _ (.inl rfl) e⟩
 | iW ob u ih=>obtain⟨e,q⟩:=x;exact⟨k _ _ (.inl rfl) e,ih q⟩
 | dZ ps=>
  have e:h.get? a=some {cls:=.none,data:=.fields ps}:=x
  show h'.get? a=some {cls:=.none,data:=.fields ps}
  exact k a _ (.inl rfl) e
 | met f y=>
  have e:h.get? a=some (PySem.W.methodObj (.ref f) (.ref y)):=x
  show h'.get? a=some (PySem.W.methodObj (.ref f) (.ref y))
  exact k a _ (.inl rfl) e
 | ext φ=>obtain⟨p,⟨o,e⟩,st⟩:=x;exact⟨st _ _ p fun o q=>k _ _ (.inl rfl) q,⟨o,k _ _ (.inl rfl) e⟩,st⟩
theorem dc.lt (x:dc P w H h) (e:H a=some o):a<h.objs.size:=(x a o e).lt
theorem dc.fresh (x:dc P w H h) (e:h.objs.size≤a):H a=none:=by
 cases q:H a with
 | none=>rfl
 | some u=>exact absurd (Nat.lt_of_lt_of_le (x.lt q) e) (Nat.lt_irrefl _)
theorem dc.kept (x:dc P w H h) (k:∀b u,h.get? b=some u→h'.get? b=some u):dc P w H h':=fun a o e=>
 (x a o e).stay (fun b u _ q=>k b u q) (fun _ q=>q) fun _ _ q=>q
theorem dc.laid (x:dc P w H h) (k:∀b u,h.get? b=some u→h'.get? b=some u) (hp:h.objs.size≤a) (new:bx P w (upd H a o) h' a o):dc P w (upd H a o) h':=fun b u e=>by
 have hn:=x.fresh hp
 by_cases hb:b=a
 ·subst hb;rw[af] at e;cases e;exact new
 ·rw[ak hb] at e
  exact(x b u e).stay (fun c v _ q=>k c v q) (fun c q=>by rw[ak (aq q hn)];exact q) fun c xs q=>by rw[ak (aq q hn)];exact q
end
def Rd (H:Hp) (a:Addr) (u:HO):Prop:=H a=some u∨∃o,H a=some (.iW o u)
theorem Rd.ok {P:Program} {w:World} {H:Hp} {h:Heap} {a:Addr} {u:HO} (r:Rd H a u) (x:dc P w H h):bx P w H h a u:=by
 rcases r with r | ⟨o,r⟩
 ·exact x a u r
 ·obtain⟨_,q⟩:=x a _ r
  exact q
def AG:Option HO→Prop
 | some (.lst _)=>True
 | some (.dK _)=>True
 | some (.dT _)=>True
 | some (.set _ _)=>True
 | some (.ins _ _ _)=>True
 | some (.ext _)=>True
 | _=>False
section
variable {P:Program} {w:World} {H:Hp} {h h':Heap} {x e:Addr} {o':HO}
theorem dc.write (ok:dc P w H h) (mu:AG (H x)) (he:e=x∨H e=some (.own x)) (k:∀b u,b≠e→h.get? b=some u→h'.get? b=some u) (heo:∃u,h'.get? e=some u)
  (new:bx P w (upd H x o') h' x o'):dc P w (upd H x o') h':=fun b u q=>by
 have HS:∀c y,H c=some (.own y)→c≠x:=fun c y r z=>by subst z;rw[r] at mu;exact mu
 have O7:∀c xs,H c=some (.tup xs)→c≠x:=fun c xs r z=>by subst z;rw[r] at mu;exact mu
 by_cases hb:b=x
 ·subst hb;rw[af] at q;cases q;exact new
 ·rw[ak hb] at q
  by_cases hbe:b=e
  ·have q':H b=some (.own x):=by
    rcases he with z | z
    ·exact absurd (hbe.trans z) hb
    ·rw[hbe];exact z
   rw[q] at q';cases q'
   obtain⟨v,hv⟩:=heo
   exact⟨v,by rw[hbe];exact hv⟩
  ·refine(ok b u q).stay (fun c v hc r=>k c v ?_ r) (fun c r=>by rw[ak (HS c b r)];exact r) fun c xs r=>by rw[ak (O7 c xs r)];exact r
   rcases hc with rfl | hc
   ·exact hbe
   ·rintro rfl
    rcases he with z | z
    ·exact HS c b hc z
    ·rw[hc] at z;cases z;exact hb rfl
end
structure Un (fs ex:List Addr) (H H':Hp) (h h':Heap):Prop where
 keep:∀b o,h.get? b=some o→H b=none→b ∉ fs→b ∉ ex→h'.get? b=some o
 slot:∀b o,h.get? b=some o→H b=none→b∈fs→b ∉ ex→∃sl,h'.get? b=some {o with slots:=sl}
 free:∀b o,h.get? b=some o→H b=none→b ∉ ex→H' b=none
 there:∀b o,h.get? b=some o→b ∉ ex→∃o',h'.get? b=some o'
 tups:∀b xs,H b=some (.tup xs)→H' b=some (.tup xs)
 jM:∀b o u,H b=some (.iW o u)→H' b=some (.iW o u)
 jN:∀b ps,H b=some (.dZ ps)→∃more,H' b=some (.dZ (ps++more))
section
variable {fs fs' ex ex':List Addr} {H H1 H2:Hp} {h h1 h2 h':Heap} {a x e:Addr} {o:HO}
theorem Un.any (u:Un fs ex H H1 h h1) {b:Addr} {ob:Obj} (q:h.get? b=some ob) (n:H b=none) (hx:b ∉ ex):∃sl,h1.get? b=some {ob with slots:=sl}:=by
 by_cases hb:b∈fs
 ·exact u.slot b ob q n hb hx
 ·exact⟨ob.slots,u.keep b ob q n hb hx⟩
theorem Un.kept (k:∀b u,h.get? b=some u→h'.get? b=some u):Un fs ex H H h h':=
 ⟨fun b ob q _ _ _=>k b ob q,fun b ob q _ _ _=>⟨ob.slots,k b ob q⟩,fun _ _ _ n _=>n,fun b ob q _=>⟨ob,k b ob q⟩,fun _ _ q=>q,fun _ _ _ q=>q,fun _ ps q=>⟨#[],by rw[q];simp⟩⟩
theorem Un.refl:Un fs ex H H h h:=Un.kept fun _ _ q=>q
theorem Un.laid (k:∀b u,h.get? b=some u→h'.get? b=some u) (hp:h.objs.size≤a) (hn:H a=none):Un fs ex H (upd H a o) h h' where
 keep:=fun b u q _ _ _=>k b u q
 slot:=fun b u q _ _ _=>⟨u.slots,k b u q⟩
 free:=fun b u q n _=>by rw[ak (Nat.ne_of_lt (Nat.lt_of_lt_of_le (Heap.lt_size q) hp))];exact n
 there:=fun b u q _=>⟨u,k b u q⟩
 tups:=fun b xs q=>by rw[ak (aq q hn)];exact q
 jM:=fun b u xs q=>by rw[ak (aq q hn)];exact q
 jN:=fun b ps q=>⟨#[],by rw[ak (aq q hn),q];simp⟩
theorem Un.write (mu:AG (H x)) (he:e=x∨H e=some (.own x)) (k:∀b u,b≠e→h.get? b=some u→h'.get? b=some u) (heo:∃u,h'.get? e=some u):Un fs ex H (upd H x o) h h':=by
 have hx:∀b,H b=none→b≠x:=fun b n z=>by subst z;rw[n] at mu;exact mu
 have hb:∀b,H b=none→b≠e:=fun b n z=>by
  subst z
  rcases he with r | r
  ·exact hx b n r
  ·rw[n] at r;cases r
 have hm:∀b u,H b=some u→¬AG (some u)→b≠x:=fun b u q nm z=>by subst z;rw[q] at mu;exact nm mu
 refine⟨fun b u q n _ _=>k b u (hb b n) q,fun b u q n _ _=>⟨u.slots,k b u (hb b n) q⟩,fun b u q n _=>by rw[ak (hx b n)];exact n,fun b u q _=>?_,
  fun b xs q=>by rw[ak (hm b _ q fun z=>z)];exact q,fun b u xs q=>by rw[ak (hm b _ q fun z=>z)];exact q,fun b ps q=>⟨#[],by rw[ak (hm b _ q fun z=>z),q];simp⟩⟩
 by_cases hbe:b=e
 ·subst hbe;exact heo
 ·exact⟨u,k b u hbe q⟩
end
def E9 (h:Heap) (H:Hp):List Addr:=(List.range h.objs.size).filter fun a=>(H a).isSome
def jO (h:Heap) (H:Hp):Heap:=PySem.W.hideAll h (E9 h H)
theorem tu (h:Heap) (H:Hp):(jO h H).objs.size=h.objs.size:=PySem.W.hideAll_size _ _
theorem vg {h:Heap} {H:Hp} {b:Addr} {o:Obj} (e:h.get? b=some o) (n:H b=none):(jO h H).get? b=some o:=
 PySem.W.hideAll_get _ e fun hm=>by
  have q:(H b).isSome=true:=(List.mem_filter.mp hm).2
  rw[n] at q;simp at q
theorem xY {h:Heap} {H:Hp} {b:Addr} {o:Obj} (e:(jO h H).get? b=some o):h.get? b=some o∧H b=none:=by
 have e':h.get? b=some o:=PySem.W.of_hideAll (E9 h H) e
 refine⟨e',?_⟩
 cases q:H b with
 | none=>rfl
 | some x=>
  have hm:b∈E9 h H:=List.mem_filter.mpr ⟨List.mem_range.mpr (Heap.lt_size e'),by simp[q]⟩
  have z:(jO h H).get? b=none:=PySem.W.hideAll_none (E9 h H) hm
  rw[z] at e;cases e
structure Mod (K:PySem.W.Frag) (mg:Str→Option Value) (base:Heap):Prop where
 tE:K.In base
 glob:base.Ns mainGlobals mg
 blt:∃mb,base.Ns builtinsNs mb∧∀x:Str,x≠"__name__"→mb x=bootBuiltins x
 nolimit:base.NoLimit
structure Cx where
 prog:Program
 w:World
 K:PySem.W.Frag
 mg:Str→Option Value
 base:Heap
 A:Around
 N:List Str
 s₀:Shared
 H₀:Hp
 env:Env
 outer:List Env
 stack:List Env
 ex:List Addr
 fn:Str→Bool
 calm:Bool
 pn:List (Addr×Obj)
 xe:Value→Shared→Prop
def frs (l:List Env):List Addr:=l.filterMap (·.frame)
abbrev Cx.fs (X:Cx):List Addr:=frs X.outer
def xZ (sc:Scope) (x:Str):Prop:=sc.names.lookup x=some .local∨sc.names.lookup x=some .cell∨sc.names.lookup x=some .free
def Loc (sc:Scope) (x:Str):Prop:=sc.names.lookup x=some .local∨sc.names.lookup x=some .cell
def Look (env:Env) (h:Heap) (m:Str→Option Value) (x:Str) (u:Value):Prop:=
 (env.kindOf x=some .local∧m x=some u)∨((env.kindOf x=some .cell∨env.kindOf x=some .free)∧∃c,env.cells.lookup x=some c∧h.IsCell c (some u))
structure Cx.Ok (X:Cx):Prop where
 mod:Mod X.K X.mg X.base
 kind:X.env.scope.kind=.function
 glob:X.env.globals=mainGlobals
 blt:X.env.builtins=builtinsNs
 above:X.s₀.heap.objs.size≤X.env.locals
 inj:∀x y c,X.env.cells.lookup x=some c→X.env.cells.lookup y=some c→x=y
 has:∀x,(X.env.kindOf x=some .cell∨X.env.kindOf x=some .free)→∃c,X.env.cells.lookup x=some c
 cab:∀x c,X.fn x=true→X.env.cells.lookup x=some c→X.s₀.heap.objs.size≤c
 hd:X.calm=true→X.A.handled=none
 frames:X.A.frames=some X.stack
 stk:X.stack=X.outer∨(X.stack=X.env::X.outer∧X.env.frame=some X.env.locals)
 HU:∀b∈X.ex,b≠X.env.locals∧∀x c,X.env.cells.lookup x=some c→c≠b
 bs:∀b o,X.base.get? b=some o→X.s₀.heap.get? b=some o∧X.H₀ b=none
 nG:X.base.objs.size≤X.s₀.heap.objs.size
 vh:∀b o,X.base.get? b=some o→b ∉ X.ex
 vi:∀b∈X.ex,b ∉ X.fs
 g_:X.s₀.heap.FunFrames X.base X.outer
 tF:∀b∈X.fs,X.H₀ b=none
structure Inv (X:Cx) (pins:List (Addr×Obj)) (σ:List (Option V)) (H:Hp) (s:Shared):Prop where
 ok:X.Ok
 os:s.os=X.s₀.os
 bare:AllBare s.gens
 base:Un X.fs X.ex X.H₀ H X.s₀.heap s.heap
 loc:∃m,s.heap.Ns X.env.locals m∧∀(i:Nat) (x:Str) (v:V),X.N[i]? =some x→σ[i]? =some (some v)→xZ X.env.scope x→∃u,RelV v u∧Look X.env s.heap m x u
 cell:∀x c,X.env.cells.lookup x=some c→∃v,s.heap.IsCell c v
 free:H X.env.locals=none
 fO:∀x c,X.env.cells.lookup x=some c→H c=none
 pin:∀p∈X.pn++pins,s.heap.get? p.1=some p.2∧H p.1=none∧p.1≠X.env.locals∧p.1 ∉ X.fs∧∀v,p.2.data≠.cell v
 hok:dc X.prog X.w H s.heap
 len:σ.length=X.N.length
section
variable {X:Cx} {pins:List (Addr×Obj)} {σ:List (Option V)} {H H':Hp} {s:Shared} {h':Heap}
theorem Cx.Ok.HV (ok:X.Ok) {b:Addr} {o:Obj} (e:X.base.get? b=some o):b ∉ X.fs:=fun hb=>by
 have:=(ok.g_.mem hb).1
 rw[e] at this;cases this
theorem Inv.bs (I:Inv X pins σ H s):∀b o,X.base.get? b=some o→s.heap.get? b=some o∧H b=none:=fun b o e=>
 ⟨I.base.keep b o (I.ok.bs b o e).1 (I.ok.bs b o e).2 (I.ok.HV e) (I.ok.vh b o e),I.base.free b o (I.ok.bs b o e).1 (I.ok.bs b o e).2 (I.ok.vh b o e)⟩
theorem Inv.bk (I:Inv X pins σ H s):∀b o,X.base.get? b=some o→s.heap.get? b=some o:=fun b o e=>(I.bs b o e).1
theorem Inv.mod (I:Inv X pins σ H s):Mod X.K X.mg X.base:=I.ok.mod
theorem Inv.g0 (I:Inv X pins σ H s):X.K.In s.heap:=I.ok.mod.tE.keeps I.bk
theorem Inv.lt (I:Inv X pins σ H s):X.env.locals<s.heap.objs.size:=let ⟨_,hn,_⟩:=I.loc;hn.lt
theorem Inv.sz (I:Inv X pins σ H s):X.s₀.heap.objs.size≤s.heap.objs.size:=Nat.le_trans I.ok.above (Nat.le_of_lt I.lt)
theorem Inv.O8 (I:Inv X pins σ H s) {a:Addr} (h:s.heap.objs.size≤a):a ∉ X.fs:=fun hb=>by
 obtain⟨_,o,ho,_⟩:=I.ok.g_.mem hb
 exact absurd (Nat.lt_of_lt_of_le (Heap.lt_size ho) (Nat.le_trans I.sz h)) (Nat.lt_irrefl _)
theorem Inv.tG (I:Inv X pins σ H s):∀x c,X.env.cells.lookup x=some c→c≠X.env.locals:=fun x c e z=>by
 obtain⟨v,o,ho,hd⟩:=I.cell x c e
 obtain⟨m,⟨o',es,ep,ho',hd',_⟩,_⟩:=I.loc
 rw[z,ho'] at ho;cases ho;rw[hd'] at hd;cases hd
theorem Inv.g_ (I:Inv X pins σ H s):s.heap.FunFrames X.base X.outer:=by
 have all:∀(l:List Env),(∀b∈frs l,b∈X.fs)→X.s₀.heap.FunFrames X.base l→s.heap.FunFrames X.base l:=by
  intro l
  induction l with
  | nil=>intro _ _;trivial
  | cons env r ih=>
   intro hs hl
   obtain⟨hk,⟨L,o,hf,hn,ho,hd⟩,hr⟩:=hl
   have hL:L∈X.fs:=hs L (by unfold frs;rw[List.filterMap_cons,hf];exact List.mem_cons_self)
   obtain⟨sl,e⟩:=I.base.slot L o ho (I.ok.tF L hL) hL fun z=>I.ok.vi L z hL
   exact⟨hk,⟨L,_,hf,hn,e,hd⟩,ih (fun b hb=>hs b (by unfold frs;rw[List.filterMap_cons,hf];exact List.mem_cons_of_mem _ hb)) hr⟩
 exact all X.outer (fun _ hb=>hb) I.ok.g_
theorem Inv.stack (I:Inv X pins σ H s):s.heap.FunFrames X.base X.stack:=by
 rcases I.ok.stk with e | ⟨e,hf⟩
 ·rw[e];exact I.g_
 ·rw[e]
  obtain⟨m,hn,_⟩:=I.loc
  refine .cons (by rw[I.ok.kind];decide) hf hn ?_ I.g_
  exact Heap.get?_none_of_le (Nat.le_trans I.ok.nG I.ok.above)
theorem Inv.nH (I:Inv X pins σ H s):∀b∈frs X.stack,b∈X.env.locals::X.fs:=fun b hb=>by
 rcases I.ok.stk with e | ⟨e,hf⟩
 ·rw[e] at hb;exact List.mem_cons_of_mem _ hb
 ·rw[e] at hb
  unfold frs at hb
  rw[List.filterMap_cons,hf] at hb
  exact hb
theorem Inv.lE (I:Inv X pins σ H s):∀b∈frs X.stack,H b=none:=fun b hb=>by
 rcases List.mem_cons.mp (I.nH b hb) with e | hb
 ·rw[e];exact I.free
 ·obtain⟨_,o,ho,_⟩:=I.ok.g_.mem hb
  exact I.base.free b o ho (I.ok.tF b hb) fun z=>I.ok.vi b z hb
theorem Inv.step {g':Array GenState} {t':Nat} {d':Drawn} {ch:List Addr} (I:Inv X pins σ H s)
  (hch:∀b∈ch,(b∈X.ex∨X.s₀.heap.objs.size≤b)∧b≠X.env.locals∧(∀x c,X.env.cells.lookup x=some c→c≠b)∧∀p∈X.pn++pins,p.1≠b)
  (keep:∀b o,b≠X.env.locals→b ∉ X.fs→b ∉ ch→s.heap.get? b=some o→H b=none→h'.get? b=some o)
  (slot:∀b o,b≠X.env.locals→b∈X.fs→b ∉ ch→s.heap.get? b=some o→H b=none→∃sl,h'.get? b=some {o with slots:=sl}) (free:∀b o,b ∉ ch→s.heap.get? b=some o→H b=none→H' b=none)
  (there:∀b o,b ∉ ch→s.heap.get? b=some o→∃o',h'.get? b=some o')
  (tups:∀b xs,H b=some (.tup xs)→H' b=some (.tup xs)) (jM:∀b o u,H b=some (.iW o u)→H' b=some (.iW o u)) (jN:∀b ps,H b=some (.dZ ps)→∃more,H' b=some (.dZ (ps++more)))
  (ns:∀m,s.heap.Ns X.env.locals m→h'.Ns X.env.locals m) (hok:dc X.prog X.w H' h') (hg:AllBare g'):
  Inv X pins σ H' {s with heap:=h',gens:=g',drawn:=d',toks:=t'}:=by
 have Nn:∀b o,X.s₀.heap.get? b=some o→b≠X.env.locals:=fun b o e=>Nat.ne_of_lt (Nat.lt_of_lt_of_le (Heap.lt_size e) I.ok.above)
 have Fb:∀b o,X.s₀.heap.get? b=some o→b ∉ X.ex→b ∉ ch:=fun b o e hx hb=>by
  rcases(hch b hb).1 with z | z
  ·exact hx z
  ·exact absurd (Nat.lt_of_lt_of_le (Heap.lt_size e) z) (Nat.lt_irrefl _)
 have cellK:∀x c,X.env.cells.lookup x=some c→∀v,s.heap.IsCell c v→h'.IsCell c v:=fun x c e v ⟨o,ho,hd⟩=>by
  have nI:c ∉ ch:=fun z=>(hch c z).2.2.1 x c e rfl
  by_cases hc:c∈X.fs
  ·obtain⟨sl,q⟩:=slot c o (I.tG x c e) hc nI ho (I.fO x c e)
   exact⟨_,q,hd⟩
  ·exact⟨o,keep c o (I.tG x c e) hc nI ho (I.fO x c e),hd⟩
 refine⟨I.ok,I.os,hg,⟨fun b o e n hb hx=>?_,fun b o e n hb hx=>?_,fun b o e n hx=>?_,fun b o e hx=>?_,fun b xs e=>tups b xs (I.base.tups b xs e),fun b o xs e=>jM b o xs (I.base.jM b o xs e),fun b ps e=>?_⟩,?_,fun x c e=>?_,?_,fun x c e=>?_,fun p hp=>?_,hok,I.len⟩
 ·exact keep b o (Nn b o e) hb (Fb b o e hx) (I.base.keep b o e n hb hx) (I.base.free b o e n hx)
 ·obtain⟨sl,e1⟩:=I.base.slot b o e n hb hx
  obtain⟨sl',e2⟩:=slot b _ (Nn b o e) hb (Fb b o e hx) e1 (I.base.free b o e n hx)
  exact⟨sl',e2⟩
 ·obtain⟨o',e1⟩:=I.base.there b o e hx
  exact free b o' (Fb b o e hx) e1 (I.base.free b o e n hx)
 ·obtain⟨o',e1⟩:=I.base.there b o e hx
  exact there b o' (Fb b o e hx) e1
 ·obtain⟨m1,e1⟩:=I.base.jN b ps e
  obtain⟨m2,e2⟩:=jN b _ e1
  exact⟨m1++m2,by rw[e2,Array.append_assoc]⟩
 ·obtain⟨m,hn,hl⟩:=I.loc
  refine⟨m,ns m hn,fun i x v e1 e2 e3=>?_⟩
  obtain⟨u,r,l⟩:=hl i x v e1 e2 e3
  refine⟨u,r,?_⟩
  rcases l with l | ⟨k,c,e,z⟩
  ·exact .inl l
  ·exact .inr ⟨k,c,e,cellK x c e _ z⟩
 ·obtain⟨v,z⟩:=I.cell x c e
  exact⟨v,cellK x c e v z⟩
 ·obtain⟨m,⟨o,_,_,ho,_⟩,_⟩:=I.loc
  exact free _ o (fun z=>(hch _ z).2.1 rfl) ho I.free
 ·obtain⟨v,o,ho,hd⟩:=I.cell x c e
  exact free c o (fun z=>(hch c z).2.2.1 x c e rfl) ho (I.fO x c e)
 ·obtain⟨e,n,ne,nf,d⟩:=I.pin p hp
  have nI:p.1 ∉ ch:=fun z=>(hch p.1 z).2.2.2 p hp rfl
  exact⟨keep p.1 p.2 ne nf nI e n,free p.1 p.2 nI e n,ne,nf,d⟩
theorem Inv.un {t':Nat} (I:Inv X pins σ H s) (u:Un X.fs [] H H' s.heap h') (hok:dc X.prog X.w H' h'):Inv X pins σ H' {s with heap:=h',toks:=t'}:=by
 obtain⟨m,⟨o,es,ep,ho,r⟩,_⟩:=id I.loc
 obtain⟨sl,hL⟩:=u.any ho I.free (by simp)
 exact I.step (g':=s.gens) (d':=s.drawn) (ch:=[]) (fun _ z=>nomatch z) (fun b o _ hb _ e n=>u.keep b o e n hb (by simp)) (fun b o _ hb _ e n=>u.slot b o e n hb (by simp)) (fun b o _ e n=>u.free b o e n (by simp)) (fun b o _ e=>u.there b o e (by simp)) u.tups u.jM u.jN (fun m' hm=>by
  obtain⟨o',es',ep',ho',r'⟩:=hm
  rw[ho] at ho';cases ho'
  exact⟨_,es',ep',hL,r'⟩) hok I.bare
theorem Inv.call {g':Array GenState} {t':Nat} {d':Drawn} {ch:List Addr} (I:Inv X pins σ H s) (u:Un (frs X.stack) ch H H' s.heap h') (hok:dc X.prog X.w H' h') (hg:AllBare g')
  (hch:∀b∈ch,(b∈X.ex∨X.s₀.heap.objs.size≤b)∧b≠X.env.locals∧(∀x c,X.env.cells.lookup x=some c→c≠b)∧∀p∈X.pn++pins,p.1≠b):
  Inv X pins σ H' {s with heap:=h',gens:=g',drawn:=d',toks:=t'}:=by
 obtain⟨m,⟨o,es,ep,ho,r⟩,_⟩:=id I.loc
 obtain⟨sl,hL⟩:=u.any ho I.free fun z=>(hch _ z).2.1 rfl
 exact I.step (ch:=ch) hch (fun b o hL hb hc e n=>u.keep b o e n (fun z=>(List.mem_cons.mp (I.nH b z)).elim hL hb) hc) (fun b o _ _ hc e n=>u.any e n hc) (fun b o hc e n=>u.free b o e n hc) (fun b o hc e=>u.there b o e hc) u.tups u.jM u.jN (fun m' hm=>by
  obtain⟨o',es',ep',ho',r'⟩:=hm
  rw[ho] at ho';cases ho'
  exact⟨_,es',ep',hL,r'⟩) hok hg
theorem Inv.turned {t':Nat} {it:Addr} (I:Inv X pins σ H s) (k:∀b o,b≠it→s.heap.get? b=some o→h'.get? b=some o) (hn:H it=none) (hL:it≠X.env.locals)
  (h1:it∈X.ex∨X.s₀.heap.objs.size≤it) (h2:∀x c,X.env.cells.lookup x=some c→c≠it) (h3:∀p∈X.pn++pins,p.1≠it):Inv X pins σ H {s with heap:=h',toks:=t'}:=by
 have Np:∀b u,H b=some u→b≠it:=fun b u e z=>by rw[z,hn] at e;cases e
 refine I.step (g':=s.gens) (d':=s.drawn) (ch:=[it]) (fun b hb=>?_) (fun b o _ _ hc e _=>k b o (fun z=>hc (by simp[z])) e) (fun b o _ _ hc e _=>⟨o.slots,k b o (fun z=>hc (by simp[z])) e⟩) (fun _ _ _ _ n=>n)
  (fun b o hc e=>⟨o,k b o (fun z=>hc (by simp[z])) e⟩) (fun _ _ e=>e) (fun _ _ _ e=>e) (fun b ps e=>⟨#[],by rw[e];simp⟩) (fun m hm=>?_) (fun b u e=>?_) I.bare
 ·have e:b=it:=by simpa using hb
  subst e
  exact⟨h1,hL,h2,h3⟩
 ·obtain⟨o,es,ep,ho,r⟩:=hm
  exact⟨o,es,ep,k _ o (Ne.symm hL) ho,r⟩
 ·refine(I.hok b u e).stay (fun c v hc q=>k c v ?_ q) (fun _ q=>q) fun _ _ q=>q
  rcases hc with z | z
  ·rw[z];exact Np b u e
  ·exact Np c _ z
theorem Inv.tok (I:Inv X pins σ H s) (t:Nat):Inv X pins σ H {s with toks:=t}:=I.un (h':=s.heap) (t':=t) Un.refl I.hok
theorem Inv.kept {t':Nat} (I:Inv X pins σ H s) (k:∀b u,s.heap.get? b=some u→h'.get? b=some u):Inv X pins σ H {s with heap:=h',toks:=t'}:=I.un (Un.kept k) (I.hok.kept k)
theorem Inv.laid {a:Addr} {o:HO} {t':Nat} (I:Inv X pins σ H s) (k:∀b u,s.heap.get? b=some u→h'.get? b=some u) (hp:s.heap.objs.size≤a) (new:bx X.prog X.w (upd H a o) h' a o):
  Inv X pins σ (upd H a o) {s with heap:=h',toks:=t'}:=I.un (Un.laid k hp (I.hok.fresh hp)) (I.hok.laid k hp new)
theorem Inv.write {x e:Addr} {o:HO} {t':Nat} (I:Inv X pins σ H s) (mu:AG (H x)) (he:e=x∨H e=some (.own x)) (k:∀b u,b≠e→s.heap.get? b=some u→h'.get? b=some u) (heo:∃u,h'.get? e=some u)
  (new:bx X.prog X.w (upd H x o) h' x o):Inv X pins σ (upd H x o) {s with heap:=h',toks:=t'}:=I.un (Un.write mu he k heo) (I.hok.write mu he k heo new)
theorem Inv.x4 {Fc:List (Addr×Obj)} (I:Inv X pins σ H s) (h:∀p∈Fc,s.heap.get? p.1=some p.2∧H p.1=none∧p.1≠X.env.locals∧p.1 ∉ X.fs∧∀v,p.2.data≠.cell v):Inv X Fc σ H s:=
 ⟨I.ok,I.os,I.bare,I.base,I.loc,I.cell,I.free,I.fO,fun p hp=>(List.mem_append.mp hp).elim (fun z=>I.pin p (List.mem_append_left _ z)) (h p),I.hok,I.len⟩
theorem vj {N:List Str} (hN:N.Nodup) {i j:Nat} {x:Str} (a:N[i]? =some x) (b:N[j]? =some x):i=j:=by
 obtain⟨h1,e1⟩:=List.getElem?_eq_some_iff.mp a
 obtain⟨h2,e2⟩:=List.getElem?_eq_some_iff.mp b
 exact(List.getElem_inj hN).mp (e1.trans e2.symm)
theorem tH {M:Model} {A:Around} {E:Value→Shared→Prop} {i:Nat} {x:Str} {v:V} {u:Value} {Q:Unit→Shared→Prop} (I:Inv X pins σ H s) (hN:X.N.Nodup) (hi:X.N[i]? =some x) (hx:Loc X.env.scope x) (r:RelV v u)
  (h:∀s',Inv X pins (σ.set i (some v)) H s'→(∃a,Heap.SameBut a s.heap s'.heap∧(a=X.env.locals∨X.env.cells.lookup x=some a))→Q () s') (hf:X.fn x=true∨X.env.scope.names.lookup x=some .local:=by first | exact .inl rfl | exact .inr rfl | assumption):wpAny M A (storeName X.env x u) Q E s:=by
 obtain⟨m,hn,hl⟩:=id I.loc
 have hcls:(X.env.scope.kind == .class||(X.env.scope.kind == .module&&X.env.locals != X.env.globals))=false:=by rw[I.ok.kind];rfl
 have Nq:i<σ.length:=by rw[I.len];exact(List.getElem?_eq_some_iff.mp hi).1
 have tG:=I.tG
 have tracked:∀{a:Addr} {h':Heap},(∃o,s.heap.get? a=some o∧H a=none)→Heap.SameBut a s.heap h'→dc X.prog X.w H h':=fun {a h'} ha hs b ob e=>by
  obtain⟨_,_,hfree⟩:=ha
  refine(I.hok b ob e).stay (fun c w' hc q=>(hs.2 c ?_).trans q) (fun _ q=>q) fun _ _ q=>q
  rintro rfl
  rcases hc with rfl | hc
  ·rw[hfree] at e;cases e
  ·rw[hfree] at hc;cases hc
 rcases hx with hk | hk
 ·refine wpAny_storeName_local hk hn (fun h' hn' hs=>?_) hcls
  obtain⟨oL,_,_,hoL,_⟩:=id hn
  refine h _ ⟨I.ok,I.os,I.bare,⟨fun b o e n hb hx=>?_,fun b o e n hb hx=>?_,I.base.free,fun b o e hx=>?_,I.base.tups,I.base.jM,I.base.jN⟩,⟨_,hn',fun j y v' e1 e2 e3=>?_⟩,fun y c e=>?_,I.free,I.fO,fun p hp=>?_,tracked ⟨oL,hoL,I.free⟩ hs,by simpa using I.len⟩ ⟨_,hs,.inl rfl⟩
  ·exact(hs.2 b (Nat.ne_of_lt (Nat.lt_of_lt_of_le (Heap.lt_size e) I.ok.above))).trans (I.base.keep b o e n hb hx)
  ·obtain⟨sl,e1⟩:=I.base.slot b o e n hb hx
   exact⟨sl,(hs.2 b (Nat.ne_of_lt (Nat.lt_of_lt_of_le (Heap.lt_size e) I.ok.above))).trans e1⟩
  ·obtain⟨o',e1⟩:=I.base.there b o e hx
   exact⟨o',(hs.2 b (Nat.ne_of_lt (Nat.lt_of_lt_of_le (Heap.lt_size e) I.ok.above))).trans e1⟩
  ·by_cases hj:j=i
   ·subst hj
    rw[hi] at e1;cases e1
    rw[List.getElem?_set_self Nq] at e2
    cases e2
    exact⟨u,r,.inl ⟨hk,by simp⟩⟩
   ·rw[List.getElem?_set_ne (Ne.symm hj)] at e2
    obtain⟨u',r',q⟩:=hl j y v' e1 e2 e3
    refine⟨u',r',?_⟩
    rcases q with⟨k,e⟩ | ⟨k,c,e,z⟩
    ·refine .inl ⟨k,?_⟩
     have:y≠x:=fun e=>hj (vj hN e1 (e▸hi))
     simp[this,e]
    ·exact .inr ⟨k,c,e,z.sameBut hs (tG y c e)⟩
  ·obtain⟨w',z⟩:=I.cell y c e
   exact⟨w',z.sameBut hs (tG y c e)⟩
  ·obtain⟨e,n,ne,nf,d⟩:=I.pin p hp
   exact⟨(hs.2 p.1 ne).trans e,n,ne,nf,d⟩
 ·have hfn:X.fn x=true:=by
   rcases hf with z | z
   ·exact z
   ·rw[z] at hk;cases hk
  obtain⟨c,hc⟩:=I.ok.has x (.inl hk)
  obtain⟨w',z⟩:=I.cell x c hc
  refine wpAny_storeName_cell I.ok.kind hk hc z (fun h' hc' hs=>?_)
  obtain⟨oc,hoc,O9⟩:=id z
  refine h {s with heap:=h'} ⟨I.ok,I.os,I.bare,⟨fun b o e n hb hx=>?_,fun b o e n hb hx=>?_,I.base.free,fun b o e hx=>?_,I.base.tups,I.base.jM,I.base.jN⟩,⟨m,hn.sameBut hs (Ne.symm (tG x c hc)),fun j y v' e1 e2 e3=>?_⟩,fun y c' e=>?_,I.free,I.fO,fun p hp=>?_,tracked ⟨oc,hoc,I.fO x c hc⟩ hs,by simpa using I.len⟩ ⟨c,hs,.inr hc⟩
  ·exact(hs.2 b (Nat.ne_of_lt (Nat.lt_of_lt_of_le (Heap.lt_size e) (I.ok.cab x c hfn hc)))).trans (I.base.keep b o e n hb hx)
  ·obtain⟨sl,e1⟩:=I.base.slot b o e n hb hx
   exact⟨sl,(hs.2 b (Nat.ne_of_lt (Nat.lt_of_lt_of_le (Heap.lt_size e) (I.ok.cab x c hfn hc)))).trans e1⟩
  ·obtain⟨o',e1⟩:=I.base.there b o e hx
   exact⟨o',(hs.2 b (Nat.ne_of_lt (Nat.lt_of_lt_of_le (Heap.lt_size e) (I.ok.cab x c hfn hc)))).trans e1⟩
  ·by_cases hj:j=i
   ·subst hj
    rw[hi] at e1;cases e1
    rw[List.getElem?_set_self Nq] at e2
    cases e2
    exact⟨u,r,.inr ⟨.inl hk,c,hc,hc'⟩⟩
   ·rw[List.getElem?_set_ne (Ne.symm hj)] at e2
    obtain⟨u',r',q⟩:=hl j y v' e1 e2 e3
    refine⟨u',r',?_⟩
    rcases q with q | ⟨k,c',e,z'⟩
    ·exact .inl q
    ·refine .inr ⟨k,c',e,z'.sameBut hs ?_⟩
     rintro rfl
     exact hj (vj hN e1 (I.ok.inj _ _ _ e hc▸hi))
  ·by_cases hcc:c'=c
   ·subst hcc;exact⟨_,hc'⟩
   ·obtain⟨w2,z2⟩:=I.cell y c' e
    exact⟨w2,z2.sameBut hs hcc⟩
  ·obtain⟨e,n,ne,nf,d⟩:=I.pin p hp
   refine⟨(hs.2 p.1 ?_).trans e,n,ne,nf,d⟩
   intro q
   rw[q,hoc] at e
   have q':oc=p.2:=Option.some.inj e
   exact d w' (by rw[←q'];exact O9)
theorem mq {M:Model} {A:Around} {E:Value→Shared→Prop} {i:Nat} {x:Str} {v:V} {u:Value} {Q:Unit→Shared→Prop} (I:Inv X pins σ H s) (hN:X.N.Nodup) (hi:X.N[i]? =some x) (hx:Loc X.env.scope x) (r:RelV v u)
  (h:∀s',Inv X pins (σ.set i (some v)) H s'→Q () s') (hf:X.fn x=true∨X.env.scope.names.lookup x=some .local:=by first | exact .inl rfl | exact .inr rfl | assumption):wpAny M A (storeName X.env x u) Q E s:=
 tH I hN hi hx r (fun s' I' _=>h s' I') hf
theorem Inv.call' {s':Shared} {ch:List Addr} (I:Inv X pins σ H s) (ho:s'.os=s.os) (u:Un (frs X.stack) ch H H' s.heap s'.heap) (hok:dc X.prog X.w H' s'.heap) (hg:AllBare s'.gens)
  (hch:∀b∈ch,(b∈X.ex∨X.s₀.heap.objs.size≤b)∧b≠X.env.locals∧(∀x c,X.env.cells.lookup x=some c→c≠b)∧∀p∈X.pn++pins,p.1≠b):Inv X pins σ H' s':=by
 obtain⟨h',g',d',t',o'⟩:=s'
 have e:o'=s.os:=ho
 subst e
 exact I.call (g':=g') (t':=t') (d':=d') u hok hg hch
end
abbrev XK:=Value→Option Addr→Hp→Prop
abbrev St:=List (Option V)
abbrev VK:=V→Hp→Prop
abbrev TE:=St→Hp→VK→Prop
abbrev TT:=St→Hp→(Bool→Hp→Prop)→Prop
abbrev TA:=St→Hp→(List V→Hp→Prop)→Prop
structure Ends where
 nx:St→Hp→Prop
 rt:VK
 bk:St→Hp→Prop:=fun _ _=>False
 ct:St→Hp→Prop:=fun _ _=>False
abbrev TS:=Ends→St→Hp→Prop
def EP (X:Cx) (pins:List (Addr×Obj)) (σ:St) (Q:VK) (u:Value) (s':Shared):Prop:=∃v H',Inv X pins σ H' s'∧RelV v u∧Q v H'
def TP (X:Cx) (pins:List (Addr×Obj)) (σ:St) (Q:Bool→Hp→Prop) (b:Bool) (s':Shared):Prop:=∃H',Inv X pins σ H' s'∧Q b H'
def AP (X:Cx) (pins:List (Addr×Obj)) (σ:St) (Q:List V→Hp→Prop) (us:List Value) (s':Shared):Prop:=∃vs H',Inv X pins σ H' s'∧Vals vs us∧Q vs H'
def SP (X:Cx) (pins:List (Addr×Obj)) (D:Ends) (f:Flow) (s':Shared):Prop:=
 match f with
 | .next=>∃σ' H',Inv X pins σ' H' s'∧D.nx σ' H'
 | .brk=>∃σ' H',Inv X pins σ' H' s'∧D.bk σ' H'
 | .cont=>∃σ' H',Inv X pins σ' H' s'∧D.ct σ' H'
 | .ret u=>∃v σ' H',Inv X pins σ' H' s'∧RelV v u∧D.rt v H'
def PE (X:Cx) (e:Expr) (t:TE):Prop:=
 ∀(pins:List (Addr×Obj)) (s:Shared) (σ:St) (H:Hp) (Q:VK),Inv X pins σ H s→t σ H Q→wpAny (model X.prog X.w) X.A (eval e X.env) (EP X pins σ Q) X.xe s
def PT (X:Cx) (e:Expr) (t:TT):Prop:=
 ∀(pins:List (Addr×Obj)) (s:Shared) (σ:St) (H:Hp) (Q:Bool→Hp→Prop),Inv X pins σ H s→t σ H Q→wpAny (model X.prog X.w) X.A (isTrue e X.env (eval e X.env)) (TP X pins σ Q) X.xe s
def PW (X:Cx) (e:Expr) (t:TT):Prop:=
 ∀(whole:Sem Value) (pins:List (Addr×Obj)) (s:Shared) (σ:St) (H:Hp) (Q:Bool→Hp→Prop),Inv X pins σ H s→t σ H Q→wpAny (model X.prog X.w) X.A (isTrue e X.env whole) (TP X pins σ Q) X.xe s
theorem PW.pt {X:Cx} {e:Expr} {t:TT} (h:PW X e t):PT X e t:=h _
def PA (X:Cx) (es:List Expr) (t:TA):Prop:=
 ∀(pos:Pos) (pins:List (Addr×Obj)) (s:Shared) (σ:St) (H:Hp) (Q:List V→Hp→Prop),Inv X pins σ H s→t σ H Q→wpAny (model X.prog X.w) X.A (spliced (backTo pos (starEach es X.env))) (AP X pins σ Q) X.xe s
def PS (X:Cx) (st:Stmt) (t:TS):Prop:=
 ∀(pins:List (Addr×Obj)) (s:Shared) (σ:St) (H:Hp) (D:Ends),Inv X pins σ H s→t D σ H→wpAny (model X.prog X.w) X.A (exec st X.env) (SP X pins D) X.xe s
def jo (X:Cx) (st:List Stmt) (t:TS):Prop:=
 ∀(pins:List (Addr×Obj)) (s:Shared) (σ:St) (H:Hp) (D:Ends),Inv X pins σ H s→t D σ H→wpAny (model X.prog X.w) X.A (execs st X.env) (SP X pins D) X.xe s
theorem aK {α:Type} {t:Sem α} {Q Q':α→Shared→Prop} {M:Model} {A:Around} {E:Value→Shared→Prop} {s:Shared} (h:wpAny M A t Q E s) (hQ:∀a s,Q a s→Q' a s):wpAny M A t Q' E s:=wpAny_mono h hQ fun _ _ x=>x
section
variable {X:Cx}
def Dq (i:Nat):TE:=fun σ H Q=>∃v,σ[i]? =some (some v)∧Q v H
def tC (v:V):TE:=fun _ H Q=>Q v H
theorem HW {i:Nat} {x:Str} {pos:Pos} (hN:X.N[i]? =some x) (hv:xZ X.env.scope x) (hd:(x == ("__debug__":Str))=false:=by decide) (hcd:(x == ("__classdict__":Str))=false:=by decide):PE X (.Name x pos) (Dq i):=by
 intro pins s σ H Q I h
 obtain⟨v,e,h⟩:=h
 obtain⟨m,hn,hl⟩:=I.loc
 obtain⟨u,r,l⟩:=hl i x v hN e hv
 have fin:EP X pins σ Q u s:=⟨v,H,I,r,h⟩
 rcases l with⟨hk,hm⟩ | ⟨hk,c,hc,hcell⟩
 ·exact wpAny_Name (wpAny_loadName_local I.ok.kind hk hn hm fin) hd
 ·rcases hk with hk | hk
  ·exact wpAny_Name (wpAny_loadName_cell I.ok.kind hk hc hcell fin) hd
  ·exact wpAny_Name (wpAny_loadName_free I.ok.kind hk hc hcell fin hcd) hd
theorem ao {i j pos}:PE X (.Constant (.int i) j pos) (tC (.int i)):=fun _ _ _ H _ I h=>wpAny_Constant_int ⟨.int i,H,I.tok _,⟨_,rfl⟩,h⟩
theorem iO {b j pos}:PE X (.Constant (.bool b) j pos) (tC (.bl b)):=fun _ _ _ H _ I h=>Constant_bool ⟨.bl b,H,I,rfl,h⟩
theorem fk {j pos}:PE X (.Constant .none j pos) (tC .non):=fun _ _ _ H _ I h=>Constant_none ⟨.non,H,I,rfl,h⟩
theorem bG {x j pos}:PE X (.Constant (.str x) j pos) (tC (.str x)):=fun _ _ _ H _ I h=>Calls.Constant_str ⟨.str x,H,I.tok _,⟨_,rfl⟩,h⟩
def Gl (X:Cx) (x:Str):Prop:=X.env.kindOf x=some .globalImplicit
theorem x5 {E:Value→Shared→Prop} {pins:List (Addr×Obj)} {s:Shared} {σ:St} {H:Hp} {x:Str} {u:Value} {pos:Pos} {Q:Value→Shared→Prop} (I:Inv X pins σ H s) (hg:Gl X x) (hm:X.mg x=some u) (h:Q u s)
  (hd:(x == ("__debug__":Str))=false:=by decide):wpAny (model X.prog X.w) X.A (eval (.Name x pos) X.env) Q E s:=
 Calls.Name_function_global I.ok.kind hg (Calls.loadGlobal_global (by rw[I.ok.glob];exact I.mod.glob.keeps I.bk) hm h) hd
theorem g5 {E:Value→Shared→Prop} {pins:List (Addr×Obj)} {s:Shared} {σ:St} {H:Hp} {x:Str} {u:Value} {pos:Pos} {Q:Value→Shared→Prop} (I:Inv X pins σ H s) (hg:Gl X x) (hm:X.mg x=none) (hv:bootBuiltins x=some u) (h:Q u s)
  (hn:x≠"__name__":=by decide) (hd:(x == ("__debug__":Str))=false:=by decide):wpAny (model X.prog X.w) X.A (eval (.Name x pos) X.env) Q E s:=by
 obtain⟨mb,h1,h2⟩:=I.mod.blt
 exact Calls.Name_function_global I.ok.kind hg (Calls.loadGlobal_builtin (by rw[I.ok.glob];exact I.mod.glob.keeps I.bk) hm (by rw[I.ok.blt];exact h1.keeps I.bk) ((h2 x hn).trans hv) h) hd
theorem fu {x:Str} {v:V} {u:Value} {pos:Pos} (hg:Gl X x) (hm:X.mg x=none) (hv:bootBuiltins x=some u) (r:RelV v u) (hn:x≠"__name__":=by decide) (hd:(x == ("__debug__":Str))=false:=by decide):PE X (.Name x pos) (tC v):=
 fun _ _ _ H _ I h=>g5 I hg hm hv ⟨v,H,I,r,h⟩ hn hd
variable {a b:Expr} {ta tb:TE} {pos:Pos}
def PC (X:Cx) (op:CmpOp) (a b:Expr) (t:TE):Prop:=
 ∀(pins:List (Addr×Obj)) (s:Shared) (σ:St) (H:Hp) (Q:VK),Inv X pins σ H s→t σ H Q→
  wpAny (model X.prog X.w) X.A (eval a X.env) (fun v s₁=>wpAny (model X.prog X.w) X.A (eval b X.env) (fun u s₂=>wpAny (model X.prog X.w) X.A (compareOp op v u) (EP X pins σ Q) X.xe s₂) X.xe s₁) X.xe s
def tB (t:TE):TT:=fun σ H Q=>t σ H fun x H1=>∃c,x=.bl c∧Q c H1
theorem AH {op:CmpOp} {t:TE} (h:PC X op a b t) (h1:behindInMarks op b=false:=by first | exact O' _ (by decide) (by decide) | rfl):PT X (.Compare a [op] [b] pos) (tB t):=by
 intro pins s σ H Q I hw
 refine wpAny_isTrue_Compare1 (aK (h pins s σ H _ I hw) fun v s1 h1=>aK h1 fun u s2 h2=>aK h2 fun c s3 ⟨x,H1,I1,r1,q1⟩=>?_) h1
 obtain⟨d,rfl,q⟩:=q1
 cases r1
 exact wpAny_truthy_bool ⟨H1,I1,q⟩
variable {tA Fd:TT} {rest:List Expr}
def Pa (t u:TT):TT:=fun σ H Q=>t σ H fun c H1=>if c=true then u σ H1 Q else Q false H1
def Sh (t u:TT):TT:=fun σ H Q=>t σ H fun c H1=>if c=true then Q true H1 else u σ H1 Q
def Pb (t:TT):TT:=fun σ H Q=>t σ H fun c H1=>Q (!c) H1
theorem oR (ha:PT X a tA):PW X (.BoolOp .And [a] pos) tA:=by
 intro wh pins s σ H Q I h
 refine isTrue_and (aK (ha pins s σ H Q I h) fun c s1 e=>?_)
 cases c with
 | true=>exact isTrue_and_nil e
 | false=>exact e
theorem nJ (ha:PT X a tA):PW X (.BoolOp .Or [a] pos) tA:=by
 intro wh pins s σ H Q I h
 refine isTrue_or (aK (ha pins s σ H Q I h) fun c s1 e=>?_)
 cases c with
 | false=>exact isTrue_or_nil e
 | true=>exact e
theorem qb (ha:PT X a tA) (hb:PW X (.BoolOp .And (b::rest) pos) Fd):PW X (.BoolOp .And (a::b::rest) pos) (Pa tA Fd):=by
 intro wh pins s σ H Q I h
 refine isTrue_and (aK (ha pins s σ H _ I h) fun c s1 ⟨H1,I1,q1⟩=>?_)
 cases c with
 | true=>exact hb wh pins s1 σ H1 Q I1 q1
 | false=>exact⟨H1,I1,q1⟩
theorem qc (ha:PT X a tA) (hb:PW X (.BoolOp .Or (b::rest) pos) Fd):PW X (.BoolOp .Or (a::b::rest) pos) (Sh tA Fd):=by
 intro wh pins s σ H Q I h
 refine isTrue_or (aK (ha pins s σ H _ I h) fun c s1 ⟨H1,I1,q1⟩=>?_)
 cases c with
 | true=>exact⟨H1,I1,q1⟩
 | false=>exact hb wh pins s1 σ H1 Q I1 q1
theorem lF (ha:PT X a tA):PT X (.UnaryOp .Not a pos) (Pb tA):=by
 intro pins s σ H Q I h
 exact isTrue_not (ha pins s σ H (fun c H1=>Q (!c) H1) I h)
def Ms (ta tb:TE):TE:=fun σ H Q=>ta σ H fun x H1=>∃c,x=.bl c∧if c=true then tb σ H1 Q else Q (.bl false) H1
theorem qd {op} {t:TE} (h:PE X a t):PE X (.BoolOp op [a] pos) t:=fun pins s σ H Q I hw=>BoolOp_one (h pins s σ H Q I hw)
theorem lG (ha:PE X a ta) (hb:PE X (.BoolOp .And (b::rest) pos) tb):PE X (.BoolOp .And (a::b::rest) pos) (Ms ta tb):=by
 intro pins s σ H Q I h
 refine BoolOp_and (aK (ha pins s σ H _ I h) fun v s1 ⟨x,H1,I1,r1,q1⟩=>?_)
 obtain⟨c,rfl,q1⟩:=q1
 cases r1
 refine wpAny_truthy_bool ?_
 cases c with
 | true=>exact hb pins s1 σ H1 Q I1 q1
 | false=>exact⟨.bl false,H1,I1,rfl,q1⟩
end
def br (K:PySem.W.Frag) (H:Hp) (a:Addr) (xs:List V):Prop:=
 Rd H a (.lst xs)∨
  ∃(o:Obj) (its:Array Value) (n:Nat),K.lookup a=some o∧o.cls=.type "list"∧o.dict=none∧o.data=.seq its n∧its.size≤sizeLine∧Vals xs its.toList
def bH (K:PySem.W.Frag) (H:Hp) (a:Addr) (xs:List V):Prop:=
 Rd H a (.tup xs)∨
  ∃(o:Obj) (its:Array Value) (n:Nat),K.lookup a=some o∧o.cls=.type "tuple"∧o.data=.seq its n∧its.size≤sizeLine∧Vals xs its.toList
def Pc:Value→Option V
 | .none=>some .non
 | .bool b=>some (.bl b)
 | .int i _=>some (.int i)
 | .str x _=>some (.str x)
 | .bytes b _=>some (.jK b)
 | .float b _=>some (.flt b)
 | .ref a=>some (.ref a)
 | .type n=>some (.ty n)
 | _=>none
theorem RelV.abs {x:V} {u:Value} (r:RelV x u):Pc u=some x:=by
 cases x with
 | non=>cases r;rfl
 | bl _=>cases r;rfl
 | int _=>obtain⟨t,rfl⟩:=r;rfl
 | str _=>obtain⟨t,rfl⟩:=r;rfl
 | jK _=>obtain⟨t,rfl⟩:=r;rfl
 | flt _=>obtain⟨t,rfl⟩:=r;rfl
 | ref _=>cases r;rfl
 | ty _=>cases r;rfl
theorem RelV.inj {x y:V} {u:Value} (r:RelV x u) (q:RelV y u):x=y:=Option.some.inj (r.abs.symm.trans q.abs)
theorem Vals.inj:∀{xs ys:List V} {us:List Value},Vals xs us→Vals ys us→xs=ys
 | _,_,_,.nil,.nil=>rfl
 | _,_,_,.cons r t,.cons r' t'=>by rw[r.inj r',Vals.inj t t']
section
variable {X:Cx} {pins:List (Addr×Obj)} {σ:St} {H:Hp} {s:Shared} {a:Addr} {xs ys:List V}
theorem br.of {K:PySem.W.Frag} (h:H a=some (.lst xs)):br K H a xs:=.inl (.inl h)
theorem bH.of {K:PySem.W.Frag} (h:H a=some (.tup xs)):bH K H a xs:=.inl (.inl h)
theorem Inv.list (I:Inv X pins σ H s) (h:br X.K H a xs):∃its:List Value,Vals xs its∧PlainL s.heap a its.toArray∧xs.length≤sizeLine:=by
 rcases h with h | ⟨o,its,n,hk,hc,hd,hs,hz,r⟩
 ·obtain⟨z,its,n,r,e⟩:=h.ok I.hok
  exact⟨its,r,⟨_,n,e,rfl,rfl,rfl⟩,z⟩
 ·refine⟨its.toList,r,⟨o,n,I.g0 a o hk,hc,hd,by simpa using hs⟩,?_⟩
  have e:=r.length
  simp only[Array.length_toList] at e
  omega
theorem Inv.tuple (I:Inv X pins σ H s) (h:bH X.K H a xs):∃its:List Value,Vals xs its∧IsTup s.heap a its.toArray∧xs.length≤sizeLine:=by
 rcases h with h | ⟨o,its,n,hk,hc,hs,hz,r⟩
 ·obtain⟨z,its,r,p⟩:=h.ok I.hok
  exact⟨its,r,p,z.1⟩
 ·refine⟨its.toList,r,⟨o,I.g0 a o hk,hc,n,by simpa using hs⟩,?_⟩
  have e:=r.length
  simp only[Array.length_toList] at e
  omega
theorem Inv.jP (I:Inv X pins σ H s) (h:br X.K H a xs) (h':br X.K H a ys):xs=ys:=by
 obtain⟨its,r,⟨o,n,e,_,_,d⟩,_⟩:=I.list h
 obtain⟨its',r',⟨o',n',e',_,_,d'⟩,_⟩:=I.list h'
 rw[e] at e';cases e'
 rw[d] at d'
 injection d' with d1 _
 have:its=its':=by simpa using congrArg Array.toList d1
 subst this
 exact r.inj r'
theorem Inv.iX (I:Inv X pins σ H s) (h:bH X.K H a xs) (h':bH X.K H a ys):xs=ys:=by
 obtain⟨its,r,⟨o,e,_,n,d⟩,_⟩:=I.tuple h
 obtain⟨its',r',⟨o',e',_,n',d'⟩,_⟩:=I.tuple h'
 rw[e] at e';cases e'
 rw[d] at d'
 injection d' with d1 _
 have:its=its':=by simpa using congrArg Array.toList d1
 subst this
 exact r.inj r'
end
abbrev Cx.wish (X:Cx) (E:Value→Shared→Prop):Cx:={X with xe:=E}
abbrev Cx.pj (X:Cx):Cx:=X.wish fun _ _=>False
theorem Cx.Ok.wish {X:Cx} (ok:X.Ok) (E:Value→Shared→Prop):(X.wish E).Ok:=
 ⟨ok.mod,ok.kind,ok.glob,ok.blt,ok.above,ok.inj,ok.has,ok.cab,ok.hd,ok.frames,ok.stk,ok.HU,ok.bs,ok.nG,ok.vh,ok.vi,ok.g_,ok.tF⟩
theorem Cx.Ok.g6 {X:Cx} {E:Value→Shared→Prop} (ok:(X.wish E).Ok):X.Ok:=
 ⟨ok.mod,ok.kind,ok.glob,ok.blt,ok.above,ok.inj,ok.has,ok.cab,ok.hd,ok.frames,ok.stk,ok.HU,ok.bs,ok.nG,ok.vh,ok.vi,ok.g_,ok.tF⟩
section
variable {X:Cx} {pins:List (Addr×Obj)} {σ:St} {H:Hp} {s:Shared} {E:Value→Shared→Prop}
theorem Inv.wish (I:Inv X pins σ H s) (E:Value→Shared→Prop):Inv (X.wish E) pins σ H s:=⟨I.ok.wish E,I.os,I.bare,I.base,I.loc,I.cell,I.free,I.fO,I.pin,I.hok,I.len⟩
theorem Inv.g6 (I:Inv (X.wish E) pins σ H s):Inv X pins σ H s:=⟨I.ok.g6,I.os,I.bare,I.base,I.loc,I.cell,I.free,I.fO,I.pin,I.hok,I.len⟩
theorem SP.g6 {D:Ends} {f:Flow} {s':Shared} (h:SP (X.wish E) pins D f s'):SP X pins D f s':=by
 cases f with
 | next=>obtain⟨σ',H',I,q⟩:=h;exact⟨σ',H',I.g6,q⟩
 | brk=>obtain⟨σ',H',I,q⟩:=h;exact⟨σ',H',I.g6,q⟩
 | cont=>obtain⟨σ',H',I,q⟩:=h;exact⟨σ',H',I.g6,q⟩
 | ret u=>obtain⟨v,σ',H',I,r,q⟩:=h;exact⟨v,σ',H',I.g6,r,q⟩
theorem jo.pj {st:List Stmt} {t:TS} (h:jo X.pj st t):jo X st t:=fun pins s σ H D I hw=>
 wpAny_mono (h pins s σ H D (I.wish _) hw) (fun _ _ q=>q.g6) fun _ _ z=>False.elim z
end
section
variable {X:Cx} {st:Stmt} {rest:List Stmt} {t u:TS} {e:Expr} {te:TE} {pos:Pos}
def g7:TS:=fun D σ H=>D.nx σ H
def nK (t u:TS):TS:=fun D σ H=>t {D with nx:=u D} σ H
theorem bR:jo X [] g7:=fun _ _ σ H _ I h=>wpAny_execs_nil ⟨σ,H,I,h⟩
theorem ah (h1:PS X st t) (h2:jo X rest u):jo X (st::rest) (nK t u):=by
 intro pins s σ H D I h
 refine wpAny_execs_cons (aK (h1 pins s σ H {D with nx:=u D} I h) fun f s1 q=>?_)
 cases f with
 | next=>
  obtain⟨σ',H',I',q⟩:=q
  exact h2 pins s1 σ' H' D I' q
 | ret v=>exact q
 | brk=>exact q
 | cont=>exact q
theorem au (h1:PS X st t):jo X [st] t:=by
 intro pins s σ H D I h
 refine wpAny_execs_cons (aK (h1 pins s σ H D I h) fun f s1 q=>?_)
 cases f with
 | next=>exact wpAny_execs_nil q
 | ret v=>exact q
 | brk=>exact q
 | cont=>exact q
theorem Inv.quiet {pins:List (Addr×Obj)} {σ:St} {H:Hp} {s:Shared} (I:Inv X pins σ H s):interactive X.env=false:=by simp[interactive,I.ok.kind]
def zh (te:TE):TS:=fun D σ H=>te σ H fun _ H1=>D.nx σ H1
theorem bt (he:PE X e te) (hs:swapsWith e none pos.line X.env=pure false:=by rfl):PS X (.Expr e pos) (zh te):=by
 intro pins s σ H D I h
 exact wpAny_Expr_any (aK (he pins s σ H _ I h) fun v s1 ⟨x,H1,I1,r1,q1⟩=>⟨σ,H1,I1,q1⟩) I.quiet hs
def Pd (te:TE):TS:=fun D σ H=>te σ H D.rt
theorem aR (he:PE X e te):PS X (.Return (some e) pos) (Pd te):=by
 intro pins s σ H D I h
 exact wpAny_Return_some (aK (he pins s σ H _ I h) fun v s1 ⟨x,H1,I1,r1,q1⟩=>⟨x,σ,H1,I1,r1,q1⟩)
def mr (c:TT) (t u:TS):TS:=fun D σ H=>c σ H fun b H1=>if b=true then t D σ H1 else u D σ H1
theorem cX {c:Expr} {a b:List Stmt} {tc:TT} (hc:PT X c tc) (ha:jo X a t) (hb:jo X b u):PS X (.If c a b pos) (mr tc t u):=by
 intro pins s σ H D I h
 refine wpAny_If (aK (hc pins s σ H _ I h) fun d s1 ⟨H1,I1,q1⟩=>?_)
 cases d with
 | true=>exact ha pins s1 σ H1 D I1 q1
 | false=>exact hb pins s1 σ H1 D I1 q1
end
abbrev TG:=V→St→Hp→(St→Hp→Prop)→Prop
abbrev tI:=List V→St→Hp→(St→Hp→Prop)→Prop
def PG (X:Cx) (target:Expr) (t:TG):Prop:=
 ∀(pins:List (Addr×Obj)) (s:Shared) (σ:St) (H:Hp) (v:V) (u:Value) (Q:St→Hp→Prop),Inv X pins σ H s→RelV v u→t v σ H Q→
  wpAny (model X.prog X.w) X.A (assign target X.env u) (fun _ s'=>∃σ' H',Inv X pins σ' H' s'∧Q σ' H') X.xe s
def AI (X:Cx) (ts:List Expr) (t:tI):Prop:=
 ∀(pins:List (Addr×Obj)) (s:Shared) (σ:St) (H:Hp) (vs:List V) (us:List Value) (Q:St→Hp→Prop),Inv X pins σ H s→Vals vs us→t vs σ H Q→
  wpAny (model X.prog X.w) X.A (assignInOrder ((assignEach ts X.env).map (·.2)) us) (fun _ s'=>∃σ' H',Inv X pins σ' H' s'∧Q σ' H') X.xe s
abbrev Dr:=V→V→V→Hp→(Hp→Prop)→Prop
def HX (X:Cx) (t:Dr):Prop:=
 ∀(pins:List (Addr×Obj)) (s:Shared) (σ:St) (H:Hp) (o i v:V) (ov iv u:Value) (Q:Hp→Prop),Inv X pins σ H s→RelV o ov→RelV i iv→RelV v u→t o i v H Q→
  wpAny (model X.prog X.w) X.A (setItem ov iv u) (fun _ s'=>∃H',Inv X pins σ H' s'∧Q H') X.xe s
section
variable {X:Cx} {pos:Pos}
def ay (i:Nat):TG:=fun v σ H Q=>Q (σ.set i (some v)) H
theorem az {i:Nat} {x:Str} (hN:X.N.Nodup) (hi:X.N[i]? =some x) (hx:Loc X.env.scope x) (hf:X.fn x=true∨X.env.scope.names.lookup x=some .local:=by first | exact .inl rfl | exact .inr rfl | assumption):PG X (.Name x pos) (ay i):=by
 intro pins s σ H v u Q I r h
 exact wpAny_assign_Name (mq I hN hi hx r (fun s' I'=>⟨_,H,I',h⟩) hf)
def Pe:tI:=fun vs σ H Q=>vs=[]∧Q σ H
def Mt (t:TG) (u:tI):tI:=fun vs σ H Q=>∃v r,vs=v::r∧t v σ H fun σ' H'=>u r σ' H' Q
theorem jD:AI X [] Pe:=by
 intro pins s σ H vs us Q I r h
 obtain⟨e,h⟩:=h
 subst e
 cases r
 exact assignInOrder_nil ⟨σ,H,I,h⟩
theorem dj {e:Expr} {es:List Expr} {t:TG} {u:tI} (h1:PG X e t) (h2:AI X es u)
  (hs:(assignEach (e::es) X.env).map (·.2)=assign e X.env::(assignEach es X.env).map (·.2):=by rfl):AI X (e::es) (Mt t u):=by
 intro pins s σ H vs us Q I r h
 obtain⟨v,vr,e1,h⟩:=h
 subst e1
 cases r with
 | cons r rr=>
  rw[hs]
  refine assignInOrder_cons (aK (h1 pins s σ H _ _ _ I r h) fun _ s1 ⟨σ1,H1,I1,q1⟩=>?_)
  exact h2 pins s1 σ1 H1 _ _ Q I1 rr q1
def HY (K:PySem.W.Frag) (n:Nat) (t:tI):TG:=fun v σ H Q=>∃a xs,v=.ref a∧bH K H a xs∧xs.length=n∧t xs σ H Q
theorem nL {es:List Expr} {k:Nat} {t:tI} {n:Nat} (hc:X.calm=true) (h:AI X es t)
  (hn:(assignEach es X.env).length=n:=by rfl) (hst:(assignEach es X.env).findIdx? (·.1)=none:=by rfl):PG X (.Tuple es k pos) (HY X.K n t):=by
 intro pins s σ H v u Q I r hw
 obtain⟨a,xs,e1,hq,hl,hw⟩:=hw
 subst e1
 cases r
 obtain⟨its,rv,ht,hz⟩:=I.tuple hq
 refine assign_Tuple_tuple (I.ok.hd hc) ht (by simp[hn,←hl,rv.length]) hst fun h' hx=>?_
 have I1:Inv X pins σ H {s with heap:=h'}:=I.kept (t':=s.toks) fun b o e=>hx b o (Nat.ne_of_lt (Heap.lt_size e)) e
 exact h pins _ σ H xs _ Q I1 (by simpa using rv) hw
def Pf (to ti:TE) (t:Dr):TG:=fun v σ H Q=>to σ H fun o H1=>ti σ H1 fun i H2=>t o i v H2 fun H3=>Q σ H3
theorem AJ {o i:Expr} {to ti:TE} {t:Dr} (ho:PE X o to) (hi:PE X i ti) (hs:HX X t)
  (ha:∀v,assign (.Subscript o i pos) X.env v=(do
   let ov ←holding [v] (eval o X.env)
   let iv ←holding [v,ov] (eval i X.env)
   standAt pos
   holding [v,ov,iv] (setItem ov iv v)
   release [v,ov,iv] []):=by intro _;rfl):PG X (.Subscript o i pos) (Pf to ti t):=by
 intro pins s σ H v u Q I r h
 rw[ha]
 refine wpAny_bind (wpAny_holding (aK (ho pins s σ H _ I h) fun ov s1 ⟨x,H1,I1,r1,q1⟩=>?_))
 refine wpAny_bind (wpAny_holding (aK (hi pins s1 σ H1 _ I1 q1) fun iv s2 ⟨y,H2,I2,r2,q2⟩=>?_))
 refine wpAny_bind (wpAny_standAt (wpAny_bind (wpAny_holding (aK (hs pins s2 σ H2 x y v ov iv u _ I2 r1 r2 r q2) fun _ s3 ⟨H3,I3,q3⟩=>?_))))
 exact wpAny_release ⟨σ,H3,I3,q3⟩
def kX (te:TE) (g:TG):TS:=fun D σ H=>te σ H fun x H1=>g x σ H1 D.nx
theorem qe {tg e:Expr} {te:TE} {g:TG} (he:PE X e te) (hg:PG X tg g) (hs:swapsWithSole [tg] e pos.line X.env=pure false:=by rfl) (hw:swappedStores [tg] e X.env=pure none:=by rfl)
  (h1:(assignEach [tg] X.env).map (·.2)=[assign tg X.env]:=by rfl):PS X (.Assign [tg] e pos) (kX te g):=by
 intro pins s σ H D I h
 refine wpAny_Assign_stores (aK (he pins s σ H _ I h) fun v s1 ⟨x,H1,I1,r1,q1⟩=>?_) hs hw
 rw[h1]
 exact aK (hg pins s1 σ H1 x v _ I1 r1 q1) fun _ s2 q=>q
theorem av {i:Nat} {x:Str} {e:Expr} {te:TE} {pos':Pos} (hN:X.N.Nodup) (hi:X.N[i]? =some x) (hx:Loc X.env.scope x) (he:PE X e te) (hs:swapsWith e (some (.Name x pos')) pos.line X.env=pure false:=by rfl) (hf:X.fn x=true∨X.env.scope.names.lookup x=some .local:=by first | exact .inl rfl | exact .inr rfl | assumption):
  PS X (.Assign [.Name x pos'] e pos) (kX te (ay i)):=by
 intro pins s σ H D I h
 refine wpAny_Assign_Name (aK (he pins s σ H _ I h) fun v s1 ⟨y,H1,I1,r1,q1⟩=>?_) hs
 exact mq I1 hN hi hx r1 (fun s2 I2=>⟨_,H1,I2,q1⟩) hf
def nO (c:TT) (tb:TS):TS:=fun D σ H=>∃W:Nat→St→Hp→Prop,(∃m,W m σ H)∧∀m σ H,W m σ H→
 c σ H fun b H1=>if b=true then ∃N:St→Hp→Prop,(∀σ' H',N σ' H'→∃m',m'<m∧W m' σ' H')∧tb {D with nx:=N,ct:=N,bk:=D.nx} σ H1 else D.nx σ H1
theorem ip {c:Expr} {body:List Stmt} {tc:TT} {tb:TS} (hp:PassesOwn (model X.prog X.w) X.A X.env X.xe) (hc:PT X c tc) (hb:jo X body tb):PS X (.While c body [] pos) (nO tc tb):=by
 intro pins s σ H D I h
 obtain⟨W,⟨m0,w0⟩,turn⟩:=h
 refine wpAny_While (codeAny_whileLoop (fun n s'=>∃σ' H',Inv X pins σ' H' s'∧W n σ' H') ?_ m0 ⟨σ,H,I,w0⟩)
 rintro n s1 ⟨σ1,H1,I1,w1⟩
 refine wpAny_passesOwn hp (aK (hc pins s1 σ1 H1 _ I1 (turn n σ1 H1 w1)) fun b s2 ⟨H2,I2,q2⟩=>?_)
 cases b with
 | true=>
  obtain⟨N,hN,q2⟩:=q2
  rw[if_pos rfl]
  refine wpAny_passesOwn hp (aK (hb pins s2 σ1 H2 _ I2 q2) fun f s3 q3=>?_)
  cases f with
  | next=>
   obtain⟨σ3,H3,I3,n3⟩:=q3
   obtain⟨m',hm,w3⟩:=hN σ3 H3 n3
   exact⟨m',hm,σ3,H3,I3,w3⟩
  | cont=>
   obtain⟨σ3,H3,I3,n3⟩:=q3
   obtain⟨m',hm,w3⟩:=hN σ3 H3 n3
   exact⟨m',hm,σ3,H3,I3,w3⟩
  | brk=>exact q3
  | ret v=>exact q3
 | false=>
  rw[if_neg Bool.false_ne_true]
  exact wpAny_execs_nil ⟨σ1,H2,I2,q2⟩
end
structure It where
 go:Nat→Hp→Prop
 pq:Nat→Hp→V→Hp→Prop
 stop:Nat→Hp→Prop
def gf (X:Cx) (pins:List (Addr×Obj)) (H:Hp) (b:Addr):Prop:=
 H b=none∧b≠X.env.locals∧b ∉ X.fs∧(b∈X.ex∨X.s₀.heap.objs.size≤b)∧(∀x c,X.env.cells.lookup x=some c→c≠b)∧∀p∈X.pn++pins,p.1≠b
theorem Inv.jb {X:Cx} {pins:List (Addr×Obj)} {σ:St} {H H':Hp} {s:Shared} {b:Addr} (I:Inv X pins σ H s) (hb:s.heap.objs.size≤b) (hn:H' b=none):gf X pins H' b:=by
 refine⟨hn,Nat.ne_of_gt (Nat.lt_of_lt_of_le I.lt hb),I.O8 hb,.inr (Nat.le_trans I.sz hb),fun x c e z=>?_,fun p hp z=>?_⟩
 ·obtain⟨v,q⟩:=I.cell x c e
  exact absurd (Nat.lt_of_lt_of_le q.lt (by rw[z];exact hb)) (Nat.lt_irrefl _)
 ·exact absurd (Nat.lt_of_lt_of_le (Heap.lt_size (I.pin p hp).1) (by rw[z];exact hb)) (Nat.lt_irrefl _)
structure Turn (P:Program) (w:World) (K:PySem.W.Frag) (tg:Expr) (J:It) (fp:List Addr) (it:Addr) (tn:Nat→Heap→Prop):Prop where
 mem:it∈fp
 obj:∀i h,tn i h→∀b∈fp,∃o,h.get? b=some o∧∀v,o.data≠.cell v
 keep:∀i h h',tn i h→(∀b∈fp,∀o,h.get? b=some o→h'.get? b=some o)→tn i h'
 item:∀(X:Cx),X.prog=P→X.w=w→X.K=K→X.calm=true→∀(i:Nat) (pins:List (Addr×Obj)) (s:Shared) (σ:St) (H:Hp) (E:Value→Shared→Prop),Inv X pins σ H s→(∀b∈fp,gf X pins H b)→tn i s.heap→J.go i H→
  wpAny (model P w) X.A (pyNext (.ref it)) (fun r s1=>∃u,r=some u∧
   wpAny (model P w) X.A (letOwnedTupleGo tg (.ref it) u) (fun _ s2=>∃x H',Inv X pins σ H' s2∧RelV x u∧J.pq i H x H'∧tn (i+1) s2.heap∧∀b∈fp,H' b=none) E s1) E s
 done:∀(X:Cx),X.prog=P→X.w=w→X.K=K→X.calm=true→∀(i:Nat) (pins:List (Addr×Obj)) (s:Shared) (σ:St) (H:Hp) (E:Value→Shared→Prop),Inv X pins σ H s→(∀b∈fp,gf X pins H b)→tn i s.heap→J.stop i H→
  wpAny (model P w) X.A (pyNext (.ref it)) (fun r s1=>r=none∧Inv X pins σ H s1) E s
 self:∀(A:Around) (i:Nat) (s:Shared) (Q:Value→Shared→Prop) (E:Value→Shared→Prop),tn i s.heap→Q (.ref it) s→wpAny (model P w) A (pyIter (.ref it)) Q E s
abbrev TI:=St→Hp→(It→Hp→Prop)→Prop
def PIE (X:Cx) (pins:List (Addr×Obj)) (σ:St) (tg:Expr) (R:It→Hp→Prop) (itv:Value) (s2:Shared):Prop:=
 ∃(it:Addr) (fp:List Addr) (tn:Nat→Heap→Prop) (J:It) (H':Hp),itv=.ref it∧Inv X pins σ H' s2∧Turn X.prog X.w X.K tg J fp it tn∧tn 0 s2.heap∧(∀b∈fp,gf X pins H' b)∧R J H'
def PI (X:Cx) (tg iter:Expr) (wi:TI):Prop:=
 ∀(pins:List (Addr×Obj)) (s:Shared) (σ:St) (H:Hp) (R:It→Hp→Prop),Inv X pins σ H s→wi σ H R→
  wpAny (model X.prog X.w) X.A (eval iter X.env) (fun v s1=>wpAny (model X.prog X.w) X.A (pyIter v) (PIE X pins σ tg R) X.xe s1) X.xe s
theorem uZ {M:Model} {A:Around} {E:Value→Shared→Prop} {s:Shared} {tg:Expr} {it:Addr} {u:Value} {o:Obj} {n:String} {vs:Array Value} {Q:Unit→Shared→Prop} (ho:s.heap.get? it=some o) (hc:o.cls=.type n) (hd:o.data=.fields vs)
  (hn:["enumerate","zip","dict_itemiterator","dict_reverseitemiterator","odict_iterator","itertools.zip_longest","itertools.pairwise"].contains n=false) (hQ:Q () s):wpAny M A (letOwnedTupleGo tg (.ref it) u) Q E s:=by
 unfold letOwnedTupleGo
 cases tg<;>first
  | exact wpAny_pure hQ
  | (cases u<;>first
    | exact wpAny_pure hQ
    | (refine wpAny_bind (wpAny_load ho ?_)
       rw[hc,hd]
       show wpAny M A (if(["enumerate","zip","dict_itemiterator","dict_reverseitemiterator","odict_iterator","itertools.zip_longest","itertools.pairwise"].contains n&&vs[0]? == some (rawInt _))=true then _ else _) Q E s
       rw[if_neg (by intro h;rw[hn,Bool.false_and] at h;cases h)]
       exact wpAny_pure hQ))
def vm (K:PySem.W.Frag) (a:Addr):It:=
 ⟨fun i H=>∃xs x,br K H a xs∧xs[i]? =some x,fun i H x H'=>H'=H∧∀xs,br K H a xs→xs[i]? =some x,fun i H=>∃xs,br K H a xs∧xs.length≤i⟩
def vn (K:PySem.W.Frag) (a:Addr):It:=
 ⟨fun i H=>∃xs x,bH K H a xs∧xs[i]? =some x,fun i H x H'=>H'=H∧∀xs,bH K H a xs→xs[i]? =some x,fun i H=>∃xs,bH K H a xs∧xs.length≤i⟩
def qf (lo:Int) (n:Nat):It:=⟨fun i _=>i<n,fun i H x H'=>H'=H∧x=.int (lo+i),fun i _=>n≤i⟩
theorem AK {P:Program} {w:World} {K:PySem.W.Frag} {tg:Expr} (a it:Addr):Turn P w K tg (vm K a) [it] it (fun i h=>h.IsListIter it a i) where
 mem:=by simp
 obj:=fun i h st b hb=>by
  have e:b=it:=by simpa using hb
  subst e
  obtain⟨o,e,c,d⟩:=st
  exact⟨o,e,fun v z=>by rw[d] at z;cases z⟩
 keep:=fun i h h' st k=>st.at fun o e=>k it (by simp) o e
 item:=by
  intro X hP hw hK hc i pins s σ H E I hf st hg
  subst hP hw hK
  obtain⟨xs,x,hq,hx⟩:=hg
  obtain⟨its,rv,p,hz⟩:=I.list hq
  obtain⟨u,hu,ru⟩:=rv.get hx
  obtain⟨f0,f1,f2,f3,f4,f5⟩:=hf it (by simp)
  refine wpAny_pyNext_list_item st p.isList (x:=u) (by simpa using hu) fun h' st' sb=>?_
  have I1:Inv X pins σ H {s with heap:=h'}:=I.turned (t':=s.toks) (fun b o hb e=>(sb.2 b hb).trans e) f0 f1 f3 f4 f5
  obtain⟨o,e,c,d⟩:=id st'
  exact⟨u,rfl,uZ (s:={s with heap:=h'}) e c d (by decide) ⟨x,H,I1,ru,⟨rfl,fun ys hy=>by rw[I.jP hy hq];exact hx⟩,st',fun b hb=>(hf b hb).1⟩⟩
 done:=by
  intro X hP hw hK hc i pins s σ H E I hf st hg
  subst hP hw hK
  obtain⟨xs,hq,hx⟩:=hg
  obtain⟨its,rv,p,hz⟩:=I.list hq
  obtain⟨f0,f1,f2,f3,f4,f5⟩:=hf it (by simp)
  have hl:=rv.length
  exact wpAny_pyNext_list_end (I.ok.hd hc) st p.isList (by simp;omega) fun h' eb=>⟨rfl,I.turned (t':=s.toks) (fun b o hb e=>eb b o hb e) f0 f1 f3 f4 f5⟩
 self:=fun _ _ _ _ _ st h=>wpAny_pyIter_listiter st h
theorem zi {P:Program} {w:World} {K:PySem.W.Frag} {tg:Expr} (a it:Addr):Turn P w K tg (vn K a) [it] it (fun i h=>h.IsTupleIter it a i) where
 mem:=by simp
 obj:=fun i h st b hb=>by
  have e:b=it:=by simpa using hb
  subst e
  obtain⟨o,e,c,d⟩:=st
  exact⟨o,e,fun v z=>by rw[d] at z;cases z⟩
 keep:=fun i h h' st k=>st.at fun o e=>k it (by simp) o e
 item:=by
  intro X hP hw hK hc i pins s σ H E I hf st hg
  subst hP hw hK
  obtain⟨xs,x,hq,hx⟩:=hg
  obtain⟨its,rv,p,hz⟩:=I.tuple hq
  obtain⟨u,hu,ru⟩:=rv.get hx
  obtain⟨f0,f1,f2,f3,f4,f5⟩:=hf it (by simp)
  refine wpAny_pyNext_tuple_item st (show s.heap.IsTuple a its.toArray from p) (x:=u) (by simpa using hu) fun h' st' sb=>?_
  have I1:Inv X pins σ H {s with heap:=h'}:=I.turned (t':=s.toks) (fun b o hb e=>(sb.2 b hb).trans e) f0 f1 f3 f4 f5
  obtain⟨o,e,c,d⟩:=id st'
  exact⟨u,rfl,uZ (s:={s with heap:=h'}) e c d (by decide) ⟨x,H,I1,ru,⟨rfl,fun ys hy=>by rw[I.iX hy hq];exact hx⟩,st',fun b hb=>(hf b hb).1⟩⟩
 done:=by
  intro X hP hw hK hc i pins s σ H E I hf st hg
  subst hP hw hK
  obtain⟨xs,hq,hx⟩:=hg
  obtain⟨its,rv,p,hz⟩:=I.tuple hq
  obtain⟨f0,f1,f2,f3,f4,f5⟩:=hf it (by simp)
  have hl:=rv.length
  exact wpAny_pyNext_tuple_end (I.ok.hd hc) st (show s.heap.IsTuple a its.toArray from p) (by simp;omega) fun h' eb=>⟨rfl,I.turned (t':=s.toks) (fun b o hb e=>eb b o hb e) f0 f1 f3 f4 f5⟩
 self:=fun _ _ _ _ _ st h=>wpAny_pyIter_tupleiter st h
theorem zj {P:Program} {w:World} {K:PySem.W.Frag} {tg:Expr} (it:Addr) (lo:Int) (n:Nat):Turn P w K tg (qf lo n) [it] it (fun i h=>IsRangeIter h it (lo+(i:Nat)*1) ((n:Int)-(i:Nat)) 1) where
 mem:=by simp
 obj:=fun i h st b hb=>by
  have e:b=it:=by simpa using hb
  subst e
  exact⟨_,st,fun v z=>by
   have z':Data.fields _=Data.cell v:=z
   cases z'⟩
 keep:=fun i h h' st k=>k it (by simp) _ st
 item:=by
  intro X hP hw hK hc i pins s σ H E I hf st hg
  subst hP hw hK
  obtain⟨f0,f1,f2,f3,f4,f5⟩:=hf it (by simp)
  have W:=Walks.range (prog:=X.prog) (w:=X.w) (I.ok.hd hc) it lo 1 n
  refine W.item i s _ _ hg st fun v h' tk hv st' kk=>?_
  obtain⟨t,rfl⟩:=hv
  have I1:Inv X pins σ H {s with heap:=h',toks:=tk}:=I.turned (fun b o hb e=>kk b o (by simpa using hb) e) f0 f1 f3 f4 f5
  refine⟨_,rfl,uZ (s:={s with heap:=h',toks:=tk}) (n:="range_iterator") st' rfl rfl (by decide) ⟨.int (lo+i),H,I1,⟨t,?_⟩,⟨rfl,rfl⟩,st',fun b hb=>(hf b hb).1⟩⟩
  rw[Int.mul_one]
 done:=by
  intro X hP hw hK hc i pins s σ H E I hf st hg
  subst hP hw hK
  obtain⟨f0,f1,f2,f3,f4,f5⟩:=hf it (by simp)
  exact wpAny_pyNext_range_end (I.ok.hd hc) st (by have:n≤i:=hg;omega) fun h' eb=>⟨rfl,I.turned (t':=s.toks) (fun b o hb e=>eb b o hb e) f0 f1 f3 f4 f5⟩
 self:=fun _ _ _ _ _ st h=>wpAny_pyIter_rangeiter st h
section
variable {X:Cx} {tg:Expr}
def Mu (K:PySem.W.Frag) (tl:TE):TI:=fun σ H R=>tl σ H fun x H1=>∃a,x=.ref a∧(∃xs,br K H1 a xs)∧R (vm K a) H1
def HZ (K:PySem.W.Frag) (tl:TE):TI:=fun σ H R=>tl σ H fun x H1=>∃a,x=.ref a∧(∃xs,bH K H1 a xs)∧R (vn K a) H1
theorem cb {l:Expr} {tl:TE} (hl:PE X l tl):PI X tg l (Mu X.K tl):=by
 intro pins s σ H R I h
 refine aK (hl pins s σ H _ I h) fun v s1 ⟨x,H1,I1,r1,q1⟩=>?_
 obtain⟨a,e,⟨xs,hq⟩,q⟩:=q1
 subst e
 cases r1
 obtain⟨its,rv,p,hz⟩:=I1.list hq
 refine wpAny_pyIter_list p.isList ?_
 refine⟨s1.heap.objs.size,[s1.heap.objs.size],_,_,H1,rfl,I1.kept (t':=s1.toks) fun b o e=>Heap.get?_push_of_some _ e,AK a _,⟨_,Heap.get?_push_size _ rfl,rfl,rfl⟩,fun b hb=>?_,q⟩
 have e:b=s1.heap.objs.size:=by simpa using hb
 subst e
 exact I1.jb (Nat.le_refl _) (I1.hok.fresh (Nat.le_refl _))
theorem fF {l:Expr} {tl:TE} (hl:PE X l tl):PI X tg l (HZ X.K tl):=by
 intro pins s σ H R I h
 refine aK (hl pins s σ H _ I h) fun v s1 ⟨x,H1,I1,r1,q1⟩=>?_
 obtain⟨a,e,⟨xs,hq⟩,q⟩:=q1
 subst e
 cases r1
 obtain⟨its,rv,p,hz⟩:=I1.tuple hq
 refine wpAny_pyIter_tuple (show s1.heap.IsTuple a its.toArray from p) ?_
 refine⟨s1.heap.objs.size,[s1.heap.objs.size],_,_,H1,rfl,I1.kept (t':=s1.toks) fun b o e=>Heap.get?_push_of_some _ e,zi a _,⟨_,Heap.get?_push_size _ rfl,rfl,rfl⟩,fun b hb=>?_,q⟩
 have e:b=s1.heap.objs.size:=by simpa using hb
 subst e
 exact I1.jb (Nat.le_refl _) (I1.hok.fresh (Nat.le_refl _))
theorem vo {pins:List (Addr×Obj)} {σ:St} {H:Hp} {s:Shared} {R:It→Hp→Prop} {E:Value→Shared→Prop} {lo hi:Int} {t u v:Tok} {tk:Nat} (I:Inv X pins σ H s) (h1: -(2 ^ 62)≤lo) (h2:lo<2 ^ 62) (h3: -(2 ^ 62)≤hi) (h4:hi<2 ^ 62)
  (q:R (qf lo (hi-lo).toNat) H):wpAny (model X.prog X.w) X.A (pyIter (.ref s.heap.objs.size)) (PIE X pins σ tg R) E {s with heap:=s.heap.push {cls:=.type "range",data:=.fields #[.int lo t,.int hi u,.int 1 v]},toks:=tk}:=by
 refine wpAny_pyIter_range (IsRange.new ..) (small_one h1 h2 h3 h4) ?_
 have I1:Inv X pins σ H {s with heap:=s.heap.push {cls:=.type "range",data:=.fields #[.int lo t,.int hi u,.int 1 v]},toks:=tk}:=I.kept fun b o e=>Heap.get?_push_of_some _ e
 refine⟨(s.heap.push {cls:=.type "range",data:=.fields #[.int lo t,.int hi u,.int 1 v]}).objs.size,[(s.heap.push {cls:=.type "range",data:=.fields #[.int lo t,.int hi u,.int 1 v]}).objs.size],_,_,H,rfl,
  I1.kept (t':=tk) fun b o e=>Heap.get?_push_of_some _ e,zj _ lo (hi-lo).toNat,?_,fun b hb=>?_,q⟩
 ·have e1:lo+((0:Nat):Int)*1=lo:=by simp
  have e2:(((hi-lo).toNat:Nat):Int)-((0:Nat):Int)=Builtin.Range.rangeSize lo hi 1:=by rw[rangeSize_one];split<;>omega
  show IsRangeIter _ _ (lo+((0:Nat):Int)*1) ((((hi-lo).toNat:Nat):Int)-((0:Nat):Int)) 1
  rw[e1,e2]
  exact Heap.get?_push_size _ rfl
 ·have e:b=(s.heap.push {cls:=.type "range",data:=.fields #[.int lo t,.int hi u,.int 1 v]}).objs.size:=by simpa using hb
  subst e
  exact I1.jb (Nat.le_refl _) (I1.hok.fresh (Nat.le_refl _))
def Mw (ta:TA):TI:=fun σ H R=>ta σ H fun vs H1=>∃j:Int,vs=[.int j]∧ -(2 ^ 62)≤j∧j<2 ^ 62∧R (qf 0 j.toNat) H1
def Mx (ta:TA):TI:=fun σ H R=>ta σ H fun vs H1=>∃i j:Int,vs=[.int i,.int j]∧(-(2 ^ 62)≤i∧i<2 ^ 62∧ -(2 ^ 62)≤j∧j<2 ^ 62)∧R (qf i (j-i).toNat) H1
theorem bM {a:Expr} {ta:TA} {p pos:Pos} (hg:Gl X "range") (hm:X.mg "range"=none) (ha:PA X [a] ta) (hs:starEach [a] X.env=[(false,eval a X.env)]:=by rfl):PI X tg (.Call (.Name "range" p) [a] [] pos) (Mw ta):=by
 intro pins s σ H R I h
 refine Call_ (g5 I hg hm boot_range (PyProof.Rows.callWith_type1 (aK (ha pos pins s σ H _ I h) fun us s1 ⟨vs,H1,I1,r1,q1⟩=>?_) hs rfl))
 obtain⟨j,e,q1,q2,q⟩:=q1
 subst e
 cases r1 with
 | cons r rr=>
  cases rr
  obtain⟨t,rfl⟩:=r
  exact call_range_1 (vo I1 (by omega) (by omega) q1 q2 (by simpa using q))
theorem AL {a b:Expr} {ta:TA} {p pos:Pos} (hg:Gl X "range") (hm:X.mg "range"=none) (ha:PA X [a,b] ta) (hs:starEach [a,b] X.env=[(false,eval a X.env),(false,eval b X.env)]:=by rfl) (hs2:starEach [b] X.env=[(false,eval b X.env)]:=by rfl):
  PI X tg (.Call (.Name "range" p) [a,b] [] pos) (Mx ta):=by
 intro pins s σ H R I h
 refine Call_ (g5 I hg hm boot_range (PyProof.Rows.callWith_type1 (aK (ha pos pins s σ H _ I h) fun us s1 ⟨vs,H1,I1,r1,q1⟩=>?_) (by rw[hs,hs2]) (by rw[hs2];rfl)))
 obtain⟨i,j,e,⟨q1,q2,q3,q4⟩,q⟩:=q1
 subst e
 cases r1 with
 | cons r rr=>
  cases rr with
  | cons r' rr=>
   cases rr
   obtain⟨t,rfl⟩:=r
   obtain⟨t',rfl⟩:=r'
   exact call_range_2 (vo I1 q1 q2 q3 q4 q)
def Pg (wi:TI) (g:TG) (tb:TS):TS:=fun D σ H=>wi σ H fun J H1=>∃W:Nat→Nat→St→Hp→Prop,(∃m,W 0 m σ H1)∧∀i m σ H,W i m σ H→
 (J.stop i H∧D.nx σ H)∨(J.go i H∧∃N:St→Hp→Prop,(∀σ' H',N σ' H'→∃m',m'<m∧W (i+1) m' σ' H')∧∀x H',J.pq i H x H'→g x σ H' fun σ2 H2=>tb {D with nx:=N,ct:=N,bk:=D.nx} σ2 H2)
def nP (fp:List Addr) (h:Heap):List (Addr×Obj):=fp.filterMap fun b=>(h.get? b).map fun o=>(b,o)
theorem jt {fp:List Addr} {h:Heap} {b:Addr} {o:Obj} (hb:b∈fp) (e:h.get? b=some o):(b,o)∈nP fp h:=List.mem_filterMap.mpr ⟨b,hb,by rw[e];rfl⟩
theorem AN {fp:List Addr} {h:Heap} {p:Addr×Obj} (hp:p∈nP fp h):p.1∈fp∧h.get? p.1=some p.2:=by
 obtain⟨b,hb,e⟩:=List.mem_filterMap.mp hp
 cases q:h.get? b with
 | none=>rw[q] at e;cases e
 | some o=>
  rw[q] at e
  have e':(b,o)=p:=Option.some.inj e
  subst e'
  exact⟨hb,q⟩
theorem Inv.pinned {pins:List (Addr×Obj)} {σ:St} {H:Hp} {s:Shared} {fp:List Addr} (I:Inv X pins σ H s) (hf:∀b∈fp,gf X pins H b) (ho:∀b∈fp,∃o,s.heap.get? b=some o∧∀v,o.data≠.cell v):Inv X (pins++nP fp s.heap) σ H s:=
 I.x4 fun p hp=>(List.mem_append.mp hp).elim (fun z=>I.pin p (List.mem_append_right _ z)) fun z=>by
  obtain⟨hb,e⟩:=AN z
  obtain⟨f0,f1,f2,_⟩:=hf p.1 hb
  obtain⟨o,e',d⟩:=ho p.1 hb
  rw[e] at e';cases e'
  exact⟨e,f0,f1,f2,d⟩
theorem Inv.mx {pins pl:List (Addr×Obj)} {σ:St} {H:Hp} {s:Shared} (I:Inv X (pins++pl) σ H s):Inv X pins σ H s:=I.x4 fun p hp=>I.pin p (List.mem_append_right _ (List.mem_append_left _ hp))
theorem bq {iter:Expr} {body:List Stmt} {wi:TI} {g:TG} {tb:TS} {pos:Pos} (hp:PassesOwn (model X.prog X.w) X.A X.env X.xe) (hc:X.calm=true) (hi:PI X tg iter wi) (hg:PG X tg g) (hb:jo X body tb)
  (hs:∀x,foldedSetIterable iter X.env x=pure x:=by intro _;rfl):PS X (.For tg iter body [] pos) (Pg wi g tb):=by
 intro pins s σ H D I h
 refine wpAny_For (aK (hi pins s σ H _ I h) fun v s1 h1=>aK h1 fun itv s2 h2=>?_) hs
 obtain⟨it,fp,tn,J,H2,e,I2,T,st2,f2,W,⟨m0,w0⟩,turn⟩:=h2
 subst e
 have stat:∀{H':Hp},(∀b∈fp,H' b=none)→∀b∈fp,gf X pins H' b:=fun hn b hb=>⟨hn b hb,(f2 b hb).2⟩
 refine codeAny_forLoop_any (fun n s'=>∃i σ' H',Inv X pins σ' H' s'∧tn i s'.heap∧(∀b∈fp,H' b=none)∧W i n σ' H') ?_ m0 ⟨0,σ,H2,I2,st2,fun b hb=>(f2 b hb).1,w0⟩
 rintro n s3 ⟨i,σ3,H3,I3,st3,Nr,w3⟩
 rcases turn i n σ3 H3 w3 with⟨stop,qn⟩ | ⟨go,N,hN,step⟩
 ·refine wpAny_passesOwn hp (aK (T.done X rfl rfl rfl hc i pins s3 σ3 H3 X.xe I3 (stat Nr) st3 stop) fun r s4 ⟨hr,I4⟩=>?_)
  subst hr
  exact wpAny_execs_nil ⟨σ3,H3,I4,qn⟩
 ·refine wpAny_passesOwn hp (aK (T.item X rfl rfl rfl hc i pins s3 σ3 H3 X.xe I3 (stat Nr) st3 go) fun r s4 ⟨u,hr,h4⟩=>?_)
  subst hr
  refine wpAny_passesOwn hp (aK h4 fun _ s5 ⟨x,H5,I5,r5,y5,x6,Fe⟩=>?_)
  have Si:=I5.pinned (stat Fe) (T.obj _ _ x6)
  refine wpAny_passesOwn hp (aK (hg _ s5 σ3 H5 x u _ Si r5 (step x H5 y5)) fun _ s6 ⟨σ6,H6,I6,q6⟩=>?_)
  refine wpAny_passesOwn hp (aK (hb _ s6 σ6 H6 _ I6 q6) fun f s7 q7=>?_)
  have again:∀{σ7:St} {H7:Hp},Inv X (pins++nP fp s5.heap) σ7 H7 s7→N σ7 H7→∃m,m<n∧∃i σ' H',Inv X pins σ' H' s7∧tn i s7.heap∧(∀b∈fp,H' b=none)∧W i m σ' H':=fun {σ7 H7} I7 n7=>by
   obtain⟨m',hm,w7⟩:=hN σ7 H7 n7
   refine⟨m',hm,i+1,σ7,H7,I7.mx,T.keep _ _ _ x6 fun b hb o e=>(I7.pin (b,o) (List.mem_append_right _ (List.mem_append_right _ (jt hb e)))).1,fun b hb=>?_,w7⟩
   obtain⟨o,e,d⟩:=T.obj _ _ x6 b hb
   exact(I7.pin (b,o) (List.mem_append_right _ (List.mem_append_right _ (jt hb e)))).2.1
  cases f with
  | next=>obtain⟨σ7,H7,I7,n7⟩:=q7;exact again I7 n7
  | cont=>obtain⟨σ7,H7,I7,n7⟩:=q7;exact again I7 n7
  | brk=>obtain⟨σ7,H7,I7,q7⟩:=q7;exact⟨σ7,H7,I7.mx,q7⟩
  | ret v=>obtain⟨x7,σ7,H7,I7,r7,q7⟩:=q7;exact⟨x7,σ7,H7,I7.mx,r7,q7⟩
end
theorem iq {K:PySem.W.Frag} {a:Addr} {xs:List V} {g:TG} {tb:TS} {D:Ends} {σ:St} {H:Hp} (Pv:Nat→St→Hp→Prop) (h0:Pv 0 σ H) (hl:∀i σ H,i≤xs.length→Pv i σ H→br K H a xs)
  (hs:∀i x σ H,xs[i]? =some x→Pv i σ H→g x σ H fun σ2 H2=>tb {D with nx:=Pv (i+1),ct:=Pv (i+1),bk:=D.nx} σ2 H2) (hd:∀σ H,Pv xs.length σ H→D.nx σ H):
  ∃W:Nat→Nat→St→Hp→Prop,(∃m,W 0 m σ H)∧∀i m σ H,W i m σ H→
   ((vm K a).stop i H∧D.nx σ H)∨((vm K a).go i H∧∃N:St→Hp→Prop,(∀σ' H',N σ' H'→∃m',m'<m∧W (i+1) m' σ' H')∧∀x H',(vm K a).pq i H x H'→g x σ H' fun σ2 H2=>tb {D with nx:=N,ct:=N,bk:=D.nx} σ2 H2):=by
 refine⟨fun i m σ H=>m=xs.length-i∧i≤xs.length∧Pv i σ H,⟨xs.length,by simp,Nat.zero_le _,h0⟩,?_⟩
 rintro i m σ H ⟨rfl,hi,p⟩
 have q:=hl i σ H hi p
 by_cases hlt:i<xs.length
 ·refine .inr ⟨⟨xs,xs[i],q,by simp[hlt]⟩,Pv (i+1),fun σ' H' p'=>⟨xs.length-(i+1),by omega,rfl,hlt,p'⟩,fun x H' y=>?_⟩
  obtain⟨e,y⟩:=y
  subst e
  exact hs i x σ _ (y xs q) p
 ·have e:i=xs.length:=by omega
  subst e
  exact .inl ⟨⟨xs,q,Nat.le_refl _⟩,hd σ H p⟩
theorem x8 {K:PySem.W.Frag} {a:Addr} {xs:List V} {g:TG} {tb:TS} {D:Ends} {σ:St} {H:Hp} (Pv:Nat→St→Hp→Prop) (h0:Pv 0 σ H) (hl:∀i σ H,i≤xs.length→Pv i σ H→bH K H a xs)
  (hs:∀i x σ H,xs[i]? =some x→Pv i σ H→g x σ H fun σ2 H2=>tb {D with nx:=Pv (i+1),ct:=Pv (i+1),bk:=D.nx} σ2 H2) (hd:∀σ H,Pv xs.length σ H→D.nx σ H):
  ∃W:Nat→Nat→St→Hp→Prop,(∃m,W 0 m σ H)∧∀i m σ H,W i m σ H→
   ((vn K a).stop i H∧D.nx σ H)∨((vn K a).go i H∧∃N:St→Hp→Prop,(∀σ' H',N σ' H'→∃m',m'<m∧W (i+1) m' σ' H')∧∀x H',(vn K a).pq i H x H'→g x σ H' fun σ2 H2=>tb {D with nx:=N,ct:=N,bk:=D.nx} σ2 H2):=by
 refine⟨fun i m σ H=>m=xs.length-i∧i≤xs.length∧Pv i σ H,⟨xs.length,by simp,Nat.zero_le _,h0⟩,?_⟩
 rintro i m σ H ⟨rfl,hi,p⟩
 have q:=hl i σ H hi p
 by_cases hlt:i<xs.length
 ·refine .inr ⟨⟨xs,xs[i],q,by simp[hlt]⟩,Pv (i+1),fun σ' H' p'=>⟨xs.length-(i+1),by omega,rfl,hlt,p'⟩,fun x H' y=>?_⟩
  obtain⟨e,y⟩:=y
  subst e
  exact hs i x σ _ (y xs q) p
 ·have e:i=xs.length:=by omega
  subst e
  exact .inl ⟨⟨xs,q,Nat.le_refl _⟩,hd σ H p⟩
theorem kh {lo:Int} {n:Nat} {g:TG} {tb:TS} {D:Ends} {σ:St} {H:Hp} (Pv:Nat→St→Hp→Prop) (h0:Pv 0 σ H)
  (hs:∀i σ H,i<n→Pv i σ H→g (.int (lo+i)) σ H fun σ2 H2=>tb {D with nx:=Pv (i+1),ct:=Pv (i+1),bk:=D.nx} σ2 H2) (hd:∀σ H,Pv n σ H→D.nx σ H):
  ∃W:Nat→Nat→St→Hp→Prop,(∃m,W 0 m σ H)∧∀i m σ H,W i m σ H→
   ((qf lo n).stop i H∧D.nx σ H)∨((qf lo n).go i H∧∃N:St→Hp→Prop,(∀σ' H',N σ' H'→∃m',m'<m∧W (i+1) m' σ' H')∧∀x H',(qf lo n).pq i H x H'→g x σ H' fun σ2 H2=>tb {D with nx:=N,ct:=N,bk:=D.nx} σ2 H2):=by
 refine⟨fun i m σ H=>m=n-i∧i≤n∧Pv i σ H,⟨n,by simp,Nat.zero_le _,h0⟩,?_⟩
 rintro i m σ H ⟨rfl,hi,p⟩
 by_cases hlt:i<n
 ·refine .inr ⟨hlt,Pv (i+1),fun σ' H' p'=>⟨n-(i+1),by omega,rfl,hlt,p'⟩,fun x H' y=>?_⟩
  obtain⟨e,y⟩:=y
  subst e y
  exact hs i σ _ hlt p
 ·have e:i=n:=by omega
  subst e
  exact .inl ⟨Nat.le_refl _,hd σ H p⟩
abbrev R2:=V→V→Hp→VK→Prop
def cG (X:Cx) (f:Value→Value→Sem Value) (r:R2):Prop:=
 ∀(pins:List (Addr×Obj)) (s:Shared) (σ:St) (H:Hp) (x y:V) (v u:Value) (Q:VK),Inv X pins σ H s→RelV x v→RelV y u→r x y H Q→
  wpAny (model X.prog X.w) X.A (f v u) (EP X pins σ Q) X.xe s
def H_ (X:Cx) (f:Value→Sem Value) (r:V→Hp→VK→Prop):Prop:=
 ∀(pins:List (Addr×Obj)) (s:Shared) (σ:St) (H:Hp) (x:V) (v:Value) (Q:VK),Inv X pins σ H s→RelV x v→r x H Q→
  wpAny (model X.prog X.w) X.A (f v) (EP X pins σ Q) X.xe s
def dh (X:Cx) (f:Value) (r:List V→Hp→VK→Prop):Prop:=
 ∀(pins:List (Addr×Obj)) (s:Shared) (σ:St) (H:Hp) (xs:List V) (us:List Value) (Q:VK),Inv X pins σ H s→Vals xs us→r xs H Q→
  wpAny (model X.prog X.w) X.A (call f us) (EP X pins σ Q) X.xe s
def Ph (X:Cx) (r:V→Hp→(Bool→Hp→Prop)→Prop):Prop:=
 ∀(pins:List (Addr×Obj)) (s:Shared) (σ:St) (H:Hp) (x:V) (v:Value) (Q:Bool→Hp→Prop),Inv X pins σ H s→RelV x v→r x H Q→
  wpAny (model X.prog X.w) X.A (truthy v) (TP X pins σ Q) X.xe s
def Ff (r:R2) (ta tb:TE):TE:=fun σ H Q=>ta σ H fun x H1=>tb σ H1 fun y H2=>r x y H2 Q
def Sj (r:V→Hp→VK→Prop) (ta:TE):TE:=fun σ H Q=>ta σ H fun x H1=>r x H1 Q
def rI (C:Int→Int→Prop) (g:Int→Int→V):R2:=fun x y H Q=>∃i j,x=.int i∧y=.int j∧C i j∧Q (g i j) H
def tJ (g:Int→Int→V):R2:=fun x y H Q=>∃i j,x=.int i∧y=.int j∧Q (g i j) H
def rU (g:Int→V):V→Hp→VK→Prop:=fun x H Q=>∃i,x=.int i∧Q (g i) H
section
variable {X:Cx} {a b c:Expr} {ta tb tc:TE} {pos:Pos}
theorem Ds (ha:PE X a ta) (hb:PE X b tb) {pins:List (Addr×Obj)} {s:Shared} {σ:St} {H:Hp} {R:V→V→Hp→Prop} (I:Inv X pins σ H s)
  (h:ta σ H fun x H1=>tb σ H1 fun y H2=>R x y H2) {Q:Value→Shared→Prop} {f:Value→Value→Sem Value}
  (hf:∀v u s2 x y H2,Inv X pins σ H2 s2→RelV x v→RelV y u→R x y H2→wpAny (model X.prog X.w) X.A (f v u) Q X.xe s2):
  wpAny (model X.prog X.w) X.A (eval a X.env) (fun v s₁=>wpAny (model X.prog X.w) X.A (eval b X.env) (fun u s₂=>wpAny (model X.prog X.w) X.A (f v u) Q X.xe s₂) X.xe s₁) X.xe s:=by
 refine aK (ha pins s σ H _ I h) fun v s1 ⟨x,H1,I1,r1,q1⟩=>?_
 refine aK (hb pins s1 σ H1 _ I1 q1) fun u s2 ⟨y,H2,I2,r2,q2⟩=>?_
 exact hf v u s2 x y H2 I2 r1 r2 q2
theorem aG {op:Operator} {r:R2} (ho:cG X (binaryOp op) r) (ha:PE X a ta) (hb:PE X b tb):PE X (.BinOp a op b pos) (Ff r ta tb):=by
 intro pins s σ H Q I h
 exact wpAny_BinOp (Ds ha hb I h fun v u s2 x y H2 I2 rx ry q=>ho pins s2 σ H2 x y v u Q I2 rx ry q)
theorem u_ {op:UnaryOp} {r:V→Hp→VK→Prop} (ho:H_ X (unaryOp op) r) (ha:PE X a ta):PE X (.UnaryOp op a pos) (Sj r ta):=by
 intro pins s σ H Q I h
 exact UnaryOp_ (aK (ha pins s σ H _ I h) fun v s1 ⟨x,H1,I1,r1,q1⟩=>ho pins s1 σ H1 x v Q I1 r1 q1)
theorem AO {f:Value→Value→Sem Value} {C:Int→Int→Prop} {g:Int→Int→Int}
  (rule:∀(i j:Int) (t u:Tok) (s:Shared) (Q:Value→Shared→Prop) (E:Value→Shared→Prop),C i j→Q (.int (g i j) s.toks) {s with toks:=s.toks+1}→wpAny (model X.prog X.w) X.A (f (.int i t) (.int j u)) Q E s):
  cG X f (rI C fun i j=>.int (g i j)):=by
 intro pins s σ H x y v u Q I rx ry h
 obtain⟨i,j,rfl,rfl,hc,q⟩:=h
 obtain⟨t,rfl⟩:=rx
 obtain⟨t',rfl⟩:=ry
 exact rule i j t t' s _ _ hc ⟨.int (g i j),H,I.tok _,⟨_,rfl⟩,q⟩
theorem H0 {f:Value→Value→Sem Value} {g:Int→Int→Int}
  (rule:∀(i j:Int) (t u:Tok) (s:Shared) (Q:Value→Shared→Prop) (E:Value→Shared→Prop),Q (.int (g i j) s.toks) {s with toks:=s.toks+1}→wpAny (model X.prog X.w) X.A (f (.int i t) (.int j u)) Q E s):
  cG X f (tJ fun i j=>.int (g i j)):=by
 intro pins s σ H x y v u Q I rx ry h
 obtain⟨i,j,rfl,rfl,q⟩:=h
 obtain⟨t,rfl⟩:=rx
 obtain⟨t',rfl⟩:=ry
 exact rule i j t t' s _ _ ⟨.int (g i j),H,I.tok _,⟨_,rfl⟩,q⟩
theorem zk {f:Value→Value→Sem Value} {g:Int→Int→Bool}
  (rule:∀(i j:Int) (t u:Tok) (s:Shared) (Q:Value→Shared→Prop) (E:Value→Shared→Prop),Q (.bool (g i j)) s→wpAny (model X.prog X.w) X.A (f (.int i t) (.int j u)) Q E s):
  cG X f (tJ fun i j=>.bl (g i j)):=by
 intro pins s σ H x y v u Q I rx ry h
 obtain⟨i,j,rfl,rfl,q⟩:=h
 obtain⟨t,rfl⟩:=rx
 obtain⟨t',rfl⟩:=ry
 exact rule i j t t' s _ _ ⟨.bl (g i j),H,I,rfl,q⟩
def Du (i j:Int):Prop:=0≤j∧j≤1000000∧i.natAbs<2 ^ 64
def Dv (i j:Int):Prop:=(-(2 ^ 64)<i∧i<2 ^ 64)∨(-(2 ^ 64)<j∧j<2 ^ 64)
theorem Dv.ok {i j:Int} (h:Dv i j):IntMulOk i j:=by
 rcases h with⟨h1,h2⟩ | ⟨h1,h2⟩
 ·exact .of_left (intBits_le_64 h1 h2)
 ·exact .of_right (intBits_le_64 h1 h2)
theorem cP:cG X (binaryOp .Add) (tJ fun i j=>.int (i+j)):=H0 fun _ _ _ _ _ _ _ q=>add_int q
theorem iY:cG X (binaryOp .Sub) (tJ fun i j=>.int (i-j)):=H0 fun _ _ _ _ _ _ _ q=>sub_int q
theorem fm:cG X (binaryOp .Mult) (rI Dv fun i j=>.int (i*j)):=AO fun _ _ _ _ _ _ _ hc q=>mul_int q hc.ok
theorem Ia:cG X (binaryOp .Mod) (rI (fun _ j=>0<j) fun i j=>.int (i % j)):=AO fun i j _ _ _ _ _ hc q=>by
 have h1:(0:Int)<j:=hc
 exact mod_int' (by omega) (by rw[Int.fmod_eq_emod_of_nonneg i (by omega)];exact q)
theorem Ib:cG X (binaryOp .Pow) (rI Du fun i j=>.int (i ^ j.toNat)):=AO fun _ _ _ _ _ _ _ hc q=>pow_int_small hc.1 hc.2.1 hc.2.2 q
theorem vp:cG X (binaryOp .LShift) (rI Du fun i j=>.int (i*2 ^ j.toNat)):=AO fun _ _ _ _ _ _ _ hc q=>lshift_int_small hc.1 hc.2.1 hc.2.2 q
theorem Sk {f:Value→Sem Value} {g:Int→Int}
  (rule:∀(i:Int) (t:Tok) (s:Shared) (Q:Value→Shared→Prop) (E:Value→Shared→Prop),Q (.int (g i) s.toks) {s with toks:=s.toks+1}→wpAny (model X.prog X.w) X.A (f (.int i t)) Q E s):
  H_ X f (rU fun i=>.int (g i)):=by
 intro pins s σ H x v Q I rx h
 obtain⟨i,rfl,q⟩:=h
 obtain⟨t,rfl⟩:=rx
 exact rule i t s _ _ ⟨.int (g i),H,I.tok _,⟨_,rfl⟩,q⟩
theorem qg:H_ X (unaryOp .USub) (rU fun i=>.int (-i)):=Sk fun _ _ _ _ _ q=>neg_int q
end
def Dw:V→V→Bool
 | .non,.non=>true | .non,.int _=>true | .int _,.non=>true | .non,.bl _=>true | .bl _,.non=>true | .non,.str _=>true | .str _,.non=>true
 | .int _,.int _=>true | .bl _,.bl _=>true | .str _,.str _=>true | .jK _,.jK _=>true
 | .int _,.str _=>true | .str _,.int _=>true | .bl _,.str _=>true | .str _,.bl _=>true
 | _,_=>false
def Sl:R2:=fun x y H Q=>Dw x y=true∧Q (.bl (decide (x=y))) H
def Sm:R2:=fun x y H Q=>Dw x y=true∧Q (.bl (!decide (x=y))) H
theorem x9 {i j:Int}:decide (V.int i=V.int j)=(i == j):=by
 rw[Bool.eq_iff_iff]
 simp
theorem AQ {i j:Bool}:decide (V.bl i=V.bl j)=(i == j):=by
 rw[Bool.eq_iff_iff]
 simp
theorem yb {i j:Str}:decide (V.str i=V.str j)=(i == j):=by
 rw[Bool.eq_iff_iff]
 simp
theorem yc {i j:Array UInt8}:decide (V.jK i=V.jK j)=(i.toList == j.toList):=by
 rw[Bool.eq_iff_iff]
 cases i
 cases j
 simp
section
variable {X:Cx} {a b c:Expr} {ta tb tc:TE} {pos:Pos}
theorem bh {pins:List (Addr×Obj)} {σ:St} {H:Hp} {s:Shared} {Q:VK} {k k':Bool} (I:Inv X pins σ H s) (q:Q (.bl k) H) (e:k=k'):EP X pins σ Q (.bool k') s:=by
 subst e
 exact⟨.bl k,H,I,rfl,q⟩
theorem hJ:cG X (compareOp .Eq) Sl:=by
 intro pins s σ H x y v u Q I rx ry h
 obtain⟨hs,q⟩:=h
 cases x with
 | non=>
  cases rx
  cases y with
  | non=>cases ry;exact PySem.EqNone.eq_none_none (bh I q (by simp))
  | bl j=>cases ry;exact PySem.EqNone.eq_none_bool (bh I q (by simp))
  | int j=>obtain⟨t',rfl⟩:=ry;exact PySem.EqNone.eq_none_int (bh I q (by simp))
  | str j=>obtain⟨t',rfl⟩:=ry;exact PySem.EqNone.eq_none_str (bh I q (by simp))
  | _=>exact absurd (show false=true from hs) Bool.false_ne_true
 | bl i=>
  cases rx
  cases y with
  | non=>cases ry;exact PySem.EqNone.eq_bool_none (bh I q (by simp))
  | bl j=>cases ry;exact eq_bool (bh I q AQ)
  | str j=>obtain⟨t',rfl⟩:=ry;exact PySem.EqMixed.eq_bool_str (bh I q (by simp))
  | _=>exact absurd (show false=true from hs) Bool.false_ne_true
 | int i=>
  obtain⟨t,rfl⟩:=rx
  cases y with
  | non=>cases ry;exact PySem.EqNone.eq_int_none (bh I q (by simp))
  | int j=>obtain⟨t',rfl⟩:=ry;exact eq_int (bh I q x9)
  | str j=>obtain⟨t',rfl⟩:=ry;exact PySem.EqMixed.eq_int_str (bh I q (by simp))
  | _=>exact absurd (show false=true from hs) Bool.false_ne_true
 | str i=>
  obtain⟨t,rfl⟩:=rx
  cases y with
  | non=>cases ry;exact PySem.EqNone.eq_str_none (bh I q (by simp))
  | bl j=>cases ry;exact PySem.EqMixed.eq_str_bool (bh I q (by simp))
  | int j=>obtain⟨t',rfl⟩:=ry;exact PySem.EqMixed.eq_str_int (bh I q (by simp))
  | str j=>obtain⟨t',rfl⟩:=ry;exact eq_str (bh I q yb)
  | _=>exact absurd (show false=true from hs) Bool.false_ne_true
 | jK i=>
  obtain⟨t,rfl⟩:=rx
  cases y with
  | jK j=>obtain⟨t',rfl⟩:=ry;exact PySem.W.eq_bytes (bh I q yc)
  | _=>exact absurd (show false=true from hs) Bool.false_ne_true
 | _=>cases y<;>exact absurd (show false=true from hs) Bool.false_ne_true
theorem my:cG X (compareOp .NotEq) Sm:=by
 intro pins s σ H x y v u Q I rx ry h
 obtain⟨hs,q⟩:=h
 cases x with
 | non=>
  cases rx
  cases y with
  | non=>cases ry;exact PySem.EqNone.ne_none_none (bh I q (by simp))
  | bl j=>cases ry;exact PySem.EqNone.ne_none_bool (bh I q (by simp))
  | int j=>obtain⟨t',rfl⟩:=ry;exact PySem.EqNone.ne_none_int (bh I q (by simp))
  | str j=>obtain⟨t',rfl⟩:=ry;exact PySem.EqNone.ne_none_str (bh I q (by simp))
  | _=>exact absurd (show false=true from hs) Bool.false_ne_true
 | bl i=>
  cases rx
  cases y with
  | non=>cases ry;exact PySem.EqNone.ne_bool_none (bh I q (by simp))
  | bl j=>cases ry;exact ne_bool (bh I q (congrArg not AQ))
  | str j=>obtain⟨t',rfl⟩:=ry;exact PySem.EqMixed.ne_bool_str (bh I q (by simp))
  | _=>exact absurd (show false=true from hs) Bool.false_ne_true
 | int i=>
  obtain⟨t,rfl⟩:=rx
  cases y with
  | non=>cases ry;exact PySem.EqNone.ne_int_none (bh I q (by simp))
  | int j=>obtain⟨t',rfl⟩:=ry;exact ne_int (bh I q (congrArg not x9))
  | str j=>obtain⟨t',rfl⟩:=ry;exact PySem.EqMixed.ne_int_str (bh I q (by simp))
  | _=>exact absurd (show false=true from hs) Bool.false_ne_true
 | str i=>
  obtain⟨t,rfl⟩:=rx
  cases y with
  | non=>cases ry;exact PySem.EqNone.ne_str_none (bh I q (by simp))
  | bl j=>cases ry;exact PySem.EqMixed.ne_str_bool (bh I q (by simp))
  | int j=>obtain⟨t',rfl⟩:=ry;exact PySem.EqMixed.ne_str_int (bh I q (by simp))
  | str j=>obtain⟨t',rfl⟩:=ry;exact ne_str (bh I q (congrArg not yb))
  | _=>exact absurd (show false=true from hs) Bool.false_ne_true
 | jK i=>
  obtain⟨t,rfl⟩:=rx
  cases y with
  | jK j=>obtain⟨t',rfl⟩:=ry;exact PySem.W.ne_bytes (bh I q (congrArg not yc))
  | _=>exact absurd (show false=true from hs) Bool.false_ne_true
 | _=>cases y<;>exact absurd (show false=true from hs) Bool.false_ne_true
theorem Fg:cG X (compareOp .Lt) (tJ fun i j=>.bl (decide (i<j))):=zk fun _ _ _ _ _ _ _ q=>lt_int q
theorem Mz:cG X (compareOp .LtE) (tJ fun i j=>.bl (decide (i≤j))):=zk fun _ _ _ _ _ _ _ q=>le_int q
theorem qh:cG X (compareOp .Gt) (tJ fun i j=>.bl (decide (j<i))):=zk fun _ _ _ _ _ _ _ q=>gt_int q
theorem MA:cG X (compareOp .GtE) (tJ fun i j=>.bl (decide (j≤i))):=zk fun _ _ _ _ _ _ _ q=>ge_int q
theorem nQ:cG X (compareOp .Is) (fun x y H Q=>y=.non∧Q (.bl (decide (x=.non))) H):=by
 intro pins s σ H x y v u Q I rx ry h
 obtain⟨rfl,q⟩:=h
 cases ry
 refine is_none_gen (bh I q ?_)
 cases x<;>first
  | (cases rx;rfl)
  | (obtain⟨t,rfl⟩:=rx;rfl)
theorem rm:cG X (compareOp .IsNot) (fun x y H Q=>y=.non∧Q (.bl (!decide (x=.non))) H):=by
 intro pins s σ H x y v u Q I rx ry h
 obtain⟨rfl,q⟩:=h
 cases ry
 refine isnot_none_gen (bh I q ?_)
 cases x<;>first
  | (cases rx;rfl)
  | (obtain⟨t,rfl⟩:=rx;rfl)
theorem aU (b:Expr) {op:CmpOp} (h:op≠.In:=by decide) (h2:op≠.NotIn:=by decide):behindInMarks op b=false:=by
 have e1:(op == CmpOp.In)=false:=by cases op<;>first | rfl | exact absurd rfl h
 have e2:(op == CmpOp.NotIn)=false:=by cases op<;>first | rfl | exact absurd rfl h2
 cases b<;>simp[behindInMarks,e1,e2]
theorem di {op:CmpOp} {r:R2} (ho:cG X (compareOp op) r) (ha:PE X a ta) (hb:PE X b tb) (hm:behindInMarks op b=false):PE X (.Compare a [op] [b] pos) (Ff r ta tb):=by
 intro pins s σ H Q I h
 exact wpAny_Compare1 (Ds ha hb I h fun v u s2 x y H2 I2 rx ry q=>ho pins s2 σ H2 x y v u Q I2 rx ry q) hm
def Fh (t:TE):TT:=fun σ H Q=>t σ H fun x H'=>∃k,x=.bl k∧Q k H'
theorem bo {op:CmpOp} {r:R2} (ho:cG X (compareOp op) r) (ha:PE X a ta) (hb:PE X b tb) (hm:behindInMarks op b=false):PT X (.Compare a [op] [b] pos) (Fh (Ff r ta tb)):=by
 intro pins s σ H Q I h
 refine wpAny_isTrue_Compare1 (aK (ha pins s σ H _ I h) fun v s1 ⟨x,H1,I1,r1,q1⟩=>aK (hb pins s1 σ H1 _ I1 q1) fun u s2 ⟨y,H2,I2,r2,q2⟩=>
  aK (ho pins s2 σ H2 x y v u _ I2 r1 r2 q2) fun c s3 ⟨z,H3,I3,r3,k,e,q3⟩=>?_) hm
 subst e
 cases r3
 exact wpAny_truthy_bool ⟨H3,I3,q3⟩
def Ic (r r':R2) (ta tb tc:TE):TE:=fun σ H Q=>ta σ H fun x H1=>tb σ H1 fun y H2=>r x y H2 fun z H3=>∃k,z=.bl k∧
 (if k=true then tc σ H3 fun w' H4=>r' y w' H4 Q else Q (.bl false) H3)
theorem Dx {op op':CmpOp} {r r':R2} (ho:cG X (compareOp op) r) (ho':cG X (compareOp op') r') (ha:PE X a ta) (hb:PE X b tb) (hc:PE X c tc)
  (hm:lastMarks [op,op'] [b,c]=false:=by with_unfolding_all rfl):PT X (.Compare a [op,op'] [b,c] pos) (Fh (Ic r r' ta tb tc)):=by
 intro pins s σ H Q I h
 refine isTrue_chain (aK (ha pins s σ H _ I h) fun v s1 ⟨x,H1,I1,r1,q1⟩=>test_link (aK (hb pins s1 σ H1 _ I1 q1) fun u s2 ⟨y,H2,I2,r2,q2⟩=>
  aK (ho pins s2 σ H2 x y v u _ I2 r1 r2 q2) fun d s3 ⟨z,H3,I3,r3,k,e,q3⟩=>?_)) hm
 subst e
 cases r3
 refine wpAny_truthy_bool ?_
 cases k with
 | false=>
  obtain⟨k',e',q'⟩:=q3
  cases e'
  exact ite_ff ⟨H3,I3,q'⟩
 | true=>
  refine ite_tt (test_last (aK (hc pins s3 σ H3 _ I3 q3) fun w' s4 ⟨z',H4,I4,r4,q4⟩=>aK (ho' pins s4 σ H4 y z' u w' _ I4 r2 r4 q4) fun d' s5 ⟨z2,H5,I5,r5,k2,e2,q5⟩=>?_))
  subst e2
  cases r5
  exact wpAny_truthy_bool ⟨H5,I5,q5⟩
def Dy (K:PySem.W.Frag) (x:V) (H:Hp) (k:Bool):Prop:=
 match x with
 | .non=>k=false
 | .bl b=>k=b
 | .int i=>k=(i != 0)
 | .str y=>y.length≤sizeLine∧k=((y.length:Int) != 0)
 | .jK y=>y.size≤sizeLine∧k=((y.size:Int) != 0)
 | .ref p=>(∃xs,br K H p xs∧k= !xs.isEmpty)∨(∃xs,bH K H p xs∧k= !xs.isEmpty)∨∃kvs,H p=some (.dK kvs)∧k= !kvs.isEmpty
 | _=>False
theorem zl {κ:Type} {kvs:List (κ×V)} {vs:List (κ×Value)} (r:KV kvs vs):(!vs.isEmpty)= !kvs.isEmpty:=by
 cases r<;>rfl
theorem qi {xs:List V} {its:List Value} (r:Vals xs its):(!its.toArray.isEmpty)= !xs.isEmpty:=by
 cases r<;>simp
theorem lH:(sizeLine:Nat)<2 ^ 63:=by rw[sizeLine_eq];decide
theorem Ie:Ph X (fun x H Q=>∃k,Dy X.K x H k∧Q k H):=by
 intro pins s σ H x v Q I rx h
 obtain⟨k,e,q⟩:=h
 have hl:=lH
 have hs:sizeLine=16777216:=sizeLine_eq
 cases x with
 | non=>
  cases rx
  have e':k=false:=e
  subst e'
  exact truthy_none ⟨H,I,q⟩
 | bl b=>
  cases rx
  have e':k=b:=e
  subst e'
  exact wpAny_truthy_bool ⟨H,I,q⟩
 | int i=>
  obtain⟨t,rfl⟩:=rx
  have e':k=(i != 0):=e
  subst e'
  exact PySem.P.truthy_int ⟨H,I,q⟩
 | str y=>
  obtain⟨t,rfl⟩:=rx
  obtain⟨hy,e'⟩:y.length≤sizeLine∧k=((y.length:Int) != 0):=e
  subst e'
  exact PySem.P.truthy_str (by omega) ⟨H,I.tok _,q⟩
 | jK y=>
  obtain⟨t,rfl⟩:=rx
  obtain⟨hy,e'⟩:y.size≤sizeLine∧k=((y.size:Int) != 0):=e
  subst e'
  exact PySem.W.truthy_bytes (by omega) ⟨H,I.tok _,q⟩
 | ref p=>
  cases rx
  have e':(∃xs,br X.K H p xs∧k= !xs.isEmpty)∨(∃xs,bH X.K H p xs∧k= !xs.isEmpty)∨∃kvs,H p=some (.dK kvs)∧k= !kvs.isEmpty:=e
  rcases e' with⟨xs,hx,e'⟩ | ⟨xs,hx,e'⟩ | ⟨kvs,hx,e'⟩
  ·subst e'
   obtain⟨its,r,pl,hz⟩:=I.list hx
   have hlen:=r.length
   exact wpAny_truthy_list pl.isList (by simp only[List.size_toArray];omega) ⟨H,I.tok _,by rw[qi r];exact q⟩
  ·subst e'
   obtain⟨its,r,pl,hz⟩:=I.tuple hx
   have hlen:=r.length
   exact truthy_tuple pl (by simp only[List.size_toArray];omega) ⟨H,I.tok _,by rw[qi r];exact q⟩
  ·subst e'
   obtain⟨hz,hS,vs,r,m⟩:kvs.length≤sizeLine∧(p == sysModules)=false∧∃vs,KV kvs vs∧s.heap.DictOf (bY X.prog X.w) p vs:=I.hok p _ hx
   have hlen:kvs.length=vs.length:=Paired.length r
   exact wpAny_truthy_dict hS m (by omega) ⟨H,I.tok _,by rw[zl r];exact q⟩
 | _=>exact(show False from e).elim
theorem dB (ha:PE X a ta) (he:∀whole,isTrue a X.env whole=(do let v ←whole;standAt a.pos;holding [v] (truthy v))):
  PT X a (fun σ H Q=>ta σ H fun x H'=>∃k,Dy X.K x H' k∧Q k H'):=by
 intro pins s σ H Q I h
 exact isTrue_plain (aK (ha pins s σ H _ I h) fun v s1 ⟨x,H1,I1,r1,q1⟩=>Ie pins s1 σ H1 x v Q I1 r1 q1) (he _)
theorem qj:cG X (binaryOp .Add) (fun x y H Q=>∃i j,x=.str i∧y=.str j∧i.length+j.length≤sizeLine∧Q (.str (i++j)) H):=by
 intro pins s σ H x y v u Q I rx ry h
 obtain⟨i,j,rfl,rfl,hz,q⟩:=h
 obtain⟨t,rfl⟩:=rx
 obtain⟨t',rfl⟩:=ry
 exact add_str (fun t' tk=>⟨.str (i++j),H,I.tok _,⟨_,rfl⟩,q⟩) hz
theorem vals1 {x:V} {us:List Value} (r:Vals [x] us):∃u,us=[u]∧RelV x u:=by
 cases r with
 | cons r1 r2=>cases r2;exact⟨_,rfl,r1⟩
theorem vals2 {x y:V} {us:List Value} (r:Vals [x,y] us):∃u w',us=[u,w']∧RelV x u∧RelV y w':=by
 cases r with
 | cons r1 r2=>
  cases r2 with
  | cons r3 r4=>cases r4;exact⟨_,_,rfl,r1,r3⟩
theorem vq:dh X (.builtin "abs") (fun xs H Q=>∃i,xs=[.int i]∧Q (.int (if i<0 then-i else i)) H):=by
 intro pins s σ H xs us Q I r h
 obtain⟨i,rfl,q⟩:=h
 obtain⟨u,rfl,t,rfl⟩:=vals1 r
 exact call_abs_int fun u tk=>⟨.int (if i<0 then-i else i),H,I.tok _,⟨_,rfl⟩,q⟩
theorem AU:dh X (.type "int") (fun xs H Q=>(∃i,xs=[.int i]∧Q (.int i) H)∨∃k,xs=[.bl k]∧Q (.int (if k then 1 else 0)) H):=by
 intro pins s σ H xs us Q I r h
 rcases h with⟨i,rfl,q⟩ | ⟨k,rfl,q⟩
 ·obtain⟨u,rfl,t,rfl⟩:=vals1 r
  exact call_int_int ⟨.int i,H,I,⟨_,rfl⟩,q⟩
 ·obtain⟨u,rfl,r1⟩:=vals1 r
  cases r1
  exact call_int_bool ⟨.int (if k then 1 else 0),H,I.tok _,⟨_,rfl⟩,q⟩
theorem zm:dh X (.type "bool") (fun xs H Q=>(∃i,xs=[.int i]∧Q (.bl (i != 0)) H)∨∃k,xs=[.bl k]∧Q (.bl k) H):=by
 intro pins s σ H xs us Q I r h
 rcases h with⟨i,rfl,q⟩ | ⟨k,rfl,q⟩
 ·obtain⟨u,rfl,t,rfl⟩:=vals1 r
  exact call_bool_int ⟨.bl (i != 0),H,I,rfl,q⟩
 ·obtain⟨u,rfl,r1⟩:=vals1 r
  cases r1
  exact call_bool_bool ⟨.bl k,H,I,rfl,q⟩
def Ig (K:PySem.W.Frag) (x:V) (H:Hp) (n:Nat):Prop:=
 match x with
 | .str y=>y.length≤sizeLine∧n=y.length
 | .jK y=>y.size≤sizeLine∧n=y.size
 | .ref p=>(∃xs,br K H p xs∧n=xs.length)∨∃xs,bH K H p xs∧n=xs.length
 | _=>False
theorem Dz:dh X (.builtin "len") (fun xs H Q=>∃x n,xs=[x]∧Ig X.K x H n∧Q (.int n) H):=by
 intro pins s σ H xs us Q I r h
 obtain⟨x,n,rfl,e,q⟩:=h
 obtain⟨u,rfl,rx⟩:=vals1 r
 have hl:=lH
 have hs:sizeLine=16777216:=sizeLine_eq
 cases x with
 | str y=>
  obtain⟨t,rfl⟩:=rx
  obtain⟨hy,e'⟩:y.length≤sizeLine∧n=y.length:=e
  subst e'
  exact len_str (by omega) ⟨.int _,H,I.tok _,⟨_,rfl⟩,q⟩
 | jK y=>
  obtain⟨t,rfl⟩:=rx
  obtain⟨hy,e'⟩:y.size≤sizeLine∧n=y.size:=e
  subst e'
  exact PySem.W.len_bytes (by omega) ⟨.int _,H,I.tok _,⟨_,rfl⟩,q⟩
 | ref p=>
  cases rx
  have e':(∃xs,br X.K H p xs∧n=xs.length)∨∃xs,bH X.K H p xs∧n=xs.length:=e
  rcases e' with⟨xs,hx,e'⟩ | ⟨xs,hx,e'⟩
  ·subst e'
   obtain⟨its,r',pl,hz⟩:=I.list hx
   have hlen:=r'.length
   exact Calls.call_len_list pl.isList (by simp only[List.size_toArray];omega) ⟨.int xs.length,H,I.tok _,⟨_,by simp only[List.size_toArray];rw[hlen]⟩,q⟩
  ·subst e'
   obtain⟨its,r',pl,hz⟩:=I.tuple hx
   have hlen:=r'.length
   exact len_tuple pl (by simp only[List.size_toArray];omega) ⟨.int xs.length,H,I.tok _,⟨_,by simp only[List.size_toArray];rw[hlen]⟩,q⟩
 | _=>exact(show False from e).elim
end
structure DA (h:Heap) (x dx C:Addr) (mA:Str→Option Value):Prop where
 obj:h.get? x=some (PySem.W.instObj C dx)
 ns:h.Ns1 dx mA
 ne:dx≠x
theorem AV {h:Heap} {dx:Addr} {mA:Str→Option Value} (n:h.Ns1 dx mA):∃od,h.get? dx=some od∧∀name,PySem.W.lookIn name od=some (mA name):=by
 obtain⟨o,es,ep,ho,hd,hk,_,hm⟩:=n
 refine⟨o,ho,fun name=>?_⟩
 have e:=hm name
 unfold nsFind findBy at e
 rw[←Array.find?_toList] at e
 unfold PySem.W.lookIn
 rw[hd]
 dsimp only
 split
 ·rename_i y q
  rw[q] at e
  exact congrArg some e
 ·rename_i q
  rw[q] at e
  have a:es.toList.any (·.refKey)=false:=by
   rw[List.any_eq_false]
   intro y hy
   obtain⟨z,t,hkey⟩:=hk y (Array.mem_toList_iff.mp hy)
   simp[DictEntry.refKey,hkey]
  have a':¬es.toList.any (·.refKey)=true:=by rw[a];exact Bool.false_ne_true
  rw[if_neg a']
  exact congrArg some e
theorem DA.look {h:Heap} {x dx C:Addr} {mA:Str→Option Value} (I:DA h x dx C mA):∃od,PySem.W.InstAt h x (PySem.W.instObj C dx) C (some od)∧∀name,PySem.W.lookIn name od=some (mA name):=
 let ⟨od,ho,hl⟩:=AV I.ns
 ⟨od,⟨I.obj,rfl,rfl,ho⟩,hl⟩
theorem jL.some_of {v:V} {o:Option Value} (r:jL (some v) o):∃u,o=some u∧RelV v u:=by
 cases o with
 | none=>exact(show False from r).elim
 | some u=>exact⟨u,rfl,r⟩
section
variable {P:Program} {w:World} {H H':Hp} {h h':Heap} {a C dx:Addr} {fs fs':List (Str×V)}
theorem GN (hok:dc P w H h) (e:H a=some (.ins C dx fs)):∃mA,DA h a dx C mA∧(∀f,jL (fs.lookup f) (mA f))∧PySem.Within mA (fs.map (·.1))∧fs.length≤1000∧H dx=some (.own a):=by
 obtain⟨d,z,ne,ob,mA,n,r,q⟩:=(show bx P w H h a (.ins C dx fs) from hok a _ e)
 exact⟨mA,⟨ob,n,ne⟩,r,q,z,d⟩
end
structure Cls (K:PySem.W.Frag) (C:Addr):Prop where
 pg:PySem.W.plainGet K C Str.empty=true
 hd:PySem.W.hasDictIn K C=true
 po:PySem.W.plainOver K C=true
 sa:PySem.W.findIn K (.ref C) "__setattr__"=some (some (.builtin "object.__setattr__"))
theorem Cls.get {K:PySem.W.Frag} {C:Addr} (c:Cls K C) (f:Str):PySem.W.plainGet K C f=true:=c.pg
section
variable {X:Cx} {pins:List (Addr×Obj)} {σ:St} {H:Hp} {s:Shared} {A:Around} {E:Value→Shared→Prop} {Q:Value→Shared→Prop} {c:Value} {b:Bool}
inductive gg (K:PySem.W.Frag) (H:Hp):V→Value→Prop where
 | non:gg K H .non (.type "NoneType")
 | bl (x:Bool):gg K H (.bl x) (.type "bool")
 | int (i:Int):gg K H (.int i) (.type "int")
 | str (x:Str):gg K H (.str x) (.type "str")
 | flt (x:UInt64):gg K H (.flt x) (.type "float")
 | lst {a:Addr} {xs:List V} (e:H a=some (.lst xs)):gg K H (.ref a) (.type "list")
 | iW {a:Addr} {o:Obj} {xs:List V} (e:H a=some (.iW o (.lst xs))):gg K H (.ref a) (.type "list")
 | tup {a:Addr} {xs:List V} (e:H a=some (.tup xs)):gg K H (.ref a) (.type "tuple")
 | dK {a:Addr} {kvs:List (Key×V)} (e:H a=some (.dK kvs)):gg K H (.ref a) (.type "dict")
 | dT {a:Addr} {kvs:List (List Key×V)} (e:H a=some (.dT kvs)):gg K H (.ref a) (.type "dict")
 | ins {a C dx:Addr} {fs:List (Str×V)} (e:H a=some (.ins C dx fs)) (cl:Cls K C) (ha:PySem.W.findIn K (.ref C) "__class__"=some (some (.builtin "object.__class__")))
   (hn:PySem.W.specialIn K (.builtin "object.__class__") "__get__"=some (some (.builtin "getset_descriptor.__get__"))) (htk:PySem.W.takesIn K (.builtin "object.__class__")=some true)
   (hm:PySem.W.mroIn K C (.type "object")=some true):gg K H (.ref a) (.ref C)
theorem AW {x:V} {u t:Value} (I:Inv X pins σ H s) (rx:RelV x u) (ty:gg X.K H x t) (e:PySem.W.kitOne X.K t c=some b) (h:∀tk,Q (.bool b) {s with toks:=tk}):
  wpAny (model X.prog X.w) A (call (.builtin "isinstance") [u,c]) Q E s:=by
 cases ty with
 | non=>cases(show u=Value.none from rx);exact PySem.W.kia_one PySem.W.kitx_none I.g0 True.intro e (fun z=>nomatch z) h
 | bl y=>cases(show u=Value.bool y from rx);exact PySem.W.kia_one PySem.W.kitx_bool I.g0 True.intro e (fun z=>nomatch z) h
 | int i=>obtain⟨t,q⟩:=(show ∃t,u=Value.int i t from rx);cases q;exact PySem.W.kia_one PySem.W.kitx_int I.g0 True.intro e (fun z=>nomatch z) h
 | str y=>obtain⟨t,q⟩:=(show ∃t,u=Value.str y t from rx);cases q;exact PySem.W.kia_one PySem.W.kitx_str I.g0 True.intro e (fun z=>nomatch z) h
 | flt y=>obtain⟨t,q⟩:=(show ∃t,u=Value.float y t from rx);cases q;exact PySem.W.kia_one PySem.W.kitx_float I.g0 True.intro e (fun z=>nomatch z) h
 | @lst a xs ea=>
  cases(show u=Value.ref a from rx)
  obtain⟨_,_,n,_,h1⟩:=(show bx X.prog X.w H s.heap a (.lst xs) from I.hok a _ ea)
  exact PySem.W.kia_one PySem.W.kitx_list I.g0 ⟨_,h1,rfl⟩ e (fun z=>nomatch z) h
 | @iW a ob xs ea=>
  cases(show u=Value.ref a from rx)
  obtain⟨_,_,_,n,_,h1⟩:=(show bx X.prog X.w H s.heap a (.iW ob (.lst xs)) from I.hok a _ ea)
  exact PySem.W.kia_one PySem.W.kitx_list I.g0 ⟨_,h1,rfl⟩ e (fun z=>nomatch z) h
 | @tup a xs ea=>
  cases(show u=Value.ref a from rx)
  obtain⟨_,_,_,p⟩:=(show bx X.prog X.w H s.heap a (.tup xs) from I.hok a _ ea)
  obtain⟨o,h1,h2,_⟩:=p
  exact PySem.W.kia_one PySem.W.kitx_tuple I.g0 ⟨o,h1,h2⟩ e (fun z=>nomatch z) h
 | @dK a kvs ea=>
  cases(show u=Value.ref a from rx)
  obtain⟨_,_,vs,_,p⟩:=(show bx X.prog X.w H s.heap a (.dK kvs) from I.hok a _ ea)
  obtain⟨o,es,ep,h1,h2,_⟩:=p
  exact PySem.W.kia_one PySem.W.kitx_dict I.g0 ⟨o,h1,h2.1⟩ e (fun z=>nomatch z) h
 | @dT a kvs ea=>
  cases(show u=Value.ref a from rx)
  obtain⟨_,_,xs,_,o,es,ep,h1,h2,_⟩:=(show bx X.prog X.w H s.heap a (.dT kvs) from I.hok a _ ea)
  exact PySem.W.kia_one PySem.W.kitx_dict I.g0 ⟨o,h1,h2.1⟩ e (fun z=>nomatch z) h
 | @ins a C dx fs ea cl ha hn htk hm=>
  cases(show u=Value.ref a from rx)
  obtain⟨mA,O,_⟩:=GN I.hok ea
  obtain⟨od,J,_⟩:=O.look
  exact PySem.W.kia_one (PySem.W.kitx_own (cl.get _) cl.hd ha hn htk hm) I.g0 J e (fun z=>nomatch z) h
end
structure aP (k:Nat) (A:Around):Prop where
 hd:A.handled=none
 dp:A.depth+3*k+5<recursionLimit
 un:A.units+16*k+200<cLine
 gd:A.guards=some []
theorem aP.mono {j k:Nat} {A:Around} (r:aP k A) (h:j≤k):aP j A:=⟨r.hd,by have:=r.dp;omega,by have:=r.un;omega,r.gd⟩
theorem aP.deeper {k:Nat} {A:Around} (r:aP (k+1) A) (env:Env):aP k (A.deeper env):=
 ⟨r.hd,by have:=r.dp;show A.depth+1+3*k+5<_;omega,by have:=r.un;show A.units+3+16*k+200<_;omega,r.gd⟩
theorem aP.depth {k:Nat} {A:Around} (r:aP k A):A.depth<recursionLimit:=by have:=r.dp;omega
theorem aP.units {k:Nat} {A:Around} (r:aP k A):A.units+64<cLine:=by have:=r.un;omega
def Pj:TA:=fun _ H Q=>Q [] H
def MB (ta:TE) (tr:TA):TA:=fun σ H Q=>ta σ H fun x H1=>tr σ H1 fun xs H2=>Q (x::xs) H2
section
variable {X:Cx} {e:Expr} {es:List Expr} {te:TE} {t:TA} {pos:Pos}
theorem ag:PA X [] Pj:=fun _ _ _ _ H Q I h=>Calls.spliced_nil ⟨[],H,I,.nil,h⟩
theorem ae (ha:PE X e te) (hr:PA X es t) (hs:starEach (e::es) X.env=(false,eval e X.env)::starEach es X.env:=by rfl):PA X (e::es) (MB te t):=by
 intro pos pins s σ H Q I h
 rw[hs]
 show wpAny _ _ (spliced ((false,eval e X.env)::backTo pos (starEach es X.env))) _ _ s
 refine Calls.spliced_cons (aK (ha pins s σ H _ I h) fun u s1 ⟨x,H1,I1,r1,q1⟩=>?_)
 exact aK (hr pos pins s1 σ H1 _ I1 q1) fun us s2 ⟨xs,H2,I2,r2,q2⟩=>⟨x::xs,H2,I2,.cons r1 r2,q2⟩
def Pk (t:TA):TE:=fun σ H Q=>t σ H fun xs H1=>xs.length≤sizeLine∧∀p,H1 p=none→Q (.ref p) (upd H1 p (.tup xs))
def Pl (t:TA):TE:=fun σ H Q=>t σ H fun xs H1=>xs.length≤sizeLine∧∀p,H1 p=none→Q (.ref p) (upd H1 p (.lst xs))
theorem bP {x1} (h:PA X es t):PE X (.Tuple es x1 pos) (Pk t):=by
 intro pins s σ H Q I hq
 refine wpAny_Tuple_spliced (aK (h pos pins s σ H _ I hq) fun us s1 ⟨xs,H1,I1,r,z,q⟩=>⟨by rw[←r.length];exact z,?_⟩)
 have hf:H1 s1.heap.objs.size=none:=I1.hok.fresh (Nat.le_refl _)
 refine⟨.ref s1.heap.objs.size,upd H1 s1.heap.objs.size (.tup xs),I1.laid (t':=s1.toks) (fun b u e=>Heap.get?_push_of_some _ e) (Nat.le_refl _) ?_,rfl,q _ hf⟩
 exact⟨⟨z,_,Heap.get?_push_size _ rfl,rfl⟩,us,r,⟨_,Heap.get?_push_size _ rfl,rfl,_,rfl⟩⟩
theorem bz (h:PA X es t):PE X (.List es pos) (Pl t):=by
 intro pins s σ H Q I hq
 refine wpAny_List_spliced (aK (h pos pins s σ H _ I hq) fun us s1 ⟨xs,H1,I1,r,z,q⟩=>⟨by rw[←r.length];exact z,?_⟩)
 have hf:H1 s1.heap.objs.size=none:=I1.hok.fresh (Nat.le_refl _)
 refine⟨.ref s1.heap.objs.size,upd H1 s1.heap.objs.size (.lst xs),I1.laid (t':=s1.toks) (fun b u e=>Heap.get?_push_of_some _ e) (Nat.le_refl _) ?_,rfl,q _ hf⟩
 exact⟨z,us,0,r,Heap.get?_push_size _ rfl⟩
end
abbrev Sp:=List V→Hp→VK→XK→Prop
abbrev pw:=List Env→Hp→Shared→XK→Value→Shared→Prop
structure pH (P:Program) (w:World) (K:PySem.W.Frag) (mg:Str→Option Value) (base:Heap) (A:Around) (outer:List Env) (s:Shared) (H:Hp):Prop where
 frames:A.frames=some outer
 mod:Mod K mg base
 bs:∀b o,base.get? b=some o→s.heap.get? b=some o∧H b=none
 nG:base.objs.size≤s.heap.objs.size
 g_:s.heap.FunFrames base outer
 tF:∀b∈frs outer,H b=none
 hok:dc P w H s.heap
 bare:AllBare s.gens
def CE (outer:List Env) (P:Program) (w:World) (H:Hp) (s:Shared) (Q:VK) (u:Value) (s':Shared):Prop:=
 ∃v H',s'.os=s.os∧AllBare s'.gens∧Un (frs outer) [] H H' s.heap s'.heap∧dc P w H' s'.heap∧RelV v u∧Q v H'
def CR (CX:pw) (outer:List Env) (P:Program) (w:World) (H:Hp) (s:Shared) (Q:VK) (E:XK) (r:Result) (s':Shared):Prop:=
 match r with
 | .ok (.ret u)=>CE outer P w H s Q u s'
 | .ok _=>False
 | .error e=>CX outer H s E e s'
structure bf (P:Program) (w:World) (K:PySem.W.Frag) (mg:Str→Option Value) (base:Heap) (CX:pw) (k:Nat) (f:Addr) (fd:FuncData) (ps:List Str) (sp:Sp):Prop where
 len:∀vs H Q E,sp vs H Q E→vs.length=ps.length
 run:∀(A:Around) (outer:List Env) (s:Shared) (H:Hp) (args:Args) (us:List Value) (vs:List V) (Q:VK) (E:XK),aP k A→pH P w K mg base A outer s H→BindsTo s fd args (ps.zip us)→Vals vs us→sp vs H Q E→
  codeAny (model P w) A (.call (.ref f) args) (CR CX outer P w H s Q E) s
section
variable {X:Cx} {pins:List (Addr×Obj)} {σ:St} {H:Hp} {s s':Shared}
theorem Inv.env0 (I:Inv X pins σ H s):pH X.prog X.w X.K X.mg X.base X.A X.stack s H:=
 ⟨I.ok.frames,I.ok.mod,I.bs,Nat.le_trans I.ok.nG I.sz,I.stack,I.lE,I.hok,I.bare⟩
theorem Inv.after {Q:VK} {u:Value} (I:Inv X pins σ H s) (h:CE X.stack X.prog X.w H s Q u s'):EP X pins σ Q u s':=by
 obtain⟨v,H',os,bare,un,hok,r,q⟩:=h
 obtain⟨hh,g,d,t,os'⟩:=s'
 obtain rfl:os'=s.os:=os
 exact⟨v,H',I.call (h':=hh) (g':=g) (d':=d) (t':=t) (ch:=[]) un hok bare (fun b z=>absurd z (by simp)),r,q⟩
end
def MC (sp:Sp) (qk:List V) (E:XK) (t:TA):TE:=fun σ H Q=>t σ H fun vs H1=>sp (vs++qk) H1 Q E
def Binds (K:PySem.W.Frag) (fd:FuncData) (ps:List Str) (ds:List Value):Prop:=
 ∀(s:Shared) (us:List Value),K.In s.heap→(us++ds).length=ps.length→BindsTo s fd ⟨us,[]⟩ (ps.zip (us++ds))
theorem Binds.all {K:PySem.W.Frag} {fd:FuncData} {ps:List Str} (h:∀us:List Value,us.length=ps.length→bindArgs fd ⟨us,[]⟩=pure (ps.zip us)):Binds K fd ps []:=fun s us _ hl=>by
 rw[List.append_nil] at hl ⊢
 exact .of_eq (h us hl)
def Passes (CX:pw) (X:Cx) (E:XK):Prop:=∀(pins:List (Addr×Obj)) (σ:St) (H:Hp) (s:Shared) (e:Value) (s':Shared),Inv X pins σ H s→CX X.stack H s E e s'→X.xe e s'
section
variable {X:Cx} {CX:pw} {k:Nat} {f C:Addr} {fd:FuncData} {ps:List Str} {sp:Sp} {qk:List V} {ds:List Value} {E:XK} {x m:Str} {p pos apos:Pos} {e o:Expr} {es:List Expr} {ta:TE} {t:TA}
theorem AX {pins:List (Addr×Obj)} {σ:St} {H:Hp} {s:Shared} {Q:VK} {us:List Value} {vs:List V} (F:bf X.prog X.w X.K X.mg X.base CX k f fd ps sp) (hr:aP k X.A) (hb:Binds X.K fd ps ds) (hd:Vals qk ds) (hx:Passes CX X E)
  (I:Inv X pins σ H s) (r:Vals vs us) (h:sp (vs++qk) H Q E):wpAny (model X.prog X.w) X.A (call (.ref f) us) (EP X pins σ Q) X.xe s:=by
 have r2:Vals (vs++qk) (us++ds):=r.append hd
 have hl:(us++ds).length=ps.length:=by rw[←r2.length];exact F.len _ _ _ _ h
 refine wpAny_call (codeAny_mono (F.run X.A X.stack s H ⟨us,[]⟩ (us++ds) (vs++qk) Q E hr I.env0 (hb s us I.g0 hl) r2 h) fun r s' hq=>?_)
 cases r with
 | error e=>exact hx pins σ H s e s' I hq
 | ok fl=>
  cases fl with
  | ret u=>exact I.after hq
  | next=>exact False.elim hq
  | brk=>exact False.elim hq
  | cont=>exact False.elim hq
theorem aC (F:bf X.prog X.w X.K X.mg X.base CX k f fd ps sp) (hr:aP k X.A) (hg:Gl X x) (hm:X.mg x=some (.ref f)) (hk:PySem.W.keepIn X.K (.ref f)=true) (hb:Binds X.K fd ps ds) (hd:Vals qk ds) (hx:Passes CX X E)
  (ha:PA X (e::es) t) (hdb:(x == ("__debug__":Str))=false:=by decide) (he:starEach (e::es) X.env=(false,eval e X.env)::starEach es X.env:=by rfl) (hpl:(backTo pos (starEach es X.env)).any (·.1)=false:=by rfl):
  PE X (.Call (.Name x p) (e::es) [] pos) (MC sp qk E t):=by
 intro pins s σ H Q I h
 refine wpAny_Call_Name_kw (x5 I hg hm ?_ hdb)
 refine PySem.W.callWith_K (h₀:=X.base) I.ok.mod.tE hk (aK (ha pos pins s σ H _ I h) fun us s1 ⟨vs,H1,I1,r,q⟩=>⟨I1.g0,?_⟩) he hpl
 exact AX F hr hb hd hx I1 r q
end
structure aS (N P:List Str) (sc:Scope):Prop where
 kind:sc.kind=.function
 co:sc.isCoroutine=false
 gen:sc.isGenerator=false
 nd:N.Nodup
 pre:N.take P.length=P
 par:∀x∈P,sc.names.lookup x=some .local∨sc.names.lookup x=some .cell
 Ih:∀y∈sc.names,y.2≠.free
theorem tK {kindOf:Str→Option NameKind} {x:Str}:∀{binds:List (Str×Value)} {m:Str→Option Value},(∀v,(x,v) ∉ binds)→bindL kindOf binds m x=m x
 | [],_,_=>rfl
 | (n,v)::r,m,h=>by
  unfold bindL
  rw[tK fun w hw=>h w (List.mem_cons_of_mem _ hw)]
  split
  ·have:x≠n:=by rintro rfl;exact h v List.mem_cons_self
   simp[this]
  ·rfl
theorem tL {kindOf:Str→Option NameKind} {x:Str}:∀{binds:List (Str×Value)} {m:Str→Option Value},(∀v,(x,v) ∉ binds)→bindC kindOf binds m x=m x
 | [],_,_=>rfl
 | (n,v)::r,m,h=>by
  unfold bindC
  rw[tL fun w hw=>h w (List.mem_cons_of_mem _ hw)]
  split
  ·rfl
  ·have:x≠n:=by rintro rfl;exact h v List.mem_cons_self
   simp[this]
theorem tM {kindOf:Str→Option NameKind} {x:Str} {v:Value}:∀{P:List Str} {vs:List Value} {i:Nat} {m:Str→Option Value},P.Nodup→P[i]? =some x→vs[i]? =some v→kindOf x=some .local→
  bindL kindOf (P.zip vs) m x=some v
 | [],_,_,_,_,h,_,_=>by simp at h
 | _::_,[],_,_,_,_,h,_=>by simp at h
 | p::P,w::vs,0,m,nd,h1,h2,hk=>by
  simp at h1 h2;subst h1;subst h2
  show bindL kindOf ((p,w)::P.zip vs) m p=_
  unfold bindL
  rw[tK fun v hv=>(List.nodup_cons.mp nd).1 (List.of_mem_zip hv).1,if_pos hk]
  simp
 | p::P,w::vs,i+1,m,nd,h1,h2,hk=>by
  show bindL kindOf ((p,w)::P.zip vs) m x=_
  unfold bindL
  exact tM (i:=i) (List.nodup_cons.mp nd).2 (by simpa using h1) (by simpa using h2) hk
theorem tN {kindOf:Str→Option NameKind} {x:Str} {v:Value}:∀{P:List Str} {vs:List Value} {i:Nat} {m:Str→Option Value},P.Nodup→P[i]? =some x→vs[i]? =some v→kindOf x≠some .local→
  bindC kindOf (P.zip vs) m x=some v
 | [],_,_,_,_,h,_,_=>by simp at h
 | _::_,[],_,_,_,_,h,_=>by simp at h
 | p::P,w::vs,0,m,nd,h1,h2,hk=>by
  simp at h1 h2;subst h1;subst h2
  show bindC kindOf ((p,w)::P.zip vs) m p=_
  unfold bindC
  rw[tL fun v hv=>(List.nodup_cons.mp nd).1 (List.of_mem_zip hv).1,if_neg hk]
  simp
 | p::P,w::vs,i+1,m,nd,h1,h2,hk=>by
  show bindC kindOf ((p,w)::P.zip vs) m x=_
  unfold bindC
  exact tN (i:=i) (List.nodup_cons.mp nd).2 (by simpa using h1) (by simpa using h2) hk
def start (N:List Str) (vs:List V):St:=vs.map some++List.replicate (N.length-vs.length) none
def jQ (CX:pw) (P:Program) (w:World) (K:PySem.W.Frag) (mg:Str→Option Value) (base:Heap) (N:List Str) (qual:Str) (scope:Scope) (f:Addr) (cd:Value) (A:Around) (outer:List Env) (s:Shared) (H:Hp) (E:XK):Cx where
 prog:=P
 w:=w
 K:=K
 mg:=mg
 base:=base
 A:=A.deeper (envOfC qual scope s.heap.objs.size f cd)
 N:=N
 s₀:=s
 H₀:=H
 env:=envOfC qual scope s.heap.objs.size f cd
 outer:=outer
 stack:=envOfC qual scope s.heap.objs.size f cd::outer
 ex:=[]
 calm:=true
 fn:=fun _=>true
 pn:=[]
 xe:=fun e s'=>wpAny (model P w) (A.deeper (envOfC qual scope s.heap.objs.size f cd)) (leaving (envOfC qual scope s.heap.objs.size f cd) e) (fun _ s''=>CX outer H s E e s'') (fun e' s''=>CX outer H s E e' s'') s'
theorem gC {sc:Scope} {n:Nat} {x:Str} (h:sc.names.lookup x=some .cell):∃c,(cellsFrom n sc.names []).lookup x=some c:=by
 have q:=PySem.W.cellsFrom_some sc.names n [] (.inl h)
 exact Option.isSome_iff_exists.mp q
theorem tO {CX:pw} {P:Program} {w:World} {K:PySem.W.Frag} {mg:Str→Option Value} {base:Heap} {N ps:List Str} {qual:Str} {scope:Scope} {f:Addr} {cd:Value} {A:Around} {outer:List Env} {s s1:Shared} {H:Hp} {E:XK} {us:List Value} {vs:List V}
  (S:aS N ps scope) (hd:A.handled=none) (e0:pH P w K mg base A outer s H) (hl:vs.length=ps.length) (r:Vals vs us)
  (x:InCallC s s.heap.objs.size (bindL (envOfC qual scope s.heap.objs.size f cd).kindOf (ps.zip us) fun _=>none) (cellsFrom (s.heap.objs.size+1) scope.names []) (bindC (envOfC qual scope s.heap.objs.size f cd).kindOf (ps.zip us) fun _=>none) s1):
  Inv (jQ CX P w K mg base N qual scope f cd A outer s H E) [] (start N vs) H s1:=by
 have hpl:ps.length≤N.length:=by have:=congrArg List.length S.pre;rw[List.length_take] at this;omega
 obtain⟨h1,tk,rfl,hk⟩:=x.done
 have ki:∀b:Addr,b ∉ (jQ CX P w K mg base N qual scope f cd A outer s H E).ex:=fun b z=>absurd (show b∈([]:List Addr) from z) (by simp)
 refine⟨⟨e0.mod,S.kind,rfl,rfl,Nat.le_refl _,fun y z c h1 h2=>?_,fun y hy=>?_,fun y c _ h=>?_,fun _=>hd,Around.frames_deeper e0.frames,.inr ⟨rfl,rfl⟩,fun b z=>absurd z (ki b),e0.bs,e0.nG,fun b _ _=>ki b,fun b z=>absurd z (ki b),e0.g_,e0.tF⟩,
  rfl,e0.bare,Un.kept hk,⟨_,x.toInCall.ns,fun i y v h1 h2 h3=>?_⟩,fun y c h=>⟨_,x.cell y c h⟩,e0.hok.fresh (Nat.le_refl _),fun y c h=>?_,fun p hp=>absurd (show p∈([]:List (Addr×Obj)) from hp) (by simp),e0.hok.kept hk,?_⟩
 ·exact name_of_addr x.apart (PySem.mem_of_lookup h1) (PySem.mem_of_lookup h2)
 ·have hy:scope.names.lookup y=some .cell∨scope.names.lookup y=some .free:=hy
  rcases hy with hy | hy
  ·exact gC hy
  ·exact absurd rfl (S.Ih _ (PySem.mem_of_lookup hy))
 ·exact Nat.le_of_lt (x.above y c (PySem.mem_of_lookup h))
 ·have hi:i<vs.length:=by
   unfold start at h2
   by_cases hi:i<vs.length
   ·exact hi
   ·rw[List.getElem?_append_right (by simpa using hi)] at h2
    rw[List.getElem?_replicate] at h2
    split at h2<;>cases h2
  have ha:vs[i]? =some v:=by
   unfold start at h2
   rw[List.getElem?_append_left (by simpa using hi),List.getElem?_map] at h2
   cases e:vs[i]? with
   | none=>rw[e] at h2;cases h2
   | some a=>rw[e] at h2;cases h2;rfl
  obtain⟨u,hu,rv⟩:=r.get ha
  have hp:ps[i]? =some y:=by
   rw[←S.pre,List.getElem?_take_of_lt (by omega)];exact h1
  have yd:ps.Nodup:=by rw[←S.pre];exact S.nd.sublist (List.take_sublist _ _)
  refine⟨u,rv,?_⟩
  rcases S.par y (List.mem_of_getElem? hp) with k | k
  ·exact .inl ⟨k,tM yd hp hu k⟩
  ·obtain⟨c,e⟩:=gC (n:=s.heap.objs.size+1) k
   refine .inr ⟨.inl k,c,e,?_⟩
   have q:=x.cell y c e
   rw[tN yd hp hu (by show scope.names.lookup y≠_;rw[k];decide)] at q
   exact q
 ·exact e0.hok.fresh (Nat.le_of_lt (x.above y c (PySem.mem_of_lookup h)))
 ·unfold start
  show _=N.length
  rw[List.length_append,List.length_map,List.length_replicate]
  omega
theorem Fi {CX:pw} {P:Program} {w:World} {K:PySem.W.Frag} {mg:Str→Option Value} {base:Heap} {k:Nat} {f:Addr} {name qual:Str} {params:Arguments} {body:List Stmt} {scope:Scope} {dV kV doc pm cdv ct oc:Value} {an od:Option Addr}
  {osl:Array (Option Value)} {N ps:List Str} {sp:Sp} (lk:K.lookup f=some ⟨oc,od,.func (PySem.W.fnOf name qual params body scope dV kV doc pm an cdv ct),osl⟩) (hcd:PySem.W.codeIn K cdv qual=true) (S:aS N ps scope)
  (len:∀vs H Q E,sp vs H Q E→vs.length=ps.length)
  (hbody:∀(A:Around) (outer:List Env) (s:Shared) (H:Hp) (vs:List V) (Q:VK) (E:XK),aP k (A.deeper (envOfC qual scope s.heap.objs.size f cdv))→sp vs H Q E→
   ∃t,jo (jQ CX P w K mg base N qual scope f cdv A outer s H E) body t∧t {nx:=fun _ H'=>Q .non H',rt:=Q} (start N vs) H):
  bf P w K mg base CX (k+1) f (PySem.W.fnOf name qual params body scope dV kV doc pm an cdv ct) ps sp:=by
 refine⟨len,fun A outer s H args us vs Q E hr e0 hb r hsp=>?_⟩
 have hl:=len _ _ _ _ hsp
 have KX:K.In s.heap:=e0.mod.tE.keeps fun b o e=>(e0.bs b o e).1
 have lim:s.heap.NoLimit:=e0.mod.nolimit.keeps fun b o e=>(e0.bs b o e).1
 have hkind:∀y∈ps.zip us,scope.names.lookup y.1=some .local∨(scope.names.lookup y.1=some .cell∧((cellsFrom (s.heap.objs.size+1) scope.names []).lookup y.1).isSome=true):=fun⟨n,v⟩ hy=>by
  rcases S.par n (List.of_mem_zip hy).1 with q | q
  ·exact .inl q
  ·exact .inr ⟨q,PySem.W.cellsFrom_some _ _ _ (.inl q)⟩
 refine codeAny_call_function hr.depth (KX _ _ lk) rfl S.co S.gen rfl (PySem.W.codeRec_of KX hcd) (hb _ _ _ _ ?_)
 refine wpAny_newFunctionEnv_cells S.kind hkind fun env he s1 x=>?_
 subst he
 refine⟨lim.keeps x.toInCall.keep,codeAny_func ?_⟩
 obtain⟨t,ht,hq⟩:=hbody A outer s H vs Q E (hr.deeper _) hsp
 have I:Inv (jQ CX P w K mg base N qual scope f cdv A outer s H E) [] (start N vs) H s1:=tO S hr.hd e0 hl r x
 refine wpAny_mono (ht [] s1 (start N vs) H _ I hq) (fun fl s' hs=>?_) fun e s' hs=>hs
 have fin:∀{σ':St} {H':Hp} {v:V} {u:Value},Inv (jQ CX P w K mg base N qual scope f cdv A outer s H E) [] σ' H' s'→RelV v u→Q v H'→CE outer P w H s Q u s':=
  fun {σ' H' v u} J rv q=>⟨v,H',J.os,J.bare,J.base,J.hok,rv,q⟩
 cases fl with
 | ret u=>
  obtain⟨v,σ',H',J,rv,q⟩:=hs
  exact fin J rv q
 | next=>
  obtain⟨σ',H',J,q⟩:=hs
  exact fin (v:=V.non) (u:=Value.none) J rfl q
 | brk=>
  obtain⟨_,_,_,q⟩:=hs
  exact False.elim q
 | cont=>
  obtain⟨_,_,_,q⟩:=hs
  exact False.elim q
section
variable {X:Cx} {x:Str} {p pos:Pos} {e:Expr} {es:List Expr} {t:TA} {id T:String} {r:List V→Hp→VK→Prop}
def Nt (r:List V→Hp→VK→Prop) (t:TA):TE:=fun σ H Q=>t σ H fun vs H1=>r vs H1 Q
theorem aA (hc:dh X (.builtin id) r) (hg:Gl X x) (hm:X.mg x=none) (hv:bootBuiltins x=some (.builtin id)) (ha:PA X (e::es) t) (hn:x≠"__name__":=by decide) (hdb:(x == ("__debug__":Str))=false:=by decide)
  (he:starEach (e::es) X.env=(false,eval e X.env)::starEach es X.env:=by rfl) (hpl:(backTo pos (starEach es X.env)).any (·.1)=false:=by rfl):PE X (.Call (.Name x p) (e::es) [] pos) (Nt r t):=by
 intro pins s σ H Q I h
 refine wpAny_Call_Name_kw (g5 I hg hm hv ?_ hn hdb)
 exact PyProof.Rows.callWith_builtin1 (aK (ha pos pins s σ H _ I h) fun us s1 ⟨vs,H1,I1,r1,q1⟩=>hc pins s1 σ H1 vs us Q I1 r1 q1) he hpl
theorem aY (hc:dh X (.type T) r) (hg:Gl X x) (hm:X.mg x=none) (hv:bootBuiltins x=some (.type T)) (ha:PA X (e::es) t) (hn:x≠"__name__":=by decide) (hdb:(x == ("__debug__":Str))=false:=by decide)
  (he:starEach (e::es) X.env=(false,eval e X.env)::starEach es X.env:=by rfl) (hpl:(backTo pos (starEach es X.env)).any (·.1)=false:=by rfl):PE X (.Call (.Name x p) (e::es) [] pos) (Nt r t):=by
 intro pins s σ H Q I h
 refine wpAny_Call_Name_kw (g5 I hg hm hv ?_ hn hdb)
 exact PyProof.Rows.callWith_type1 (aK (ha pos pins s σ H _ I h) fun us s1 ⟨vs,H1,I1,r1,q1⟩=>hc pins s1 σ H1 vs us Q I1 r1 q1) he hpl
end
end L2
namespace HT
open PySem PyProof.Rows
section
variable {prog:Program} {w:World} {A:Around} {E:Value→Shared→Prop} {s:Shared}
theorem GO {t b:Addr} {vs ws:List Value} {Q:Value→Shared→Prop} (ht:IsTup s.heap t vs.toArray) (hb:IsTup s.heap b ws.toArray) (hv:vs≠[])
  (h1:ws=[]→Q (.ref t) s) (h2:ws≠[]→Q (.ref s.heap.objs.size) {s with heap:=s.heap.push {cls:=.type "tuple",data:=.seq (vs++ws).toArray}})
  (hsz:vs.length+ws.length≤sizeLine):wpAny (model prog w) A (binaryOp .Add (.ref t) (.ref b)) Q E s:=by
 obtain⟨⟨cls,dd,data,sl⟩,ho,hc,n,hd⟩:=id ht
 obtain⟨⟨cls2,dd2,data2,sl2⟩,ho2,hc2,n2,hd2⟩:=id hb
 simp only at hc hd hc2 hd2
 subst hc hd hc2 hd2
 have e:vs.toArray++ws.toArray=(vs++ws).toArray:=by simp
 by_cases hw:ws=[]
 ·exact concat_meets ⟨_,ho,rfl⟩ ⟨_,ho2,rfl⟩ noFill_tuple_add seq_tuple_add PySem.F.slot_tuple_add PySem.F.entry_tuple_add (PySem.F.args_tuple_add_2 _ _)
   (tuple_addW1 t b vs.toArray ws.toArray n n2 dd dd2 sl sl2 (by simpa using hv) (by simp[hw])) ⟨ho,ho2,h1 hw⟩
 ·refine concat_meets ⟨_,ho,rfl⟩ ⟨_,ho2,rfl⟩ noFill_tuple_add seq_tuple_add PySem.F.slot_tuple_add PySem.F.entry_tuple_add (PySem.F.args_tuple_add_2 _ _)
   (tuple_addW2 t b vs.toArray ws.toArray n n2 dd dd2 sl sl2 (by simpa using hv) (by simpa using hw) (by rw[List.size_toArray,List.size_toArray];exact hsz)) ⟨ho,ho2,?_⟩
  rw[e]
  exact h2 hw
def aV (n d:Nat):Option Int→Nat
 | none=>d
 | some v=>if v<0 then(v+(n:Int)).toNat else min v.toNat n
theorem rq (n d k:Nat):aV n d (some (k:Int))=min k n:=by
 show(if(k:Int)<0 then((k:Int)+(n:Int)).toNat else min (k:Int).toNat n)=min k n
 rw[if_neg (by omega),Int.toNat_natCast]
theorem Ii (n d:Nat) (hd:d≤n) (o:Option Int):aV n d o≤n:=by
 cases o with
 | none=>exact hd
 | some v=>
  show(if v<0 then(v+(n:Int)).toNat else min v.toNat n)≤n
  by_cases hv:v<0
  ·rw[if_pos hv];omega
  ·rw[if_neg hv];exact Nat.min_le_right _ _
theorem ye (v:Int) (n d:Nat):(if v<0 then max (v+(n:Int)) 0 else min v (n:Int))=((aV n d (some v):Nat):Int):=by
 show(if v<0 then max (v+(n:Int)) 0 else min v (n:Int))=(((if v<0 then(v+(n:Int)).toNat else min v.toNat n):Nat):Int)
 by_cases hv:v<0
 ·simp only[if_pos hv];omega
 ·simp only[if_neg hv];omega
theorem zo (lo hi:Option Int) (n:Nat):Builtin.Slice.sliceAdjust lo hi 1 (n:Int)=(((aV n 0 lo:Nat):Int),((aV n n hi:Nat):Int)):=by
 have h1:¬((1:Int)<0):=by omega
 unfold Builtin.Slice.sliceAdjust
 simp only[h1,if_false]
 refine Prod.ext ?_ ?_
 ·cases lo with
  | none=>rfl
  | some v=>exact ye v n 0
 ·cases hi with
  | none=>rfl
  | some v=>exact ye v n n
theorem zp (i j:Nat):Builtin.Slice.slicePlaces (i:Int) (j:Int) 1=j-i:=by
 unfold Builtin.Slice.slicePlaces
 have h1:(1:Int)>0:=by omega
 simp only[h1,if_true,Int.ediv_one]
 split<;>omega
theorem ql {v:Value} {o:Option Int} {Q:Option Int→Shared→Prop} (p:IsPart v o) (h:Q o s):wpAny (model prog w) A (Builtin.Slice.slicePartIndex v) Q E s:=by
 cases p with
 | none=>exact slicePart_none h
 | int i t=>exact slicePart_int h
theorem jR {sl:Addr} {vl vu:Value} {lo hi:Option Int} {n:Nat} {Q:Int×Int×Nat→Shared→Prop} (hs:s.heap.IsSliceOf sl vl vu .none) (pl:IsPart vl lo) (pu:IsPart vu hi)
  (h:Q (((aV n 0 lo:Nat):Int),1,aV n n hi-aV n 0 lo) s):wpAny (model prog w) A (Builtin.Slice.sliceApplied (.ref sl) (pure (n:Int))) Q E s:=by
 obtain⟨os,hos,hcs,hds⟩:=id hs
 unfold Builtin.Slice.sliceApplied Builtin.Slice.sliceFields
 refine wpAny_bind (wpAny_bind (wpAny_field hos hds (x:=vl) rfl (wpAny_bind (wpAny_field hos hds (x:=vu) rfl (wpAny_bind (wpAny_field hos hds (x:=.none) rfl (wpAny_pure ?_)))))))
 refine wpAny_bind (slicePart_none ?_)
 show wpAny _ _ (if((1:Int) == 0)=true then _ else _) _ _ s
 rw[if_neg (by decide)]
 refine wpAny_bind (ql pl (wpAny_bind (ql pu (wpAny_bind (wpAny_pure ?_)))))
 show wpAny _ _ (match Builtin.Slice.sliceAdjust lo hi 1 (n:Int) with | (lo,hi)=>pure (lo,(1:Int),Builtin.Slice.slicePlaces lo hi 1)) _ _ s
 rw[zo lo hi n]
 show wpAny _ _ (pure (((aV n 0 lo:Nat):Int),(1:Int),Builtin.Slice.slicePlaces ((aV n 0 lo:Nat):Int) ((aV n n hi:Nat):Int) 1)) _ _ s
 rw[zp]
 exact wpAny_pure h
theorem DB (xs:Array Value) (i k:Nat):((List.range k).filterMap fun(m:Nat)=>xs[((i:Int)+(m:Int)*1).toNat]?).toArray=((xs.toList.drop i).take k).toArray:=by
 have e:(fun(m:Nat)=>xs[((i:Int)+(m:Int)*1).toNat]?)=fun m=>xs[i+m]? :=by
  funext m
  have:((i:Int)+(m:Int)*1).toNat=i+m:=by omega
  rw[this]
 rw[e]
 have:=pick_run xs i k
 rw[List.filterMap_map] at this
 have e2:((fun x=>xs[x]?)∘fun x=>i+x)=fun m=>xs[i+m]? :=rfl
 rw[e2] at this
 rw[this]
theorem ph {t sl:Addr} {items:Array Value} {vl vu:Value} {lo hi:Option Int} {Q:Value→Shared→Prop} (ht:IsTup s.heap t items) (hs:s.heap.IsSliceOf sl vl vu .none) (pl:IsPart vl lo) (pu:IsPart vu hi)
  (hw:¬(aV items.size 0 lo=0∧aV items.size items.size hi=items.size))
  (h:Q (.ref s.heap.objs.size) {s with heap:=s.heap.push {cls:=.type "tuple",data:=.seq ((items.toList.drop (aV items.size 0 lo)).take (aV items.size items.size hi-aV items.size 0 lo)).toArray}})
  (hsz:items.size≤sizeLine):wpAny (model prog w) A (getItem (.ref t) (.ref sl)) Q E s:=by
 have u0:sizeOk (.seq ((items.toList.drop (aV items.size 0 lo)).take (aV items.size items.size hi-aV items.size 0 lo)).toArray):=by
  show((items.toList.drop (aV items.size 0 lo)).take (aV items.size items.size hi-aV items.size 0 lo)).toArray.size≤sizeLine
  rw[List.size_toArray,List.length_take,List.length_drop,Array.length_toList]
  omega
 have hj:aV items.size items.size hi≤items.size:=Ii _ _ (Nat.le_refl _) hi
 obtain⟨os,hos,hcs,hds⟩:=id hs
 have hTs:s.TypeIs (.ref sl) "slice":=⟨os,hos,hcs⟩
 unfold getItem
 try with_reducible refine wpAny_holding ?_
 first | refine wpAny_bind (wpAny_pure ?_) | skip
 refine wpAny_bind (wpAny_sequenceKey ht.typeIs (by decide) ?_)
 refine wpAny_bind (wpAny_callSpecial?_slot (name:=Str.ofString "__getitem__") ht.typeIs PyProof.Rows.slot_tuple_getitem
  (wpAny_call_entry PyProof.Rows.slot_tuple_getitem ht.typeIs entry_tuple_getitem ?_ (args_tuple_getitem _ _)))
 show wpAny _ _ (Builtin.Tuple.tupleItemsOf (.ref t) >>= _) _ _ s
 refine wpAny_bind (tupleItemsOf_ ht ?_)
 refine wpAny_bind (wpAny_typeOf hTs ?_)
 rw[if_pos (by decide)]
 refine wpAny_bind (jR hs pl pu ?_)
 have hno:¬((((aV items.size 0 lo:Nat):Int) == 0&&(1:Int) == 1&&(aV items.size items.size hi-aV items.size 0 lo) == items.size)=true):=by
  intro q
  rw[Bool.and_eq_true,Bool.and_eq_true] at q
  have q1:((aV items.size 0 lo:Nat):Int)=0:=eq_of_beq q.1.1
  have q2:aV items.size items.size hi-aV items.size 0 lo=items.size:=eq_of_beq q.2
  exact hw ⟨by omega,by omega⟩
 show wpAny _ _ (if(((aV items.size 0 lo:Nat):Int) == 0&&(1:Int) == 1&&(aV items.size items.size hi-aV items.size 0 lo) == items.size)=true then _ else _) _ _ s
 rw[if_neg hno,DB]
 first
  | exact wpAny_bind (m:=Builtin.Tuple.tupleExact _) (wpAny_newObj_type (wpAny_pure ⟨_,rfl,wpAny_pure h⟩) u0)
  | exact wpAny_bind (m:=Builtin.Tuple.tupleExact _) (wpAny_newObj_type (wpAny_bind (wpAny_pure (wpAny_pure ⟨_,rfl,wpAny_pure h⟩))) u0)
  | exact wpAny_bind (wpAny_bind (m:=Builtin.Tuple.tupleExact _) (wpAny_newObj_type (wpAny_pure (wpAny_pure ⟨_,rfl,wpAny_pure h⟩)) u0))
  | exact wpAny_bind (wpAny_bind (m:=Builtin.Tuple.tupleExact _) (wpAny_newObj_type (wpAny_pure ⟨_,rfl,wpAny_pure h⟩) u0))
end
end HT
namespace L2
open PySem PySem.Spec PyProof.Rows
abbrev TO:=St→Hp→(Option Int→Hp→Prop)→Prop
def PO (X:Cx) (e:Option Expr) (t:TO):Prop:=
 ∀(pins:List (Addr×Obj)) (s:Shared) (σ:St) (H:Hp) (Q:Option Int→Hp→Prop),Inv X pins σ H s→t σ H Q→
  wpAny (model X.prog X.w) X.A (evalPart e X.env) (fun u s'=>∃o H',Inv X pins σ H' s'∧IsPart u o∧Q o H') X.xe s
def yf:TO:=fun _ H Q=>Q none H
def ME (t:TE):TO:=fun σ H Q=>t σ H fun x H1=>∃i,x=.int i∧Q (some i) H1
theorem intsAre_of {ns:List Int}:∀{us:List Value},Vals (ns.map V.int) us→IntsAre us ns:=by
 induction ns with
 | nil=>intro us r;rw[List.map_nil] at r;cases r;exact .nil
 | cons n ns ih=>
  intro us r
  rw[List.map_cons] at r
  cases r with
  | cons r1 r2=>
   obtain⟨t,e⟩:=r1
   subst e
   exact .cons n t (ih r2)
section
variable {X:Cx} {e:Expr} {te:TE} {lo hi:Option Expr} {tl th:TO} {pos p2:Pos}
theorem d_:PO X none yf:=by
 intro pins s σ H Q I h
 rw[evalPart_none]
 exact wpAny_pure ⟨none,H,I,.none,h⟩
theorem fP (h:PE X e te):PO X (some e) (ME te):=by
 intro pins s σ H Q I hw
 rw[evalPart_some]
 refine aK (h pins s σ H _ I hw) fun u s1 ⟨x,H1,I1,r1,q1⟩=>?_
 obtain⟨i,rfl,q⟩:=q1
 obtain⟨t,rfl⟩:=r1
 exact⟨some i,H1,I1,.int i t,q⟩
def yg (X:Cx) (r:V→Option Int→Option Int→Hp→VK→Prop):Prop:=
 ∀(pins:List (Addr×Obj)) (s:Shared) (σ:St) (H:Hp) (x:V) (v vl vu:Value) (lo hi:Option Int) (sl:Addr) (Q:VK),Inv X pins σ H s→RelV x v→s.heap.IsSliceOf sl vl vu .none→IsPart vl lo→IsPart vu hi→r x lo hi H Q→
  ∃T id,typeLookup (.type T) "__getitem__"=pure (some (.builtin id))∧s.TypeIs v T∧wpAny (model X.prog X.w) X.A (getItem v (.ref sl)) (EP X pins σ Q) X.xe s
def Sn (r:V→Option Int→Option Int→Hp→VK→Prop) (te:TE) (tl th:TO):TE:=fun σ H Q=>te σ H fun x H1=>tl σ H1 fun l H2=>th σ H2 fun u H3=>r x l u H3 Q
theorem gD {r:V→Option Int→Option Int→Hp→VK→Prop} (hr:yg X r) (he:PE X e te) (hl:PO X lo tl) (hu:PO X hi th):PE X (.Subscript e (.Slice lo hi none p2) pos) (Sn r te tl th):=by
 intro pins s σ H Q I h
 refine Subscript_ (aK (he pins s σ H _ I h) fun v s1 ⟨x,H1,I1,r1,q1⟩=>?_)
 refine wpAny_Slice (aK (hl pins s1 σ H1 _ I1 q1) fun vl s2 ⟨l,H2,I2,pl,q2⟩=>aK (hu pins s2 σ H2 _ I2 q2) fun vu s3 ⟨u,H3,I3,pu,q3⟩=>?_)
 rw[evalPart_none]
 refine wpAny_pure ?_
 have I4:Inv X pins σ H3 {s3 with heap:=s3.heap.push {cls:=.type "slice",data:=.fields #[vl,vu,.none]}}:=I3.kept (t':=s3.toks) fun b ob q=>Heap.get?_push_of_some _ q
 obtain⟨T,id,hT,ht,hg⟩:=hr pins {s3 with heap:=s3.heap.push {cls:=.type "slice",data:=.fields #[vl,vu,.none]}} σ H3 x v vl vu l u s3.heap.objs.size Q I4 r1 (Heap.IsSliceOf.new ..) pl pu q3
 show wpAny (model X.prog X.w) X.A (subscriptTail e (.Slice lo hi none p2) v (.ref s3.heap.objs.size)) (EP X pins σ Q) X.xe {s3 with heap:=s3.heap.push {cls:=.type "slice",data:=.fields #[vl,vu,.none]}}
 exact tail_any (ops:=[.ref s3.heap.objs.size,v]) ht hT hg (by with_unfolding_all rfl)
def gi (xs:List V) (lo hi:Option Int):List V:=(xs.drop (HT.aV xs.length 0 lo)).take (HT.aV xs.length xs.length hi-HT.aV xs.length 0 lo)
theorem px (xs:List V) (lo hi:Option Int):(gi xs lo hi).length≤xs.length:=by
 unfold gi
 rw[List.length_take,List.length_drop]
 omega
def Pm (K:PySem.W.Frag):V→Option Int→Option Int→Hp→VK→Prop:=fun x lo hi H Q=>∃a xs,x=.ref a∧bH K H a xs∧
 ¬(HT.aV xs.length 0 lo=0∧HT.aV xs.length xs.length hi=xs.length)∧∀p,H p=none→Q (.ref p) (upd H p (.tup (gi xs lo hi)))
theorem Ij:yg X (Pm X.K):=by
 intro pins s σ H x v vl vu lo hi sl Q I rx hs pl pu h
 obtain⟨a,xs,rfl,hx,hw,q⟩:=h
 cases rx
 obtain⟨its,r,ht,hz⟩:=I.tuple hx
 have hlen:its.toArray.size=xs.length:=by rw[List.size_toArray];exact r.length.symm
 refine⟨"tuple",_,PyProof.Rows.slot_tuple_getitem.lookup,ht.typeIs,?_⟩
 refine HT.ph ht hs pl pu (by rw[hlen];exact hw) ?_ (by rw[hlen];exact hz)
 rw[hlen]
 refine⟨.ref s.heap.objs.size,_,I.laid (t':=s.toks) (o:=.tup (gi xs lo hi)) (fun b ob q=>Heap.get?_push_of_some _ q) (Nat.le_refl _) ?_,rfl,q _ (I.hok.fresh (Nat.le_refl _))⟩
 exact⟨⟨Nat.le_trans (px xs lo hi) hz,_,Heap.get?_push_size _ rfl,rfl⟩,_,(r.drop (HT.aV xs.length 0 lo)).take (HT.aV xs.length xs.length hi-HT.aV xs.length 0 lo),IsTup.new _ _⟩
def MF (K:PySem.W.Frag):R2:=fun x y H Q=>∃a b xs ys,x=.ref a∧y=.ref b∧bH K H a xs∧bH K H b ys∧xs≠[]∧xs.length+ys.length≤sizeLine∧
 (ys=[]→Q (.ref a) H)∧(ys≠[]→∀p,H p=none→Q (.ref p) (upd H p (.tup (xs++ys))))
theorem Vals.rz {xs:List V} {us:List Value} (r:Vals xs us):us=[]↔xs=[]:=by
 cases r with
 | nil=>simp
 | cons _ _=>simp
theorem yh:cG X (binaryOp .Add) (MF X.K):=by
 intro pins s σ H x y v u Q I rx ry h
 obtain⟨a,b,xs,ys,rfl,rfl,ha,hb,hx,hz,q1,q2⟩:=h
 cases rx
 cases ry
 obtain⟨its,r1,p1,_⟩:=I.tuple ha
 obtain⟨its2,r2,p2,_⟩:=I.tuple hb
 refine HT.GO p1 p2 (fun z=>hx (r1.rz.mp z)) (fun z=>⟨.ref a,H,I,rfl,q1 (r2.rz.mp z)⟩) (fun z=>?_) (by rw[←r1.length,←r2.length];exact hz)
 refine⟨.ref s.heap.objs.size,_,I.laid (t':=s.toks) (o:=.tup (xs++ys)) (fun b ob q=>Heap.get?_push_of_some _ q) (Nat.le_refl _) ?_,rfl,q2 (fun w=>z (r2.rz.mpr w)) _ (I.hok.fresh (Nat.le_refl _))⟩
 exact⟨⟨by rw[List.length_append];exact hz,_,Heap.get?_push_size _ rfl,rfl⟩,_,r1.append r2,IsTup.new _ _⟩
end
def ng (n:Nat) (i:Int):Option Nat:=if 0≤i then(if i<n then some i.toNat else none) else if-(n:Int)≤i then some (i+n).toNat else none
def lI {α:Type} (xs:List α) (i:Int):Option α:=(ng xs.length i).bind fun j=>xs[j]?
theorem yi {n:Nat} {i:Int} {j:Nat} (h:ng n i=some j):seqIndex? i n=some j∧j<n∧ -(n:Int)≤i∧i<n:=by
 unfold ng at h
 by_cases h0:0≤i
 ·rw[if_pos h0] at h
  by_cases h1:i<n
  ·rw[if_pos h1] at h
   have e:i.toNat=j:=Option.some.inj h
   exact⟨by rw[seqIndex_of h0 h1,e],by omega,by omega,h1⟩
  ·rw[if_neg h1] at h;cases h
 ·rw[if_neg h0] at h
  by_cases h1: -(n:Int)≤i
  ·rw[if_pos h1] at h
   have e:(i+n).toNat=j:=Option.some.inj h
   exact⟨by rw[seqIndex_neg (by omega) h1,e],by omega,h1,by omega⟩
  ·rw[if_neg h1] at h;cases h
theorem rA {α:Type} {xs:List α} {i:Int} {v:α} (h:lI xs i=some v):∃j,seqIndex? i xs.length=some j∧xs[j]? =some v∧j<xs.length∧ -(xs.length:Int)≤i∧i<xs.length:=by
 unfold lI at h
 cases e:ng xs.length i with
 | none=>rw[e] at h;cases h
 | some j=>
  rw[e] at h
  obtain⟨h1,h2,h3,h4⟩:=yi e
  exact⟨j,h1,h,h2,h3,h4⟩
theorem aB {α:Type} {xs:List α} {j:Nat} {v:α} (h:xs[j]? =some v):lI xs (j:Int)=some v:=by
 have hj:j<xs.length:=(List.getElem?_eq_some_iff.mp h).1
 have e:ng xs.length (j:Int)=some j:=by
  unfold ng
  rw[if_pos (by omega),if_pos (by omega)];simp
 unfold lI;rw[e];exact h
theorem DC {α:Type} (xs:List α) (v:α):lI (xs++[v]) (-1)=some v:=by
 have hl:(xs++[v]).length=xs.length+1:=by simp
 have e:ng (xs++[v]).length (-1)=some xs.length:=by
  unfold ng
  rw[hl,if_neg (by decide),if_pos (by omega)]
  congr 1
  omega
 unfold lI
 rw[e]
 show(xs++[v])[xs.length]? =some v
 simp
def GP (b:Expr):Prop:=∀o i,subscripted b false o i=operate [o,i] (getItem o i)
def yj (X:Cx) (r:R2):Prop:=
 ∀(value slice:Expr) (pins:List (Addr×Obj)) (s:Shared) (σ:St) (H:Hp) (x y:V) (v u:Value) (Q:VK),Inv X pins σ H s→RelV x v→RelV y u→r x y H Q→
  subscripted slice false v u=operate [v,u] (getItem v u)→wpAny (model X.prog X.w) X.A (subscriptTail value slice v u) (EP X pins σ Q) X.xe s
def Nu (X:Cx) (id:String) (r:V→List V→Hp→VK→Prop):Prop:=
 ∀(pins:List (Addr×Obj)) (s:Shared) (σ:St) (H:Hp) (x:V) (xs:List V) (v:Value) (us:List Value) (Q:VK),Inv X pins σ H s→RelV x v→Vals xs us→r x xs H Q→
  wpAny (model X.prog X.w) X.A (call (.builtin id) (v::us)) (EP X pins σ Q) X.xe s
section
variable {X:Cx} {a b:Expr} {ta tb:TE} {pos:Pos}
theorem aJ {r:R2} (hr:yj X r) (ha:PE X a ta) (hb:PE X b tb) (hs:GP b):PE X (.Subscript a b pos) (Ff r ta tb):=by
 intro pins s σ H Q I h
 exact Subscript_ (Ds ha hb I h fun v u s2 x y H2 I2 rx ry q=>hr a b pins s2 σ H2 x y v u Q I2 rx ry q (hs _ _))
def Ik (K:PySem.W.Frag):R2:=fun x y H Q=>∃p xs i v,x=.ref p∧y=.int i∧br K H p xs∧lI xs i=some v∧Q v H
def Il (K:PySem.W.Frag):R2:=fun x y H Q=>∃p xs i v,x=.ref p∧y=.int i∧bH K H p xs∧lI xs i=some v∧Q v H
def Pn:R2:=fun x y H Q=>∃z i c,x=.str z∧y=.int i∧z.length≤sizeLine∧lI z.cps.toList i=some c∧Q (.str ⟨#[c]⟩) H
theorem GQ:yj X (Ik X.K):=by
 intro value slice pins s σ H x y v u Q I rx ry h hs
 obtain⟨p,xs,i,z,rfl,rfl,hq,he,q⟩:=h
 cases rx
 obtain⟨t,rfl⟩:=ry
 obtain⟨its,r,pl,hz⟩:=I.list hq
 obtain⟨j,h1,h2,h3,h4,h5⟩:=rA he
 obtain⟨w,ew,qm⟩:=r.get h2
 have hl:=r.length
 have hn:=lH
 have fin:EP X pins σ Q w s:=⟨z,H,I,qm,q⟩
 by_cases h0:0≤i
 ·have hj:i.toNat=j:=by
   rw[seqIndex_of h0 h5] at h1
   exact Option.some.inj h1
  exact item_listR pl.isList h0 (by omega) (by rw[hj];simpa using ew) fin hs
 ·have hj:(i+(its.toArray.size:Int)).toNat=j:=by
   rw[seqIndex_neg (by omega) h4] at h1
   rw[List.size_toArray,←hl]
   exact Option.some.inj h1
  exact subscriptTail_builtinR (x:=w) pl.isList.typeIs slot_list_getitem.lookup
   (wpAny_getItem_list_neg (Q:=fun r s'=>r=w∧EP X pins σ Q r s') pl.isList (by omega) (by rw[List.size_toArray]<;>omega) (by omega) (by rw[hj];simpa using ew) ⟨rfl,fin⟩) hs
theorem Im:yj X (Il X.K):=by
 intro value slice pins s σ H x y v u Q I rx ry h hs
 obtain⟨p,xs,i,z,rfl,rfl,hq,he,q⟩:=h
 cases rx
 obtain⟨t,rfl⟩:=ry
 obtain⟨its,r,pl,hz⟩:=I.tuple hq
 obtain⟨j,h1,h2,h3,h4,h5⟩:=rA he
 obtain⟨w,ew,qm⟩:=r.get h2
 have hl:=r.length
 have hn:=lH
 have fin:EP X pins σ Q w s:=⟨z,H,I,qm,q⟩
 exact subscriptTail_builtinR (x:=w) pl.typeIs slot_tuple_getitem.lookup
  (getItem_tuple (j:=j) (Q:=fun r s'=>r=w∧EP X pins σ Q r s') pl (by omega) (by omega) (by rw[List.size_toArray,←hl];exact h1) (by simpa using ew) ⟨rfl,fin⟩) hs
theorem AY:yj X Pn:=by
 intro value slice pins s σ H x y v u Q I rx ry h hs
 obtain⟨z,i,c,rfl,rfl,hz,he,q⟩:=h
 obtain⟨t,rfl⟩:=rx
 obtain⟨t',rfl⟩:=ry
 obtain⟨j,h1,h2,h3,h4,h5⟩:=rA he
 have hl:z.cps.toList.length=z.length:=by simp[Str.length]
 rw[hl] at h1 h4 h5
 have hn:=lH
 exact tail_any (typeIs_str s z t) slot_str_getitem.lookup (getItem_str (c:=c) (by
  have e1:decide (i< -(2 ^ 63:Int))=false:=decide_eq_false (by omega)
  have e2:decide (i ≥ 2 ^ 63)=false:=decide_eq_false (by omega)
  rw[e1,e2,Bool.or_false]) (by rw[h1];simpa using h2) ⟨.str ⟨#[c]⟩,H,I.tok _,⟨_,rfl⟩,q⟩) hs
theorem zq (its:List Value) (n j:Nat) (u:Value):Obj.mapSeq (·.setIfInBounds j u) {cls:=.type "list",data:=.seq its.toArray n}={cls:=.type "list",data:=.seq (its.set j u).toArray n}:=by
 simp[Obj.mapSeq]
theorem Inv.lst {pins:List (Addr×Obj)} {σ:St} {H:Hp} {s:Shared} {p:Addr} {xs:List V} (I:Inv X pins σ H s) (h:H p=some (.lst xs)):
  ∃(its:List Value) (n:Nat),Vals xs its∧s.heap.get? p=some {cls:=.type "list",data:=.seq its.toArray n}∧xs.length≤sizeLine:=by
 obtain⟨z,its,n,r,e⟩:=I.hok p _ h
 exact⟨its,n,r,e,z⟩
theorem Inv.Io {pins:List (Addr×Obj)} {σ:St} {H:Hp} {s:Shared} {p:Addr} {xs ys:List V} {its its':List Value} {n n':Nat} {f:Obj→Obj} (I:Inv X pins σ H s) (h:H p=some (.lst xs))
  (ho:s.heap.get? p=some {cls:=.type "list",data:=.seq its.toArray n}) (hf:f {cls:=.type "list",data:=.seq its.toArray n}={cls:=.type "list",data:=.seq its'.toArray n'}) (r:Vals ys its') (hz:ys.length≤sizeLine) (t:Nat):
  Inv X pins σ (upd H p (.lst ys)) {s with heap:=s.heap.update p f,toks:=t}:=by
 have e:(s.heap.update p f).get? p=some {cls:=.type "list",data:=.seq its'.toArray n'}:=by
  rw[Heap.get?_update_self f ho (by rw[hf]<;>rfl),hf]
 refine I.write (x:=p) (e:=p) (by rw[h];trivial) (.inl rfl) (fun b u hb q=>(Heap.get?_update_other _ _ (Ne.symm hb)).trans q) ⟨_,e⟩ ?_
 exact⟨hz,its',n',r,e⟩
def MG:V→V→V→Hp→(Hp→Prop)→Prop:=fun o i v H Q=>∃p xs k j,o=.ref p∧i=.int k∧H p=some (.lst xs)∧ng xs.length k=some j∧Q (upd H p (.lst (xs.set j v)))
theorem set_list:HX X MG:=by
 intro pins s σ H o i v ov iv u Q I ro ri rv h
 obtain⟨p,xs,k,j,rfl,rfl,hp,hj,q⟩:=h
 cases ro
 obtain⟨t,rfl⟩:=ri
 obtain⟨its,n,r,ho,hz⟩:=I.lst hp
 obtain⟨h1,h2,h3,h4⟩:=yi hj
 have hl:=r.length
 have hn:=lH
 have I':Inv X pins σ (upd H p (.lst (xs.set j v))) {s with heap:=s.heap.update p (Obj.mapSeq (·.setIfInBounds j u))}:=
  I.Io hp ho (zq its n j u) (r.set rv j) (by rw[List.length_set];exact hz) s.toks
 by_cases h0:0≤k
 ·have hk:k.toNat=j:=by
   rw[seqIndex_of h0 h4] at h1
   exact Option.some.inj h1
  exact PySem.W.ki_setAt ho h0 (by omega) (by rw[List.size_toArray,←hl];exact h4) (by rw[hk];exact⟨_,I',q⟩)
 ·have hk:(k+(its.toArray.size:Int)).toNat=j:=by
   rw[seqIndex_neg (by omega) h3] at h1
   rw[List.size_toArray,←hl]
   exact Option.some.inj h1
  exact PySem.W.ki_setBack ho (by omega) (by rw[List.size_toArray,←hl];exact h3) (by omega) (by rw[hk];exact⟨_,I',q⟩)
theorem vt (lo hi:Option Int) (n:Nat):(sliceBounds lo hi none n).1=((HT.aV n 0 lo:Nat):Int)∧(sliceBounds lo hi none n).2.1=((HT.aV n n hi:Nat):Int)∧(sliceBounds lo hi none n).2.2=1:=by
 refine⟨?_,?_,rfl⟩
 ·cases lo with
  | none=>simp[sliceBounds,HT.aV]
  | some i=>
   simp only[sliceBounds,HT.aV,Option.getD_none,show(1:Int)>0 by decide,if_true]
   by_cases h:i<0
   ·simp only[h,if_true]<;>omega
   ·simp only[h,if_false]<;>omega
 ·cases hi with
  | none=>simp[sliceBounds,HT.aV]
  | some i=>
   simp only[sliceBounds,HT.aV,Option.getD_none,show(1:Int)>0 by decide,if_true]
   by_cases h:i<0
   ·simp only[h,if_true]<;>omega
   ·simp only[h,if_false]<;>omega
theorem uH (its:List Value) (lo hi:Option Int):slicePick its.toArray lo hi none=((its.drop (HT.aV its.length 0 lo)).take (HT.aV its.length its.length hi-HT.aV its.length 0 lo)).toArray:=by
 obtain⟨h1,h2,h3⟩:=vt lo hi its.toArray.size
 unfold slicePick
 rw[h1,h2,h3]
 simp only[sliceRange_one,pick_run,List.size_toArray]<;>rfl
def Ip (K:PySem.W.Frag):V→Option Int→Option Int→Hp→VK→Prop:=fun x lo hi H Q=>∃a xs,x=.ref a∧br K H a xs∧∀p,H p=none→Q (.ref p) (upd H p (.lst (gi xs lo hi)))
theorem GR:yg X (Ip X.K):=by
 intro pins s σ H x v vl vu lo hi sl Q I rx hs pl pu h
 obtain⟨a,xs,rfl,hx,q⟩:=h
 cases rx
 obtain⟨its,r,ht,hz⟩:=I.list hx
 have hlen:=r.length
 refine⟨"list",_,slot_list_getitem.lookup,ht.isList.typeIs,?_⟩
 refine wpAny_getItem_list_slice ht.isList hs pl pu .none (by simp) ?_ (by rw[List.size_toArray]<;>omega)
 rw[uH,←hlen]
 refine⟨.ref s.heap.objs.size,_,I.laid (t':=s.toks) (o:=.lst (gi xs lo hi)) (fun b ob q=>Heap.get?_push_of_some _ q) (Nat.le_refl _) ?_,rfl,q _ (I.hok.fresh (Nat.le_refl _))⟩
 exact⟨Nat.le_trans (px xs lo hi) hz,_,0,(r.drop (HT.aV xs.length 0 lo)).take (HT.aV xs.length xs.length hi-HT.aV xs.length 0 lo),Heap.get?_push_size _ rfl⟩
def fQ:V→Bool
 | .non=>true
 | .bl _=>true
 | .int _=>true
 | .str _=>true
 | _=>false
def jq:V→V→Bool
 | .non,.non=>true
 | .bl a,.bl b=>a == b
 | .bl a,.int b=>(if a then 1 else 0) == b
 | .int a,.bl b=>a == (if b then 1 else 0)
 | .int a,.int b=>a == b
 | .str a,.str b=>a == b
 | _,_=>false
theorem AZ {A:Around} {s:Shared} {y x:V} {u v:Value} (ry:RelV y u) (rx:RelV x v) (fy:fQ y=true) (fx:fQ x=true):SeqAt.EqAt A s u v (jq y x):=by
 cases y with
 | non=>
  cases ry
  cases x with
  | non=>cases rx;exact SeqAt.EqAt.same _
  | bl b=>cases rx;exact SeqAt.EqAt.none_bool b
  | int b=>obtain⟨t,rfl⟩:=rx;exact SeqAt.EqAt.none_int b t
  | str b=>obtain⟨t,rfl⟩:=rx;exact SeqAt.EqAt.none_str b t
  | _=>exact absurd (show false=true from fx) Bool.false_ne_true
 | bl a=>
  cases ry
  cases x with
  | non=>cases rx;exact SeqAt.EqAt.bool_none a
  | bl b=>cases rx;exact SeqAt.EqAt.bool_bool a b
  | int b=>obtain⟨t,rfl⟩:=rx;exact SeqAt.EqAt.bool_int a b t
  | str b=>obtain⟨t,rfl⟩:=rx;exact SeqAt.EqAt.bool_str a b t
  | _=>exact absurd (show false=true from fx) Bool.false_ne_true
 | int a=>
  obtain⟨t',rfl⟩:=ry
  cases x with
  | non=>cases rx;exact SeqAt.EqAt.int_none a t'
  | bl b=>cases rx;exact SeqAt.EqAt.int_bool a t' b
  | int b=>obtain⟨t,rfl⟩:=rx;exact SeqAt.EqAt.int_int a t' b t
  | str b=>obtain⟨t,rfl⟩:=rx;exact SeqAt.EqAt.int_str a t' b t
  | _=>exact absurd (show false=true from fx) Bool.false_ne_true
 | str a=>
  obtain⟨t',rfl⟩:=ry
  cases x with
  | non=>cases rx;exact SeqAt.EqAt.str_none a t'
  | bl b=>cases rx;exact SeqAt.EqAt.str_bool a t' b
  | int b=>obtain⟨t,rfl⟩:=rx;exact SeqAt.EqAt.str_int a t' b t
  | str b=>obtain⟨t,rfl⟩:=rx;exact SeqAt.EqAt.str_str a t' b t
  | _=>exact absurd (show false=true from fx) Bool.false_ne_true
 | _=>exact absurd (show false=true from fy) Bool.false_ne_true
def jS (x:V) (u:Value):Bool:=match u with
 | .none=>jq .non x
 | .bool b=>jq (.bl b) x
 | .int i _=>jq (.int i) x
 | .str z _=>jq (.str z) x
 | _=>false
theorem A_ {x y:V} {u:Value} (r:RelV y u) (f:fQ y=true):jS x u=jq y x:=by
 cases y with
 | non=>cases r;rfl
 | bl b=>cases r;rfl
 | int i=>obtain⟨t,rfl⟩:=r;rfl
 | str z=>obtain⟨t,rfl⟩:=r;rfl
 | _=>exact absurd (show false=true from f) Bool.false_ne_true
theorem lJ {x:V}:∀{xs:List V} {us:List Value},Vals xs us→xs.all fQ=true→us.any (jS x)=xs.any fun y=>jq y x
 | _,_,.nil,_=>rfl
 | y::xs,u::us,.cons r t,f=>by
  rw[List.all_cons,Bool.and_eq_true] at f
  rw[List.any_cons,List.any_cons,A_ r f.1,lJ t f.2]
theorem jT {A:Around} {s:Shared} {x:V} {v:Value} (rx:RelV x v) (fx:fQ x=true):∀{xs:List V} {us:List Value},Vals xs us→xs.all fQ=true→∀u∈us,SeqAt.EqAt A s u v (jS x u)
 | _,_,.nil,_=>fun u hu=>by cases hu
 | y::xs,u::us,.cons r t,f=>fun u' hu=>by
  rw[List.all_cons,Bool.and_eq_true] at f
  rcases List.mem_cons.mp hu with rfl | hu
  ·rw[A_ r f.1];exact AZ r rx f.1 fx
  ·exact jT rx fx t f.2 u' hu
def inV (x:V) (xs:List V):Bool:=xs.any fun y=>jq y x
def Fj (K:PySem.W.Frag) (neg:Bool):R2:=fun x y H Q=>∃p xs,y=.ref p∧(br K H p xs∨bH K H p xs)∧fQ x=true∧xs.all fQ=true∧Q (.bl (if neg then !inV x xs else inV x xs)) H
theorem A0:cG X (compareOp .In) (Fj X.K false):=by
 intro pins s σ H x y v u Q I rx ry h
 obtain⟨p,xs,rfl,hq,fx,fs,q⟩:=h
 cases ry
 rcases hq with hq | hq
 ·obtain⟨its,r,pl,hz⟩:=I.list hq
  refine SeqAt.in_listAt (jS x) pl.isList (fun w hw=>jT rx fx r fs w (by simpa using hw)) ⟨.bl _,H,I,rfl,?_⟩
  rw[show its.toArray.any (jS x)=its.any (jS x) by simp,lJ r fs]
  exact q
 ·obtain⟨its,r,pl,hz⟩:=I.tuple hq
  refine SeqAt.in_tupleAt (jS x) pl (fun w hw=>jT rx fx r fs w (by simpa using hw)) ⟨.bl _,H,I,rfl,?_⟩
  rw[show its.toArray.any (jS x)=its.any (jS x) by simp,lJ r fs]
  exact q
theorem vw:cG X (compareOp .NotIn) (Fj X.K true):=by
 intro pins s σ H x y v u Q I rx ry h
 obtain⟨p,xs,rfl,hq,fx,fs,q⟩:=h
 cases ry
 rcases hq with hq | hq
 ·obtain⟨its,r,pl,hz⟩:=I.list hq
  refine SeqAt.notIn_listAt (jS x) pl.isList (fun w hw=>jT rx fx r fs w (by simpa using hw)) ⟨.bl _,H,I,rfl,?_⟩
  rw[show its.toArray.any (jS x)=its.any (jS x) by simp,lJ r fs]
  exact q
 ·obtain⟨its,r,pl,hz⟩:=I.tuple hq
  refine SeqAt.notIn_tupleAt (jS x) pl (fun w hw=>jT rx fx r fs w (by simpa using hw)) ⟨.bl _,H,I,rfl,?_⟩
  rw[show its.toArray.any (jS x)=its.any (jS x) by simp,lJ r fs]
  exact q
theorem vy:dh X (.type "list") (fun xs H Q=>∃p ys,xs=[.ref p]∧(br X.K H p ys∨bH X.K H p ys)∧∀l,H l=none→Q (.ref l) (upd H l (.lst ys))):=by
 intro pins s σ H xs us Q I r h
 obtain⟨p,ys,rfl,hq,q⟩:=h
 obtain⟨u,rfl,rx⟩:=vals1 r
 cases rx
 have fin:∀(its:List Value),Vals ys its→ys.length≤sizeLine→∀(h':Heap) (c':Nat),(∀b o',s.heap.get? b=some o'→h'.get? b=some o')→
   h'.get? s.heap.objs.size=some {cls:=.type "list",dict:=none,data:=.seq its.toArray c',slots:= #[]}→EP X pins σ Q (.ref s.heap.objs.size) {s with heap:=h'}:=fun its r' hz h' c' kp e=>
  ⟨.ref s.heap.objs.size,_,I.laid (t':=s.toks) kp (Nat.le_refl _) (show bx X.prog X.w _ h' _ (.lst ys) from⟨hz,its,c',r',e⟩),rfl,q _ (I.hok.fresh (Nat.le_refl _))⟩
 rcases hq with hq | hq
 ·obtain⟨its,r',pl,hz⟩:=I.list hq
  have hlen:=r'.length
  obtain⟨o,ho,hc,n,hd⟩:=pl.isList
  exact call_list_seq p (.inl rfl) ho hc hd (fun h' c' kp e=>fin its r' hz h' c' kp e) (by simp only[List.size_toArray]<;>omega)
 ·obtain⟨its,r',pl,hz⟩:=I.tuple hq
  have hlen:=r'.length
  obtain⟨o,ho,hc,n,hd⟩:=pl
  exact call_list_seq p (.inr rfl) ho hc hd (fun h' c' kp e=>fin its r' hz h' c' kp e) (by simp only[List.size_toArray]<;>omega)
theorem uI:dh X (.type "tuple") (fun xs H Q=>∃p ys,xs=[.ref p]∧((br X.K H p ys∧∀l,H l=none→Q (.ref l) (upd H l (.tup ys)))∨(bH X.K H p ys∧Q (.ref p) H))):=by
 intro pins s σ H xs us Q I r h
 obtain⟨p,ys,rfl,h⟩:=h
 obtain⟨u,rfl,rx⟩:=vals1 r
 cases rx
 rcases h with⟨hq,q⟩ | ⟨hq,q⟩
 ·obtain⟨its,r',pl,hz⟩:=I.list hq
  have hlen:=r'.length
  refine call_tuple_list pl.isList (fun h' kp=>?_) (by simp only[List.size_toArray]<;>omega)
  have I1:Inv X pins σ H {s with heap:=h'}:=I.kept (t':=s.toks) kp
  have I2:Inv X pins σ (upd H h'.objs.size (.tup ys)) {s with heap:=h'.push {cls:=.type "tuple",data:=.seq its.toArray}}:=
   I1.laid (t':=s.toks) (fun b o e=>Heap.get?_push_of_some _ e) (Nat.le_refl _) (show bx X.prog X.w _ _ _ (.tup ys) from⟨⟨hz,_,Heap.get?_push_size _ rfl,rfl⟩,its,r',IsTup.new _ _⟩)
  exact⟨.ref h'.objs.size,_,I2,rfl,q _ (I1.hok.fresh (Nat.le_refl _))⟩
 ·obtain⟨its,r',pl,hz⟩:=I.tuple hq
  exact call_tuple_same pl ⟨.ref p,H,I,rfl,q⟩
def Iq (K:PySem.W.Frag) (T:String) (x:V) (H:Hp):Prop:=match x with
 | .str _=>T="str"
 | .int _=>T="int"
 | .ref p=>(T="list"∧∃xs,br K H p xs)∨(T="tuple"∧∃o,K.lookup p=some o∧o.cls=.type "tuple"∧o.dict=none)∨
   (T="dict"∧((∃kvs,H p=some (.dK kvs))∨∃kvs,H p=some (.dT kvs)))∨(T="set"∧∃S n,H p=some (.set S n))
 | _=>False
theorem A3 {pins:List (Addr×Obj)} {σ:St} {H:Hp} {s:Shared} {T:String} {x:V} {v:Value} (I:Inv X pins σ H s) (r:RelV x v) (ty:Iq X.K T x H):
  s.TypeIs v T∧∀a,v=.ref a→∃ob,s.heap.get? a=some ob∧ob.dict=none:=by
 cases x with
 | str z=>
  obtain⟨t,rfl⟩:=r
  cases(show T="str" from ty)
  exact⟨typeIs_str s z t,fun _ e=>nomatch e⟩
 | int i=>
  obtain⟨t,rfl⟩:=r
  cases(show T="int" from ty)
  exact⟨typeIs_int s i t,fun _ e=>nomatch e⟩
 | ref p=>
  cases r
  rcases ty with⟨rfl,xs,hq⟩ | ⟨rfl,o,hk,hc,hd⟩ | ⟨rfl,hk⟩ | ⟨rfl,S,n,hk⟩
  ·obtain⟨its,_,pl,_⟩:=I.list hq
   refine⟨pl.isList.typeIs,fun a e=>?_⟩
   cases e
   obtain⟨o,n,e,c,hd,_⟩:=pl
   exact⟨o,e,hd⟩
  ·refine⟨⟨o,I.g0 p o hk,hc⟩,fun a e=>?_⟩
   cases e
   exact⟨o,I.g0 _ o hk,hd⟩
  ·have z:∃o,s.heap.get? p=some o∧o.ExactDict:=by
    rcases hk with⟨kvs,hk⟩ | ⟨kvs,hk⟩
    ·obtain⟨_,_,_,_,o,_,_,e,ex,_⟩:=I.hok p _ hk
     exact⟨o,e,ex⟩
    ·obtain⟨_,_,_,_,o,_,_,e,ex,_⟩:=I.hok p _ hk
     exact⟨o,e,ex⟩
   obtain⟨o,e,ex⟩:=z
   refine⟨⟨o,e,ex.1⟩,fun a e2=>?_⟩
   cases e2
   exact⟨o,e,ex.2.1⟩
  ·obtain⟨o,_,_,_,e,ex,_⟩:=I.hok p _ hk
   refine⟨⟨o,e,ex.1⟩,fun a e2=>?_⟩
   cases e2
   exact⟨o,e,ex.2.1⟩
 | _=>exact False.elim ty
def Po (K:PySem.W.Frag) (T:String) (r:V→List V→Hp→VK→Prop) (to:TE):TE:=fun σ H Q=>to σ H fun x H1=>Iq K T x H1∧r x [] H1 Q
def So (K:PySem.W.Frag) (T:String) (r:V→List V→Hp→VK→Prop) (to:TE) (t:TA):TE:=fun σ H Q=>to σ H fun x H1=>Iq K T x H1∧t σ H1 fun xs H2=>r x xs H2 Q
variable {o e:Expr} {es:List Expr} {to:TE} {t:TA} {name:Str} {apos cpos:Pos} {T id:String} {r:V→List V→Hp→VK→Prop}
theorem A4 (pa:PlainAttrs T) (slot:Slot T name id) (hty:typeOf (.builtin id)=pure (.type "method_descriptor")) (hm:Nu X id r) (ho:PE X o to)
  (hbase:attributeBase o name X.env (eval o X.env)=eval o X.env:=by rfl) (hline:(apos.endLine == cpos.line)=true:=by rfl):PE X (.Call (.Attribute o name apos) [] [] cpos) (Po X.K T r to):=by
 intro pins s σ H Q I h
 refine wpAny_Call_method0_late hbase hline (aK (ho pins s σ H _ I h) fun v s1 ⟨x,H1,I1,r1,ty,q1⟩=>?_)
 obtain⟨h1,h2⟩:=A3 I1 r1 ty
 exact⟨T,id,pa,slot,hty,h1,h2,Calls.callWith_builtin rfl (PySem.evalArgs_none (hm pins s1 σ H1 x [] v [] Q I1 r1 .nil q1))⟩
theorem cf (pa:PlainAttrs T) (slot:Slot T name id) (hty:typeOf (.builtin id)=pure (.type "method_descriptor")) (hm:Nu X id r) (ho:PE X o to) (ha:PA X (e::es) t)
  (hbase:attributeBase o name X.env (eval o X.env)=eval o X.env:=by rfl)
  (hfew:((backTo cpos (starEach (e::es) X.env)).all (fun x=> !x.1)&&(backToKw cpos (keywordEach [] X.env)).all (fun x=>x.1.isSome)
   &&decide ((e::es).length+([]:List Keyword).length+(if([]:List Keyword).isEmpty then 0 else 1)<30))=true:=by rfl)
  (hline:(apos.endLine == cpos.line)=true:=by rfl) (hs:starEach (e::es) X.env=(false,eval e X.env)::starEach es X.env:=by rfl) (hplain:(backTo cpos (starEach es X.env)).any (·.1)=false:=by rfl):
  PE X (.Call (.Attribute o name apos) (e::es) [] cpos) (So X.K T r to t):=by
 intro pins s σ H Q I h
 refine wpAny_Call_method_late hbase hfew hline rfl (aK (ho pins s σ H _ I h) fun v s1 ⟨x,H1,I1,r1,ty,q1⟩=>?_)
 obtain⟨h1,h2⟩:=A3 I1 r1 ty
 refine⟨T,id,pa,slot,hty,h1,h2,?_⟩
 have hA:=ha cpos pins s1 σ H1 _ I1 q1
 rw[hs] at hA ⊢
 refine Calls.callWith_builtin (by show(false||(backTo cpos (starEach es X.env)).any (·.1))=false;rw[hplain]<;>rfl) (Calls.evalArgs_plain ?_)
 exact aK hA fun us s2 ⟨vs,H2,I2,r2,q2⟩=>hm pins s2 σ H2 x vs v us Q I2 r1 r2 q2
end
def vz (X:Cx) (id:String) (r:V→List V→Hp→VK→Prop):Prop:=
 ∀(pins:List (Addr×Obj)) (s:Shared) (σ:St) (H:Hp) (x:V) (xs:List V) (v:Value) (us:List Value) (Q:VK),Inv X pins σ H s→RelV x v→Vals xs us→r x xs H Q→
  wpAny (model X.prog X.w) X.A (call (.builtin id) (v::us)) (EP X pins σ Q) X.xe s
theorem Vals.one:∀{x:V} {us:List Value},Vals [x] us→∃u,us=[u]∧RelV x u
 | _,_,.cons r .nil=>⟨_,rfl,r⟩
theorem Vals.zero:∀{us:List Value},Vals [] us→us=[]
 | _,.nil=>rfl
theorem Vals.dropLast {xs:List V} {us:List Value} (h:Vals xs us):Vals xs.dropLast us.dropLast:=by
 induction h with
 | nil=>exact .nil
 | cons r t ih=>
  cases t with
  | nil=>exact .nil
  | cons q t'=>exact .cons r ih
theorem Vals.rep {xs:List V} {us:List Value} (h:Vals xs us):∀k:Nat,Vals (List.replicate k xs).flatten (List.replicate k us).flatten
 | 0=>.nil
 | k+1=>by
  rw[List.replicate_succ,List.replicate_succ,List.flatten_cons,List.flatten_cons]
  exact Vals.append h (Vals.rep h k)
theorem zr {α:Type} (l:List α):l.eraseIdx (l.length-1)=l.dropLast:=by
 induction l with
 | nil=>rfl
 | cons a r ih=>
  cases r with
  | nil=>rfl
  | cons b r=>
   have e:(a::b::r).length-1=((b::r).length-1)+1:=by
    have h1:(a::b::r).length=r.length+2:=rfl
    have h2:(b::r).length=r.length+1:=rfl
    omega
   rw[e,List.eraseIdx_cons_succ,ih]
   all_goals rfl
theorem foldl_rep (its:List Value):∀(k:Nat) (acc:List Value),
  List.foldl (fun x1 x2=>x1++x2) acc.toArray (List.replicate k its.toArray)=(acc++(List.replicate k its).flatten).toArray
 | 0,acc=>by simp
 | k+1,acc=>by
  have e:acc.toArray++its.toArray=(acc++its).toArray:=by simp
  have e2:(acc++its)++(List.replicate k its).flatten=acc++(List.replicate (k+1) its).flatten:=by
   rw[List.replicate_succ,List.flatten_cons,List.append_assoc]
  rw[←e2,←foldl_rep its k (acc++its),←e,List.replicate_succ,List.foldl_cons]
section
variable {X:Cx} {pins:List (Addr×Obj)} {σ:St} {H:Hp} {s:Shared} {l b:Addr} {xs ys zs:List V}
theorem Inv.DD {its its':List Value} {n:Nat} {f:Array Value→Array Value} {t':Nat} (I:Inv X pins σ H s) (hH:H l=some (.lst xs))
  (e:s.heap.get? l=some {cls:=.type "list",data:=.seq its.toArray n}) (hf:f its.toArray=its'.toArray) (hv:Vals ys its') (hz:ys.length≤sizeLine):
  Inv X pins σ (upd H l (.lst ys)) {s with heap:=s.heap.update l (Obj.mapSeq f),toks:=t'}:=by
 have q:=PySem.IsL.update e f
 rw[hf] at q
 refine I.write (x:=l) (e:=l) (by rw[hH];exact trivial) (.inl rfl) (fun b' u hb hu=>(Heap.get?_update_other s.heap (Obj.mapSeq f) (Ne.symm hb)).trans hu) ⟨_,q⟩ ?_
 exact⟨hz,its',_,hv,q⟩
theorem Inv.Ir {its:List Value} {t':Nat} (I:Inv X pins σ H s) (hv:Vals ys its) (hz:ys.length≤sizeLine):
  Inv X pins σ (upd H s.heap.objs.size (.lst ys)) {s with heap:=s.heap.push {cls:=.type "list",data:=.seq its.toArray},toks:=t'}:=
 I.laid (fun _ _ q=>Heap.get?_push_of_some _ q) (Nat.le_refl _) ⟨hz,its,0,hv,Heap.get?_push_size _ rfl⟩
theorem Inv.fresh (I:Inv X pins σ H s):H s.heap.objs.size=none:=I.hok.fresh (Nat.le_refl _)
theorem Inv.vA (I:Inv X pins σ H s) (hH:H l=some (.lst xs)):xs.length≤sizeLine∧∃(its:List Value) (n:Nat),Vals xs its∧xs.length=its.length∧s.heap.get? l=some {cls:=.type "list",data:=.seq its.toArray n}:=by
 obtain⟨z,its,n,r,e⟩:=I.hok l _ hH
 exact⟨z,its,n,r,r.length,e⟩
theorem vB {n:Nat} (h:n≤sizeLine):Builtin.List.listTooLong n=false:=by
 unfold Builtin.List.listTooLong
 exact decide_eq_false (by omega)
end
section
variable {X:Cx}
def GS:V→List V→Hp→VK→Prop:=fun x vs H Q=>∃l xs y,x=.ref l∧vs=[y]∧H l=some (.lst xs)∧xs.length<sizeLine∧Q .non (upd H l (.lst (xs++[y])))
theorem aZ:vz X "list.append" GS:=by
 intro pins s σ H x vs v us Q I rx rv h
 obtain⟨l,xs,y,rfl,rfl,hH,hz,q⟩:=h
 cases rx
 obtain⟨u,rfl,ru⟩:=rv.one
 obtain⟨z,its,n,r,hl,e⟩:=I.vA hH
 refine call_meets F.slot_list_append ⟨_,e,rfl⟩ F.entry_list_append (F.args_list_append_2 _ _) (PySem.list_append l its.toArray n u (by rw[List.size_toArray];omega)) ⟨e,?_⟩
 refine⟨.non,_,I.DD (its':=its++[u]) hH e (by simp) (r.append (.cons ru .nil)) ?_,rfl,q⟩
 rw[List.length_append,List.length_singleton]
 omega
def GU:V→List V→Hp→VK→Prop:=fun x vs H Q=>∃l b xs zs,x=.ref l∧vs=[.ref b]∧H l=some (.lst xs)∧H b=some (.lst zs)∧xs.length+zs.length≤sizeLine∧Q .non (upd H l (.lst (xs++zs)))
theorem kj:vz X "list.extend" GU:=by
 intro pins s σ H x vs v us Q I rx rv h
 obtain⟨l,b,xs,zs,rfl,rfl,hH,hB,hz,q⟩:=h
 cases rx
 obtain⟨u,rfl,ru⟩:=rv.one
 cases ru
 obtain⟨z,its,n,r,hl,e⟩:=I.vA hH
 obtain⟨z2,its2,n2,r2,hl2,e2⟩:=I.vA hB
 have hsz:its.toArray.size+its2.toArray.size≤sizeLine:=by rw[List.size_toArray,List.size_toArray];omega
 have zt:¬(!its.toArray.isEmpty&&Builtin.List.listTooLong (its.toArray.size+its2.toArray.size))=true:=by
  rw[vB hsz,Bool.and_false]
  exact Bool.false_ne_true
 refine call_meets F.slot_list_extend ⟨_,e,rfl⟩ F.entry_list_extend (F.args_list_extend_2 _ _)
  (AutoSeq1.list_extend_list_list_0 l its.toArray n b its2.toArray n2 zt (by rw[List.size_toArray];omega) (by omega)) ⟨e,e2,?_⟩
 refine⟨.non,_,I.DD (its':=its++its2) hH e (by simp) (r.append r2) ?_,rfl,q⟩
 rw[List.length_append]
 omega
def Pp:V→List V→Hp→VK→Prop:=fun x vs H Q=>∃l xs y,x=.ref l∧vs=[]∧H l=some (.lst xs)∧xs[xs.length-1]? =some y∧Q y (upd H l (.lst xs.dropLast))
theorem A5:vz X "list.pop" Pp:=by
 intro pins s σ H x vs v us Q I rx rv h
 obtain⟨l,xs,y,rfl,rfl,hH,hy,q⟩:=h
 cases rx
 have hus:=rv.zero
 subst hus
 obtain⟨z,its,n,r,hl,e⟩:=I.vA hH
 obtain⟨u,hu,ru⟩:=r.get hy
 have hy':its.toArray[its.toArray.size-1]? =some u:=by
  show its.toArray[its.length-1]? =some u
  rw[←Array.getElem?_toList,←hl]
  exact hu
 refine call_meets F.slot_list_pop ⟨_,e,rfl⟩ F.entry_list_pop (F.args_list_pop_1 _) (MeetsSeq.list_pop_last l its.toArray n u hy' (by rw[List.size_toArray];omega)) ⟨e,?_⟩
 refine⟨y,_,I.DD (its':=its.dropLast) hH e ?_ r.dropLast ?_,ru,q⟩
 ·show its.toArray.eraseIdxIfInBounds (its.toArray.size-1)=its.dropLast.toArray
  rw[List.size_toArray,List.eraseIdxIfInBounds_toArray,zr]
 ·rw[List.length_dropLast]
  omega
def Pq:R2:=fun x y H Q=>∃l k xs,x=.ref l∧y=.int k∧H l=some (.lst xs)∧ -(2 ^ 63)≤k∧k<2 ^ 63∧xs.length*k.toNat≤sizeLine∧
 ∀p,H p=none→Q (.ref p) (upd H p (.lst (List.replicate k.toNat xs).flatten))
theorem len_rep {α:Type} (xs:List α) (k:Nat):(List.replicate k xs).flatten.length=k*xs.length:=by
 induction k with
 | zero=>simp
 | succ k ih=>rw[List.replicate_succ,List.flatten_cons,List.length_append,ih,Nat.succ_mul,Nat.add_comm]
theorem Iu:cG X (binaryOp .Mult) Pq:=by
 intro pins s σ H x y v u Q I rx ry h
 obtain⟨l,k,xs,rfl,rfl,hH,h1,h2,hz,q⟩:=h
 cases rx
 obtain⟨t,rfl⟩:=ry
 obtain⟨z,its,n,r,hl,e⟩:=I.vA hH
 have hlen:its.toArray.size*k.toNat≤sizeLine:=by rw[List.size_toArray,←hl];exact hz
 have hcap:¬its.toArray.size*k.toNat>(2 ^ 63-1) / 8:=by
  have:(sizeLine:Nat)≤(2 ^ 63-1) / 8:=by decide
  omega
 have hfit:¬(!Builtin.List.listFitsIndex k)=true:=by
  rw[fitsIndex_both h1 h2]
  exact Bool.false_ne_true
 have zt:¬Builtin.List.listTooLong (its.toArray.size*k.toNat)=true:=by
  rw[vB hlen]
  exact Bool.false_ne_true
 have hnew:List.foldl (fun x1 x2=>x1++x2) #[] (List.replicate (if its.toArray.isEmpty=true then 0 else k.toNat) its.toArray)=(List.replicate k.toNat its).flatten.toArray:=by
  have f0:∀m:Nat,List.foldl (fun x1 x2=>x1++x2) #[] (List.replicate m its.toArray)=(List.replicate m its).flatten.toArray:=fun m=>by
   have:=foldl_rep its m []
   rw[List.nil_append] at this
   exact this
  rw[f0]
  cases its with
  | nil=>simp
  | cons a r'=>rw[if_neg (by simp)]
 refine wpAny_binaryOp_repeat_ref (T:="list") (U:="int") (by decide) ⟨_,e,rfl⟩ (fun s'=>typeIs_int s' k t) noFill_list_mul F.fills_int_mul F.slot_int_rmul repeat_list F.slot_int_index.lookup
  (call_meets F.slot_int_rmul (typeIs_int s k t) F.entry_int_rmul (F.args_int_rmul_2 _ _) (int___rmul___int_list k t l its.toArray n)
   ⟨e,rfl,⟨_,e,rfl⟩,call_meets F.slot_list_mul ⟨_,e,rfl⟩ F.entry_list_mul (F.args_list_mul_2 _ _) (AutoListH.list___mul___list_int_3 l its.toArray n k t hfit hcap zt) ⟨e,?_⟩⟩)
 rw[hnew]
 exact⟨.ref _,_,I.Ir (t':=s.toks) (r.rep k.toNat) (by rw[len_rep,Nat.mul_comm];exact hz),rfl,q _ I.fresh⟩
end
end L2
namespace Nv
open PySem PySem.W PySem.Calls PyProof.Rows
theorem qo {P:Params} {h:Heap}:∀(ns:List Int) (vs:List Value),WellAll P h vs (ns.map WData.int)→IntsAre vs ns:=by
 intro ns
 induction ns with
 | nil=>
  intro vs w
  rw[List.map_nil] at w
  cases w
  exact .nil
 | cons n ns ih=>
  intro vs w
  rw[List.map_cons] at w
  cases w with
  | cons a b=>
   cases a
   exact .cons _ _ (ih _ b)
theorem A6 {l:OpenLaw} {n:Nat} (hn:l.most=some n) {P:Params} {h:Heap} {args:List WData} {vals:List Value}
  (hpre:l.row.toRowW.claim.pre args=true) (hwl:WellAll P h vals args):
  ∃a vs ns,vals=[Value.ref a]∧args=[WData.list (ns.map WData.int)]∧h.get? a=some {cls:=.type "list",data:=.seq vs.toArray}∧IntsAre vs ns∧ns.length≤n:=by
 have hsh:WShape.hasAll [] args [.list .int]=true:=(pre_splitW hpre).1
 have hc:l.pre.holds [] {args:=args}=true:=(pre_splitW hpre).2
 obtain⟨d,r,rfl,h1,h2⟩:=hasAllW_cons hsh
 obtain rfl:=hasAllW_nil h2
 obtain⟨xs,rfl,h3⟩:=hasW_list h1
 obtain⟨ns,rfl⟩:=items_int h3
 have hlen:ns.length≤n:=by
  unfold OpenLaw.pre at hc
  have h4:(WTm.not (.lt (.lit (.int (n:Int))) (.len (.arg 0)))).holds [] {args:=[.list (ns.map .int)]}=true:=by
   have h4:=(holds_andW hc).1
   rw[hn] at h4
   exact h4
  have h5:=condW_of h4 (w_not (w_lt w_lit (w_len_list (w_arg rfl))))
  rw[List.length_map] at h5
  refine Nat.le_of_not_lt fun q=>?_
  have q':(n:Int)<((ns.length:Nat):Int):=by omega
  first
   | (rw[decide_eq_true q'] at h5;exact absurd h5 (by decide))
   | (simp at h5;omega)
 cases hwl with
 | cons w1 w2=>
  cases w2
  cases w1 with
  | list ho hall=>exact⟨_,_,ns,rfl,rfl,ho,qo ns _ hall,hlen⟩
theorem A7 (l:OpenLaw) (args:List WData):l.row.toRowW.claim.post args (.bool true) args=true:=
 postW_of (r:=l.row.toRowW) (X:=(true == true))
  (show WShape.has [] (.bool true) .bool=true by first | rfl | decide | simp[WShape.has,WShape.arms,WShape.armsAll])
  (show(WTm.eq .res (.lit (.bool true))).value [] {args:=args,res:=some (.bool true),after:=args}=some (.bool (true == true)) from w_eq_bool (w_res rfl) w_lit) rfl
theorem xy {l:OpenLaw} {n:Nat} {q:Program} {loose:List Str} {XP:(Str→Option Value)→Heap→Prop} {YP:World→Heap→Prop} {d:DefRec}
  (hn:l.most=some n) (hdf:d.params.defaults=[])
  (call:∀(w:World) (s₀ s₁:Shared) (mg mb:Str→Option Value) (fa:Addr) (o:Obj) (pm cd doc:Value) (a:Addr) (vs:List Value) (ns:List Int),
   Ground q loose [] XP w s₀ mg mb s₁.heap→YP w s₁.heap→
   s₁.heap.get? fa=some o→o.data=.func (docDef d.name d.params d.body d.scope pm cd doc)→s₁.heap.CodeRec cd d.name→mg d.name=some (.ref fa)→
   s₁.heap.get? a=some {cls:=.type "list",data:=.seq vs.toArray}→IntsAre vs ns→ns.length≤n→s₁.gens= #[]→
   codeAny (model l.prog w) callerA (.call (.ref fa) ⟨[.ref a],[]⟩) (fun r s'=>r=.ok (.ret (.bool true))∧OldK s₁.heap s'.heap∧s'.os=s₁.os∧AllBare s'.gens) s₁):
  WalkO q loose XP YP l.row.toRowW d [] (fun f vs=>PySem.call f vs):=by
 intro w s₀ s₁ mg mb G Y fa o pm cd doc dV kV ho hd hcd hD hmg hg args vals as hpre hlay hrd hwl hlo
 obtain rfl:dV=.none:=Dflts.none hD hdf
 obtain rfl:kV=.none:=Dflts.noKw hD
 obtain⟨a,vs,ns,rfl,rfl,hobj,hints,hlen⟩:=A6 hn hpre hwl
 refine enter_call (codeAny_mono (call w s₀ s₁ mg mb fa o pm cd doc a vs ns G Y ho (fd_plain hd) hcd hmg hobj hints hlen hg) fun r s' hq=>?_)
 obtain⟨rfl,h2,h3,h4⟩:=hq
 exact⟨.inl ⟨.bool true,.bool true,[],rfl,fun _=>rfl,.bool true,A7 l _,fun _=>⟨List.Pairwise.nil,fun _ hm=>(nomatch hm)⟩⟩,h2,h3,h4⟩
end Nv
namespace L2
open PySem PySem.Spec PyProof.Rows
theorem km:∀{vs:List Value} {ns:List Int},IntsAre vs ns→Vals (ns.map V.int) vs
 | _,_,.nil=>.nil
 | _,_,.cons n t h=>.cons ⟨t,rfl⟩ (km h)
def aL (s:Stmt):Arguments:=match s with
 | .FunctionDef _ a _ _ _ _ _ _ _ _=>a
 | _=>{posonlyargs:=[],args:=[],vararg:=none,kwonlyargs:=[],kw_defaults:=[],kwarg:=none,defaults:=[]}
def aH (s:Stmt):List Stmt:=match s with
 | .FunctionDef _ _ b _ _ _ _ _ _ _=>b
 | _=>[]
def aj (s:Stmt):Scope:=match s with
 | .FunctionDef _ _ _ _ _ _ sc _ _ _=>sc
 | _=>{kind:=.function,names:=[],isGenerator:=false,isCoroutine:=false}
abbrev bT:pw:=fun _ _ _ _ _ _=>False
abbrev E0:XK:=fun _ _ _=>False
theorem aN {X:Cx}:Passes bT X E0:=fun _ _ _ _ _ _ _ h=>h.elim
structure d8 (K:PySem.W.Frag) (x qual:Str) (st:Stmt) (f:Addr) (fd:FuncData):Prop where
 ex:∃(oc:Value) (od:Option Addr) (kV doc pm:Value) (an:Option Addr) (cdv ct:Value) (osl:Array (Option Value)),
  fd=PySem.W.fnOf x qual (aL st) (aH st) (aj st) .none kV doc pm an cdv ct∧K.lookup f=some ⟨oc,od,.func fd,osl⟩∧PySem.W.codeIn K cdv qual=true
 kp:PySem.W.keepIn K (.ref f)=true
section
variable {P:Program} {w:World} {K:PySem.W.Frag} {mg:Str→Option Value} {base:Heap}
theorem d8.ok {x qual:Str} {st:Stmt} {f:Addr} {fd:FuncData} {N ps:List Str} {k:Nat} {sp:Sp} (F:d8 K x qual st f fd) (S:aS N ps (aj st)) (len:∀vs H Q E,sp vs H Q E→vs.length=ps.length)
  (hbody:∀(cdv:Value) (A:Around) (outer:List Env) (s:Shared) (H:Hp) (vs:List V) (Q:VK) (E:XK),aP k (A.deeper (envOfC qual (aj st) s.heap.objs.size f cdv))→sp vs H Q E→
   ∃t,jo (jQ bT P w K mg base N qual (aj st) f cdv A outer s H E).pj (aH st) t∧t {nx:=fun _ H'=>Q .non H',rt:=Q} (start N vs) H):bf P w K mg base bT (k+1) f fd ps sp:=by
 obtain⟨oc,od,kV,doc,pm,an,cdv,ct,osl,rfl,lk,hcd⟩:=F.ex
 refine Fi lk hcd S len fun A outer s H vs Q E hr hsp=>?_
 obtain⟨t,h,q⟩:=hbody cdv A outer s H vs Q E hr hsp
 exact⟨t,h.pj,q⟩
theorem d8.binds {x qual:Str} {st:Stmt} {f:Addr} {fd:FuncData} {ps:List Str} (F:d8 K x qual st f fd)
  (h:∀(kV doc pm:Value) (an:Option Addr) (cdv ct:Value) (us:List Value),us.length=ps.length→bindArgs (PySem.W.fnOf x qual (aL st) (aH st) (aj st) .none kV doc pm an cdv ct) ⟨us,[]⟩=pure (ps.zip us)):Binds K fd ps []:=by
 obtain⟨oc,od,kV,doc,pm,an,cdv,ct,osl,rfl,lk,hcd⟩:=F.ex
 exact .all (h kV doc pm an cdv ct)
theorem ck {x qual:Str} {st:Stmt} {f:Addr} {oc:Value} {od an:Option Addr} {osl:Array (Option Value)} {kV doc pm cdv ct:Value} (l:K.lookup f=some ⟨oc,od,.func (PySem.W.fnOf x qual (aL st) (aH st) (aj st) .none kV doc pm an cdv ct),osl⟩)
  (c:PySem.W.codeIn K cdv qual=true) (k:PySem.W.keepIn K (.ref f)=true):d8 K x qual st f (PySem.W.fnOf x qual (aL st) (aH st) (aj st) .none kV doc pm an cdv ct):=⟨⟨oc,od,kV,doc,pm,an,cdv,ct,osl,rfl,l,c⟩,k⟩
end
theorem cY {A:Around} {k:Nat} (hr:aP k A):A.units+1<cLine:=Nat.lt_of_le_of_lt (Nat.add_le_add_left (by decide:1≤64) _) hr.units
section
variable {X:Cx}
theorem pv (i:Nat) {x:Str} {pos:Pos} (hN:X.N[i]? =some x:=by rfl) (hv:xZ X.env.scope x:=by first | exact Or.inl rfl | exact Or.inr (Or.inl rfl) | exact Or.inr (Or.inr rfl)) (hd:(x == ("__debug__":Str))=false:=by decide)
  (hcd:(x == ("__classdict__":Str))=false:=by decide):PE X (.Name x pos) (Dq i):=HW hN hv hd hcd
end
theorem cm {A B:Prop} (h:B):if false=true then A else B:=by
 rw[if_neg Bool.false_ne_true]
 exact h
theorem fA {A B:Prop} (h:A):if true=true then A else B:=by
 rw[if_pos rfl]
 exact h
theorem dk {c A B:Prop} [Decidable c] (h1:c→A) (h2:¬c→B):if c then A else B:=by
 by_cases h:c
 ·rw[if_pos h]
  exact h1 h
 ·rw[if_neg h]
  exact h2 h
def Same (H H':Hp):Prop:=∀b o,H b=some o→H' b=some o
theorem Same.refl (H:Hp):Same H H:=fun _ _ h=>h
theorem Same.trans {H H1 H2:Hp} (a:Same H H1) (b:Same H1 H2):Same H H2:=fun c o h=>b c o (a c o h)
theorem Same.free {H H':Hp} (e:Same H H') {l:Addr} (h:H' l=Option.none):H l=Option.none:=by
 cases q:H l with
 | none=>rfl
 | some o=>
  rw[e l o q] at h
  cases h
theorem Same.seq {K:PySem.W.Frag} {H H':Hp} {a:Addr} {xs:List V} (e:Same H H') (h:br K H a xs):br K H' a xs:=by
 rcases h with(h | ⟨o,h⟩) | h
 ·exact .inl (.inl (e _ _ h))
 ·exact .inl (.inr ⟨o,e _ _ h⟩)
 ·exact .inr h
section
variable {κ:Type} [DecidableEq κ]
def cD (kvs:List (κ×V)) (k:κ):Option V:=(kvs.find? fun kv=>decide (kv.1=k)).map (·.2)
def putK (kvs:List (κ×V)) (k:κ) (v:V):List (κ×V):=
 if(kvs.any fun kv=>decide (kv.1=k))=true then kvs.map (fun kv=>if kv.1=k then(kv.1,v) else kv) else kvs++[(k,v)]
theorem pI {k:κ}:cD ([]:List (κ×V)) k=none:=rfl
theorem dS {p:κ×V} {r:List (κ×V)} {k:κ} (e:p.1=k):cD (p::r) k=some p.2:=by simp[cD,List.find?_cons,e]
theorem cE {p:κ×V} {r:List (κ×V)} {k:κ} (e:¬p.1=k):cD (p::r) k=cD r k:=by simp[cD,List.find?_cons,e]
theorem pJ (k:κ):∀kvs:List (κ×V),(kvs.any fun kv=>decide (kv.1=k))=(cD kvs k).isSome
 | []=>rfl
 | p::r=>by
  rw[List.any_cons]
  by_cases e:p.1=k
  ·simp only[dS e,decide_eq_true e,Bool.true_or,Option.isSome_some]
  ·rw[cE e,decide_eq_false e,Bool.false_or];exact pJ k r
theorem kY (kvs:List (κ×V)) (k:κ) (v:V):(putK kvs k v).length≤kvs.length+1:=by
 unfold putK
 split
 ·rw[List.length_map];omega
 ·rw[List.length_append,List.length_cons,List.length_nil];omega
theorem mB {kvs:List (κ×V)} {k:κ} (v:V) (h:cD kvs k=none):putK kvs k v=kvs++[(k,v)]:=by
 unfold putK
 rw[pJ,h]
 exact if_neg (by decide)
theorem jL.nS {o:Option V} {u:Option Value} (r:jL o u):o.isSome=u.isSome:=by
 cases o with
 | none=>cases u with
  | none=>rfl
  | some _=>exact(show False from r).elim
 | some _=>cases u with
  | none=>exact(show False from r).elim
  | some _=>rfl
theorem KV.val {kvs:List (κ×V)} {vs:List (κ×Value)} (r:KV kvs vs) (k:κ):jL (cD kvs k) (valueAt vs k):=by
 unfold KV at r
 induction r with
 | nil=>exact True.intro
 | @cons p q ps qs h t ih=>
  obtain⟨h1,h2⟩:=h
  by_cases e:p.1=k
  ·have e':q.1=k:=h1.symm.trans e
   have b:valueAt (q::qs) k=some q.2:=by simp[valueAt,List.find?_cons,e']
   rw[dS e,b];exact h2
  ·have e':¬q.1=k:=fun z=>e (h1.trans z)
   have b:valueAt (q::qs) k=valueAt qs k:=by simp[valueAt,List.find?_cons,e']
   rw[cE e,b];exact ih
theorem KV.any {kvs:List (κ×V)} {vs:List (κ×Value)} (r:KV kvs vs) (k:κ):(kvs.any fun kv=>decide (kv.1=k))=vs.any fun kv=>decide (kv.1=k):=by
 unfold KV at r
 induction r with
 | nil=>rfl
 | cons h t ih=>rw[List.any_cons,List.any_cons,ih,h.1]
theorem KV.repl {kvs:List (κ×V)} {vs:List (κ×Value)} (r:KV kvs vs) (k:κ) {y:V} {u:Value} (ry:RelV y u):
  KV (kvs.map fun kv=>if kv.1=k then(kv.1,y) else kv) (vs.map fun kv=>if kv.1=k then(kv.1,u) else kv):=by
 unfold KV at r ⊢
 induction r with
 | nil=>exact .nil
 | @cons p q ps qs h t ih=>
  rw[List.map_cons,List.map_cons]
  refine .cons ?_ ih
  obtain⟨h1,h2⟩:=h
  by_cases e:p.1=k
  ·rw[if_pos e,if_pos (h1.symm.trans e)];exact⟨h1,ry⟩
  ·rw[if_neg e,if_neg (fun z=>e (h1.trans z))];exact⟨h1,h2⟩
theorem KV.put {kvs:List (κ×V)} {vs:List (κ×Value)} (r:KV kvs vs) (k:κ) {y:V} {u:Value} (ry:RelV y u):KV (putK kvs k y) (stored vs k u):=by
 unfold putK stored
 rw[r.any k]
 by_cases e:(vs.any fun kv=>decide (kv.1=k))=true
 ·rw[if_pos e,if_pos e];exact r.repl k ry
 ·rw[if_neg e,if_neg e];exact Paired.snoc r ⟨rfl,ry⟩
theorem KV.length {kvs:List (κ×V)} {vs:List (κ×Value)} (r:KV kvs vs):kvs.length=vs.length:=Paired.length r
end
theorem qp {P:Program} {w:World} {k:Key} {u:Value} (r:RelV (kV k) u):(bY P w).is k u=true:=by
 cases k with
 | inl i=>obtain⟨t,e⟩:=(show ∃t,u=Value.int i t from r);subst e;exact xv P w i t
 | inr x=>obtain⟨t,e⟩:=(show ∃t,u=Value.str x t from r);subst e;exact xx P w x t
theorem tP {P:Program} {w:World}:∀{ks:List Key} {us:List Value},Vals (ks.map kV) us→ItemsAre (bY P w) ks us
 | [],_,r=>by rw[List.map_nil] at r;cases r;exact .nil
 | k::ks,_,r=>by
  rw[List.map_cons] at r
  cases r with
  | cons h t=>exact .cons (qp h) (tP t)
abbrev KT (H:Hp):List (List Key×V)→List (List Key×Addr×Value)→Prop:=Paired fun p q=>p.1=q.1∧H q.2.1=some (.tup (p.1.map kV))∧RelV p.2 q.2.2
theorem KT.val {H:Hp} {kvs:List (List Key×V)} {xs:List (List Key×Addr×Value)} (r:KT H kvs xs) (k:List Key):jL (cD kvs k) ((atKey xs k).map (·.2)):=by
 induction r with
 | nil=>exact True.intro
 | @cons p q ps qs h t ih=>
  obtain⟨h1,_,h2⟩:=h
  by_cases e:p.1=k
  ·have e':q.1=k:=h1.symm.trans e
   have b:atKey (q::qs) k=some q.2:=by simp[atKey,List.find?_cons,e']
   rw[dS e,b];exact h2
  ·have e':¬q.1=k:=fun z=>e (h1.trans z)
   have b:atKey (q::qs) k=atKey qs k:=by simp[atKey,List.find?_cons,e']
   rw[cE e,b];exact ih
theorem KT.repl {H:Hp} {kvs:List (List Key×V)} {xs:List (List Key×Addr×Value)} (r:KT H kvs xs) (k:List Key) {y:V} {u:Value} (ry:RelV y u):
  KT H (kvs.map fun kv=>if kv.1=k then(kv.1,y) else kv) (xs.map (putAt k u)):=by
 induction r with
 | nil=>exact .nil
 | @cons p q ps qs h t ih=>
  rw[List.map_cons,List.map_cons]
  refine .cons ?_ ih
  obtain⟨h1,h2,h3⟩:=h
  unfold putAt
  by_cases e:p.1=k
  ·rw[if_pos e,if_pos (h1.symm.trans e)];exact⟨h1,h2,ry⟩
  ·rw[if_neg e,if_neg (fun z=>e (h1.trans z))];exact⟨h1,h2,h3⟩
theorem KT.put {H:Hp} {kvs:List (List Key×V)} {xs:List (List Key×Addr×Value)} (r:KT H kvs xs) (k:List Key) {b:Addr} {y:V} {u:Value} (hb:H b=some (.tup (k.map kV))) (ry:RelV y u):
  KT H (putK kvs k y) (storedH xs k b u):=by
 have e:(kvs.any fun kv=>decide (kv.1=k))=(atKey xs k).isSome:=by
  rw[pJ,(r.val k).nS,Option.isSome_map]
 unfold putK storedH
 rw[e]
 by_cases q:(atKey xs k).isSome=true
 ·rw[if_pos q,if_pos q];exact r.repl k ry
 ·rw[if_neg q,if_neg q];exact Paired.snoc r ⟨rfl,hb,ry⟩
theorem KT.keeps {H H':Hp} {kvs:List (List Key×V)} {xs:List (List Key×Addr×Value)} (r:KT H kvs xs) (ht:∀b ys,H b=some (.tup ys)→H' b=some (.tup ys)):KT H' kvs xs:=
 Paired.pG r fun _ _ z=>⟨z.1,ht _ _ z.2.1,z.2.2⟩
section
variable {P:Program} {w:World} {H:Hp} {h:Heap} {a:Addr}
theorem Fl {u:HO} (ok:dc P w H h) (e:Rd H a u):bx P w H h a u:=e.ok ok
theorem u6 {kvs:List (Key×V)} (ok:dc P w H h) (e:Rd H a (.dK kvs)):kvs.length≤sizeLine∧(a == sysModules)=false∧∃vs,KV kvs vs∧h.DictOf (bY P w) a vs:=
 show bx P w H h a (.dK kvs) from Fl ok e
theorem zu {kvs:List (Key×V)} (ok:dc P w H h) (e:H a=some (.dK kvs)):kvs.length≤sizeLine∧(a == sysModules)=false∧∃vs,KV kvs vs∧h.DictOf (bY P w) a vs:=u6 ok (.inl e)
theorem nT {ks:List Key} (ok:dc P w H h) (e:H a=some (.tup (ks.map kV))):(tupleKind (bY P w)).is h ks a:=by
 obtain⟨_,its,r,o,h1,h2,n,h3⟩:=(show bx P w H h a (.tup (ks.map kV)) from ok a _ e)
 exact⟨o,its.toArray,n,h1,h2,h3,by simpa using tP r⟩
theorem u9 {kvs:List (List Key×V)} (ok:dc P w H h) (e:Rd H a (.dT kvs)):kvs.length≤sizeLine∧(a == sysModules)=false∧
  ∃xs,KT H kvs xs∧h.DictOfH (tupleKind (bY P w)) a xs:=by
 obtain⟨z,y,xs,r,o,es,ep,h1,h2,h3,h4,h5⟩:=(show bx P w H h a (.dT kvs) from Fl ok e)
 refine⟨z,y,xs,r,o,es,ep,h1,h2,h3,h4,fun x hx=>?_,h5⟩
 have all:∀{l:List (List Key×V)} {m:List (List Key×Addr×Value)},KT H l m→∀x∈m,(tupleKind (bY P w)).is h x.1 x.2.1:=by
  intro l m q
  induction q with
  | nil=>intro x hx;exact nomatch hx
  | @cons p q ps qs hq t ih=>
   intro x hx
   rcases List.mem_cons.mp hx with e | hx
   ·subst e
    exact nT ok (by rw[←hq.1];exact hq.2.1)
   ·exact ih x hx
 exact all r x hx
theorem Fm {kvs:List (List Key×V)} (ok:dc P w H h) (e:H a=some (.dT kvs)):kvs.length≤sizeLine∧(a == sysModules)=false∧
  ∃xs,KT H kvs xs∧h.DictOfH (tupleKind (bY P w)) a xs:=u9 ok (.inl e)
end
def nV (H:Hp) (a:Addr) (y:V) (r:Option V):Prop:=
 (∃kvs k,Rd H a (.dK kvs)∧y=kV k∧r=cD kvs k)∨∃kvs k b,Rd H a (.dT kvs)∧y=.ref b∧H b=some (.tup (k.map kV))∧r=cD kvs k
def jc (H:Hp) (a:Addr) (y v:V) (H':Hp):Prop:=
 (∃kvs k,H a=some (.dK kvs)∧y=kV k∧kvs.length<sizeLine∧H'=upd H a (.dK (putK kvs k v)))∨
 ∃kvs k b,H a=some (.dT kvs)∧y=.ref b∧H b=some (.tup (k.map kV))∧kvs.length<sizeLine∧H'=upd H a (.dT (putK kvs k v))
theorem jc.k {H:Hp} {a:Addr} {kvs:List (Key×V)} {k:Key} {v:V} (e:H a=some (.dK kvs)) (hl:kvs.length<sizeLine):jc H a (kV k) v (upd H a (.dK (putK kvs k v))):=.inl ⟨kvs,k,e,rfl,hl,rfl⟩
theorem jc.t {H:Hp} {a b:Addr} {kvs:List (List Key×V)} {k:List Key} {v:V} (e:H a=some (.dT kvs)) (eb:H b=some (.tup (k.map kV))) (hl:kvs.length<sizeLine):
  jc H a (.ref b) v (upd H a (.dT (putK kvs k v))):=.inr ⟨kvs,k,b,e,rfl,eb,hl,rfl⟩
section
variable {X:Cx} {pins:List (Addr×Obj)} {σ:St} {H:Hp} {s:Shared} {a:Addr} {y v:V} {u r:Value} {o:Option V} {A:Around} {E:Value→Shared→Prop}
theorem Inv.big (I:Inv X pins σ H s):sysModules<s.heap.objs.size:=by
 have h:mainGlobals<s.heap.objs.size:=(I.mod.glob.keeps I.bk).lt
 exact Nat.lt_trans (by decide) h
theorem A8 {Q:Value→Shared→Prop} (hu:A.units+1<cLine) (I:Inv X pins σ H s) (g:nV H a y (some v)) (ry:RelV y u) (h:∀w' s',Inv X pins σ H s'→RelV v w'→Q w' s'):
  wpAny (model X.prog X.w) A (getItem (.ref a) u) Q E s:=by
 rcases g with⟨kvs,k,e,ey,l⟩ | ⟨kvs,k,b,e,ey,eb,l⟩
 ·subst ey
  obtain⟨z,hd,vs,rel,dd⟩:=u6 I.hok e
  obtain⟨w',hw,qm⟩:=jL.some_of (v:=v) (o:=valueAt vs k) (by rw[l];exact rel.val k)
  exact wpAny_getItem_of (qp ry) dd.mapOf hw (h w' _ (I.tok _) qm)
 ·subst ey
  cases(show u=Value.ref b from ry)
  obtain⟨z,hd,xs,rel,dd⟩:=u9 I.hok e
  obtain⟨w',hw,qm⟩:=jL.some_of (v:=v) (o:=(atKey xs k).map (·.2)) (by rw[l];exact rel.val k)
  obtain⟨p,hp,hp2⟩:=Option.map_eq_some_iff.mp hw
  refine wpAny_getItem_heap (tupleKind_room_in1 hu) (nT I.hok eb) dd hp ?_
  rw[hp2]
  exact h w' _ (I.tok _) qm
theorem GV {Q:Value→Shared→Prop} (hu:A.units+1<cLine) (I:Inv X pins σ H s) (g:nV H a y o) (ry:RelV y u) (h:∀s',Inv X pins σ H s'→Q (.bool (!o.isSome)) s'):
  wpAny (model X.prog X.w) A (compareOp .NotIn u (.ref a)) Q E s:=by
 rcases g with⟨kvs,k,e,ey,l⟩ | ⟨kvs,k,b,e,ey,eb,l⟩
 ·subst ey
  obtain⟨z,hd,vs,rel,dd⟩:=u6 I.hok e
  refine wpAny_notIn_of (qp ry) hd dd.mapOf ?_
  rw[←(rel.val k).nS,←l]
  exact h _ (I.tok _)
 ·subst ey
  cases(show u=Value.ref b from ry)
  obtain⟨z,hd,xs,rel,dd⟩:=u9 I.hok e
  refine wpAny_notIn_heap (tupleKind_room_in1 hu) (nT I.hok eb) hd dd ?_
  have q:=(rel.val k).nS
  rw[Option.isSome_map] at q
  rw[←q,←l]
  exact h _ (I.tok _)
theorem oS {h':Heap} {t':Nat} {ob:HO} (I:Inv X pins σ H s) (mu:AG (H a)) (hs:Heap.SameBut a s.heap h') (he:∃q,h'.get? a=some q) (new:bx X.prog X.w (upd H a ob) h' a ob):
  Inv X pins σ (upd H a ob) {s with heap:=h',toks:=t'}:=
 I.write (x:=a) (e:=a) mu (.inl rfl) (fun b q hb z=>(hs.2 b hb).trans z) he new
theorem A9 {P:Program} {w:World} {H':Hp} {h':Heap} {kvs:List (Key×V)} {vs:List (Key×Value)} (z:kvs.length≤sizeLine) (hd:(a == sysModules)=false) (rel:KV kvs vs) (dd:h'.DictOf (bY P w) a vs):
  bx P w H' h' a (.dK kvs):=⟨z,hd,vs,rel,dd⟩
theorem A' {H':Hp} {Q:Unit→Shared→Prop} (hu:A.units+1<cLine) (I:Inv X pins σ H s) (g:jc H a y v H') (ry:RelV y u) (rv:RelV v r) (h:∀s',Inv X pins σ H' s'→Q () s'):
  wpAny (model X.prog X.w) A (setItem (.ref a) u r) Q E s:=by
 rcases g with⟨kvs,k,e,ey,l,eH⟩ | ⟨kvs,k,b,e,ey,eb,l,eH⟩
 ·subst ey eH
  obtain⟨z,hd,vs,rel,dd⟩:=zu I.hok e
  have hz:vs.length≤sizeLine:=by rw[←rel.length];exact z
  have hl:(putK kvs k v).length≤sizeLine:=by have:=kY kvs k v;omega
  refine wpAny_setItem_pairs (hsz:=hz) (qp ry) dd fun h' qq hs=>h _ ?_
  have he:∃q,h'.get? a=some q:=let ⟨q,_,_,hq,_⟩:=qq;⟨q,hq⟩
  exact oS I (by rw[e];exact True.intro) hs he (A9 hl hd (rel.put k rv) qq)
 ·subst ey eH
  cases(show u=Value.ref b from ry)
  obtain⟨z,hd,xs,rel,dd⟩:=Fm I.hok e
  have hz:xs.length≤sizeLine:=by rw[←Paired.length rel];exact z
  have hl:(putK kvs k v).length≤sizeLine:=by have:=kY kvs k v;omega
  refine wpAny_setItem_heap (hsz:=hz) (tupleKind_room_in1 hu) (nT I.hok eb) dd fun h' qq hs=>h _ ?_
  obtain⟨q,es,ep,hq,h2,h3,h4,_,h5⟩:=qq
  refine oS I (by rw[e];exact True.intro) hs ⟨q,hq⟩ ⟨hl,hd,_,(rel.put k eb rv).keeps fun c ys ec=>?_,q,es,ep,hq,h2,h3,h4,h5⟩
  rw[ak (kg ec e (fun z=>nomatch z))]
  exact ec
end
def Iv (i:Expr):Prop:=∀ov iv,subscripted i false ov iv=operate [ov,iv] (getItem ov iv)
theorem GW {prog:Program} {w:World} {A:Around} {E:Value→Shared→Prop} {s:Shared} {env:Env} {value slice:Expr} {pos:Pos} {T id:String} {Q:Value→Shared→Prop}
  (hl:typeLookup (.type T) "__getitem__"=pure (some (.builtin id))) (hs:Iv slice)
  (h:wpAny (model prog w) A (eval value env) (fun o s₁=>wpAny (model prog w) A (eval slice env) (fun i s₂=>s₂.TypeIs o T∧wpAny (model prog w) A (getItem o i) Q E s₂) E s₁) E s):
  wpAny (model prog w) A (eval (.Subscript value slice pos) env) Q E s:=by
 refine Subscript_ (wpAny_mono h (fun o s₁ h₁=>wpAny_mono h₁ (fun i s₂ h₂=>?_) fun _ _ x=>x) fun _ _ x=>x)
 obtain⟨hT,h₂⟩:=h₂
 unfold subscriptTail
 refine wpAny_bind ?_
 rw[getitemInPython_of_ne hT.not_modules]
 refine wpAny_bind (wpAny_specialOf hT hl ?_)
 have fin:wpAny (model prog w) A (subscripted slice false o i) (fun r s₃=>wpAny (model prog w) A (letTemporaryGo value o r >>= fun _=>pure r) Q E s₃) E s₂:=by
  rw[hs o i]
  exact wpAny_operating (wpAny_mono h₂ (fun r s₃ h₃=>wpAny_bind (wpAny_letTemporaryGo (wpAny_pure h₃))) fun _ _ x=>x)
 first
  | exact wpAny_pure (wpAny_bind fin)
  | exact wpAny_bind (wpAny_pure (wpAny_bind fin))
  | exact wpAny_bind fin
theorem xA {X:Cx} {pins:List (Addr×Obj)} {σ:St} {H:Hp} {s:Shared} {a:Addr} {y:V} {o:Option V} (I:Inv X pins σ H s) (g:nV H a y o):s.TypeIs (.ref a) "dict":=by
 rcases g with⟨kvs,k,e,_,_⟩ | ⟨kvs,k,b,e,_,_,_⟩
 ·obtain⟨_,_,vs,_,dd⟩:=u6 I.hok e
  exact dd.typeIs
 ·obtain⟨_,_,xs,_,dd⟩:=u9 I.hok e
  exact dd.typeIs
def MH (td ty:TE):TE:=fun σ H Q=>td σ H fun x H1=>ty σ H1 fun y H2=>∃a v,x=.ref a∧nV H2 a y (some v)∧Q v H2
def GX (ty td:TE):TE:=fun σ H Q=>ty σ H fun y H1=>td σ H1 fun x H2=>∃a o,x=.ref a∧nV H2 a y o∧Q (.bl (!o.isSome)) H2
def MI (td ty tv:TE):TS:=fun D σ H=>tv σ H fun v H1=>td σ H1 fun x H2=>ty σ H2 fun y H3=>∃a H4,x=.ref a∧jc H3 a y v H4∧D.nx σ H4
section
variable {X:Cx} {o i e value:Expr} {pos pos' tpos:Pos} {td ty tv:TE}
theorem d9 (hu:X.A.units+1<cLine) (ho:PE X o td) (hi:PE X i ty) (hs:Iv i):PE X (.Subscript o i pos) (MH td ty):=by
 intro pins s σ H Q I h
 refine GW PySem.F.slot_dict_getitem.lookup hs (aK (ho pins s σ H _ I h) fun u s1 ⟨x,H1,I1,rx,q1⟩=>aK (hi pins s1 σ H1 _ I1 q1) fun iv s2 ⟨y,H2,I2,ry,a,v,ex,g,q2⟩=>?_)
 subst ex
 obtain rfl:u=Value.ref a:=rx
 exact⟨xA I2 g,A8 hu I2 g ry fun w' s3 I3 qm=>⟨v,H2,I3,qm,q2⟩⟩
theorem tQ (hu:X.A.units+1<cLine) (hi:PE X i ty) (ho:PE X o td):PC X .NotIn i o (GX ty td):=by
 intro pins s σ H Q I h
 refine aK (hi pins s σ H _ I h) fun iv s1 ⟨y,H1,I1,ry,q1⟩=>aK (ho pins s1 σ H1 _ I1 q1) fun u s2 ⟨x,H2,I2,rx,a,ov,ex,g,q2⟩=>?_
 subst ex
 obtain rfl:u=Value.ref a:=rx
 exact GV hu I2 g ry fun s3 I3=>⟨.bl (!ov.isSome),H2,I3,rfl,q2⟩
theorem jE (hu:X.A.units+1<cLine) (ho:PE X o td) (hi:PE X i ty) (hv:PE X value tv) (hs:swapsWith value (some (.Subscript o i pos')) pos.line X.env=pure false):
  PS X (.Assign [.Subscript o i pos'] value pos) (MI td ty tv):=by
 intro pins s σ H D I h
 refine wpAny_Assign_Subscript (aK (hv pins s σ H _ I h) fun r s1 ⟨v,H1,I1,rv,q1⟩=>aK (ho pins s1 σ H1 _ I1 q1) fun u s2 ⟨x,H2,I2,rx,q2⟩=>aK (hi pins s2 σ H2 _ I2 q2) fun iv s3 ⟨y,H3,I3,ry,a,H4,ex,g,q3⟩=>?_) hs
 subst ex
 obtain rfl:u=Value.ref a:=rx
 exact A' hu I3 g ry rv fun s4 I4=>⟨σ,H4,I4,q3⟩
end
theorem vC {P:Program} {w:World} {H:Hp} (h:Heap) (hb:sysModules<h.objs.size):bx P w H (h.push {cls:=.type "dict",data:=.dict #[]}) h.objs.size (.dK []):=
 ⟨Nat.zero_le _,beq_eq_false_iff_ne.mpr (Ne.symm (Nat.ne_of_lt hb)),[],.nil,Heap.DictOf.new h⟩
theorem DE {P:Program} {w:World} {H:Hp} (h:Heap) (hb:sysModules<h.objs.size):bx P w H (h.push {cls:=.type "dict",data:=.dict #[]}) h.objs.size (.dT []):=
 ⟨Nat.zero_le _,beq_eq_false_iff_ne.mpr (Ne.symm (Nat.ne_of_lt hb)),[],.nil,_, #[],0,Heap.get?_push_size _ rfl,⟨rfl,rfl,rfl⟩,rfl,rfl,List.nodup_nil⟩
def Iw:TE:=fun _ H Q=>∀p,H p=none→Q (.ref p) (upd H p (.dK []))
section
variable {X:Cx} {pos:Pos}
theorem DF:PE X (.Dict [] [] pos) Iw:=fun pins s σ H Q I h=>
 wpAny_Dict_empty ⟨.ref s.heap.objs.size,_,I.laid (a:=s.heap.objs.size) (o:=.dK []) (t':=s.toks) (fun _ _ q=>Heap.get?_push_of_some _ q) (Nat.le_refl _) (vC s.heap I.big),rfl,h _ (I.hok.fresh (Nat.le_refl _))⟩
end
def vD:List (TE×TE)→St→Hp→(List (V×V)→Hp→Prop)→Prop
 | [],_,H,Q=>Q [] H
 | (tk,tv)::r,σ,H,Q=>tk σ H fun x H1=>tv σ H1 fun y H2=>vD r σ H2 fun ps H3=>Q ((x,y)::ps) H3
abbrev VV:List (V×V)→List (Value×Value)→Prop:=Paired fun p q=>RelV p.1 q.1∧RelV p.2 q.2
def Ba (X:Cx) (pos:Pos) (keys:List (Option Expr)) (values:List Expr) (qr:List (TE×TE)):Prop:=
 ∀(pins:List (Addr×Obj)) (s:Shared) (σ:St) (H:Hp) (Q:List (V×V)→Hp→Prop),Inv X pins σ H s→vD qr σ H Q→
  wpAny (model X.prog X.w) X.A (evalPairs (pairTrees keys values X.env pos)) (fun vs s'=>∃ps H',Inv X pins σ H' s'∧VV ps vs∧Q ps H') X.xe s
theorem yk {X:Cx} {pos:Pos}:Ba X pos [] [] []:=fun pins s σ H Q I h=>pairTrees_nil_walk ⟨[],H,I,.nil,h⟩
theorem mC {X:Cx} {pos:Pos} {k v:Expr} {ks:List (Option Expr)} {vs:List Expr} {tk tv:TE} {qr:List (TE×TE)} (hk:PE X k tk) (hv:PE X v tv) (hr:Ba X pos ks vs qr):
  Ba X pos (some k::ks) (v::vs) ((tk,tv)::qr):=fun pins s σ H Q I h=>
 pairTrees_cons_walk (aK (hk pins s σ H _ I h) fun u s1 ⟨x,H1,I1,rx,q1⟩=>aK (hv pins s1 σ H1 _ I1 q1) fun w2 s2 ⟨y,H2,I2,ry,q2⟩=>
  aK (hr pins s2 σ H2 _ I2 q2) fun ws s3 ⟨ps,H3,I3,rel,q3⟩=>⟨(x,y)::ps,H3,I3,.cons ⟨rx,ry⟩ rel,q3⟩)
def jU (kvs more:List (Key×V)):List (Key×V):=more.foldl (fun acc kv=>putK acc kv.1 kv.2) kvs
theorem KV.merge:∀{more:List (Key×V)} {rs:List (Key×Value)} {kvs:List (Key×V)} {vs:List (Key×Value)},KV more rs→KV kvs vs→KV (jU kvs more) (merged vs rs):=by
 intro more rs kvs vs r
 unfold KV at r
 induction r generalizing kvs vs with
 | nil=>intro q;exact q
 | @cons p q ps qs h t ih=>
  intro r0
  have e:KV (putK kvs p.1 p.2) (stored vs q.1 q.2):=by
   have:=r0.put p.1 h.2
   rw[←h.1];exact this
  exact ih e
theorem nh:∀(more kvs:List (Key×V)),(jU kvs more).length≤kvs.length+more.length
 | [],kvs=>by show kvs.length≤kvs.length+0;omega
 | p::r,kvs=>by
  have h1:=nh r (putK kvs p.1 p.2)
  have h2:=kY kvs p.1 p.2
  show(jU (putK kvs p.1 p.2) r).length≤_
  rw[List.length_cons];omega
theorem qt {P:Program} {w:World}:∀{kvs:List (Key×V)} {ws:List (Value×Value)},VV (kvs.map fun kv=>(kV kv.1,kv.2)) ws→∃rs,Carries (bY P w) ws rs∧KV kvs rs
 | [],_,r=>by rw[List.map_nil] at r;cases r;exact⟨[],True.intro,.nil⟩
 | p::kvs,_,r=>by
  rw[List.map_cons] at r
  cases r with
  | @cons a b as bs h t=>
   obtain⟨rs,c,q⟩:=qt (P:=P) (w:=w) t
   obtain⟨b1,b2⟩:=b
   exact⟨(p.1,b2)::rs,⟨qp h.1,rfl,c⟩,.cons ⟨rfl,h.2⟩ q⟩
def MJ (qr:List (TE×TE)):TE:=fun σ H Q=>∀p,H p=none→vD qr σ (upd H p (.dK [])) fun ps H2=>H2 p=some (.dK [])∧∃kvs:List (Key×V),ps=kvs.map (fun kv=>(kV kv.1,kv.2))∧kvs.length≤15∧Q (.ref p) (upd H2 p (.dK (jU [] kvs)))
theorem GY {X:Cx} {pos:Pos} {keys:List (Option Expr)} {values:List Expr} {qr:List (TE×TE)} (h:Ba X pos keys values qr) (hall:keys.all (·.isSome)=true) (hl:keys.length=values.length) (h0:keys≠[])
  (h15:keys.length≤15):PE X (.Dict keys values pos) (MJ qr):=by
 intro pins s σ H Q I q
 have hn:=I.hok.fresh (Nat.le_refl s.heap.objs.size)
 have I1:=I.laid (a:=s.heap.objs.size) (o:=.dK []) (h':=s.heap.push {cls:=.type "dict",data:=.dict #[]}) (t':=s.toks) (fun _ _ q=>Heap.get?_push_of_some _ q) (Nat.le_refl _) (vC s.heap I.big)
 refine wpAny_Dict_walk (knd:=bY X.prog X.w) hall hl h0 h15 (aK (h pins _ σ _ _ I1 (q _ hn)) fun ws s2 ⟨ps,H2,I2,rel,e,kvs,ep,lk,q2⟩=>?_)
 subst ep
 obtain⟨rs,c,rk⟩:=qt (P:=X.prog) (w:=X.w) rel
 obtain⟨z,hd,WC,r0,dd⟩:=zu I2.hok e
 cases r0
 refine⟨rs,c,dd,fun h' qq hs=>⟨.ref s.heap.objs.size,_,?_,rfl,q2⟩⟩
 have hz:(jU [] kvs).length≤sizeLine:=by
  have h1:=nh kvs []
  rw[List.length_nil] at h1
  rw[sizeLine_eq];omega
 have he:∃q,h'.get? s.heap.objs.size=some q:=let ⟨q,_,_,hq,_⟩:=qq;⟨q,hq⟩
 exact oS I2 (by rw[e];exact True.intro) hs he (A9 hz hd (rk.merge .nil) qq)
section
variable {X:Cx} {pins:List (Addr×Obj)} {σ:List (Option V)} {H H':Hp} {s:Shared} {h':Heap}
theorem Inv.mD {t':Nat} {ch:List Addr} {p:Addr} {o:HO} (I:Inv X pins σ H s) (hf:∀b∈ch,gf X pins H b)
  (k:∀b u,b ∉ ch→s.heap.get? b=some u→h'.get? b=some u) (hp:s.heap.objs.size≤p) (new:bx X.prog X.w (upd H p o) h' p o):
  Inv X pins σ (upd H p o) {s with heap:=h',toks:=t'}:=by
 have hn:H p=none:=I.hok.fresh hp
 have nI:∀b u,H b=some u→b ∉ ch:=fun b u e z=>by have q:=(hf b z).1;rw[e] at q;cases q
 have old:∀b u,s.heap.get? b=some u→b≠p:=fun b u e=>Nat.ne_of_lt (Nat.lt_of_lt_of_le (Heap.lt_size e) hp)
 have qu:∀b u,H b=some u→upd H p o b=some u:=fun b u e=>by rw[ak (aq e hn)];exact e
 refine I.step (g':=s.gens) (d':=s.drawn) (ch:=ch) (fun b hb=>?_) (fun b o _ _ hc e _=>k b o hc e) (fun b o _ _ hc e _=>⟨o.slots,k b o hc e⟩) (fun b o _ e n=>by rw[ak (old b o e)];exact n)
  (fun b o hc e=>⟨o,k b o hc e⟩) (fun b xs e=>qu b _ e) (fun b _ _ e=>qu b _ e) (fun b ps e=>⟨#[],by rw[qu b _ e];simp⟩) (fun m hm=>?_) (fun b u e=>?_) I.bare
 ·obtain⟨f0,f1,f2,f3,f4,f5⟩:=hf b hb
  exact⟨f3,f1,f4,f5⟩
 ·obtain⟨ob,es,ep,ho,r⟩:=hm
  exact⟨ob,es,ep,k _ ob (fun z=>(hf _ z).2.1 rfl) ho,r⟩
 ·by_cases hb:b=p
  ·subst hb;rw[af] at e;cases e;exact new
  ·rw[ak hb] at e
   refine(I.hok b u e).stay (fun c v hc q=>k c v ?_ q) (fun c q=>qu c _ q) fun c xs q=>qu c _ q
   rcases hc with z | z
   ·rw[z];exact nI b u e
   ·exact nI c _ z
end
def Bb (K:PySem.W.Frag) (a:Addr):It:=
 ⟨fun i H=>∃xs x,br K H a xs∧xs[i]? =some x,
  fun i H x H'=>∃y p,(∀xs,br K H a xs→xs[i]? =some y)∧H p=none∧x=.ref p∧H'=upd H p (.tup [.int i,y]),
  fun i H=>∃xs,br K H a xs∧xs.length≤i⟩
theorem Bc {P:Program} {w:World} {K:PySem.W.Frag} {elts:List Expr} {x1} {tpos:Pos} (a e it:Addr) (hne:e≠it):
  Turn P w K (.Tuple elts x1 tpos) (Bb K a) [e,it] e (fun i h=>(∃old,IsEnum h e it i old)∧h.IsListIter it a i) where
 mem:=by simp
 obj:=fun i h st b hb=>by
  obtain⟨⟨old,st1⟩,st2⟩:=st
  rcases List.mem_cons.mp hb with z | z
  ·subst z;exact⟨_,st1,fun v z=>by cases z⟩
  ·have z':b=it:=by simpa using z
   subst z'
   obtain⟨o,e,c,d⟩:=st2
   exact⟨o,e,fun v z=>by rw[d] at z;cases z⟩
 keep:=fun i h h' st k=>by
  obtain⟨⟨old,st1⟩,st2⟩:=st
  exact⟨⟨old,k e (by simp) _ st1⟩,st2.at fun o q=>k it (by simp) o q⟩
 item:=by
  intro X hP hw hK hc i pins s σ H E I hf st hg
  subst hP hw hK
  obtain⟨⟨old,st1⟩,st2⟩:=st
  obtain⟨xs,x,hq,hx⟩:=hg
  obtain⟨its,rv,p,hz⟩:=I.list hq
  obtain⟨u,hu,ru⟩:=rv.get hx
  refine wpAny_pyNext_enum_item st1 st2 p.isList (x:=u) (by simpa using hu) hne fun h1 eo Iy ht hsz kk=>?_
  have nn:H s.heap.objs.size=none:=I.hok.fresh (Nat.le_refl _)
  have I1:Inv X pins σ (upd H s.heap.objs.size (.tup [.int i,x])) {s with heap:=h1,toks:=s.toks+1}:=
   I.mD (ch:=[e,it]) hf (fun b o hb q=>kk b o (fun z=>hb (by simp[z])) (fun z=>hb (by simp[z])) q) (Nat.le_refl _)
    ⟨⟨by show 2≤sizeLine;decide,_,ht,rfl⟩,[.int i s.toks,u],.cons ⟨_,rfl⟩ (.cons ru .nil),⟨_,ht,rfl,_,rfl⟩⟩
  have le:e<s.heap.objs.size:=Heap.lt_size st1
  have li:it<s.heap.objs.size:=by obtain⟨o,q,_⟩:=id st2;exact Heap.lt_size q
  refine⟨_,rfl,wpAny_letOwnedTupleGo_enum eo fun h2 e2 sb=>?_⟩
  obtain⟨f0,f1,f2,f3,f4,f5⟩:=hf e (by simp)
  have I2:=I1.turned (h':=h2) (t':=s.toks+1) (it:=e) (fun b o hb q=>(sb.2 b hb).trans q) (by rw[ak (Nat.ne_of_lt le)];exact f0) f1 f3 f4 f5
  refine⟨.ref s.heap.objs.size,_,I2,rfl,⟨x,s.heap.objs.size,fun ys hy=>by rw[I.jP hy hq];exact hx,nn,rfl,rfl⟩,⟨⟨u,by simpa using e2⟩,Iy.at fun o q=>(sb.2 it (Ne.symm hne)).trans q⟩,fun b hb=>?_⟩
  rcases List.mem_cons.mp hb with z | z
  ·subst z;rw[ak (Nat.ne_of_lt le)];exact f0
  ·have z':b=it:=by simpa using z
   subst z';rw[ak (Nat.ne_of_lt li)];exact(hf b (by simp)).1
 done:=by
  intro X hP hw hK hc i pins s σ H E I hf st hg
  subst hP hw hK
  obtain⟨⟨old,st1⟩,st2⟩:=st
  obtain⟨xs,hq,hx⟩:=hg
  obtain⟨its,rv,p,hz⟩:=I.list hq
  obtain⟨f0,f1,f2,f3,f4,f5⟩:=hf it (by simp)
  have hl:=rv.length
  exact wpAny_pyNext_enum_end (I.ok.hd hc) st1 st2 p.isList (by simp;omega) fun h' eb=>⟨rfl,I.turned (t':=s.toks) (fun b o hb e=>eb b o hb e) f0 f1 f3 f4 f5⟩
 self:=fun _ _ _ _ _ st h=>by
  obtain⟨⟨old,st1⟩,st2⟩:=st
  exact wpAny_pyIter_enum st1 h
def MK (K:PySem.W.Frag) (ta:TA):TI:=fun σ H R=>ta σ H fun vs H1=>∃a,vs=[.ref a]∧(∃xs,br K H1 a xs)∧R (Bb K a) H1
theorem GZ {X:Cx} {elts:List Expr} {x1} {tpos:Pos} {a:Expr} {ta:TA} {p pos:Pos} (hg:Gl X "enumerate") (hm:X.mg "enumerate"=none) (ha:PA X [a] ta) (hs:starEach [a] X.env=[(false,eval a X.env)]:=by rfl):
  PI X (.Tuple elts x1 tpos) (.Call (.Name "enumerate" p) [a] [] pos) (MK X.K ta):=by
 intro pins s σ H R I h
 refine Call_ (g5 I hg hm boot_enumerate (PyProof.Rows.callWith_type1 (aK (ha pos pins s σ H _ I h) fun us s1 ⟨vs,H1,I1,r1,q1⟩=>?_) hs rfl))
 obtain⟨l,e,⟨xs,hq⟩,q⟩:=q1
 subst e
 cases r1 with
 | cons r rr=>
  cases rr
  cases r
  obtain⟨its,rv,pl,hz⟩:=I1.list hq
  refine call_enumerate_list pl.isList fun h' he hit hsz kk=>?_
  have I2:Inv X pins σ H1 {s1 with heap:=h'}:=I1.kept (t':=s1.toks) kk
  refine wpAny_pyIter_enum he ?_
  refine⟨s1.heap.objs.size+1,[s1.heap.objs.size+1,s1.heap.objs.size],_,_,H1,rfl,I2,Bc l _ _ (Nat.succ_ne_self _),⟨⟨_,by simpa using he⟩,hit⟩,fun b hb=>?_,q⟩
  rcases List.mem_cons.mp hb with z | z
  ·subst z;exact I1.jb (Nat.le_succ _) (I1.hok.fresh (Nat.le_succ _))
  ·have z':b=s1.heap.objs.size:=by simpa using z
   subst z';exact I1.jb (Nat.le_refl _) (I1.hok.fresh (Nat.le_refl _))
theorem DG {K:PySem.W.Frag} {a:Addr} {xs:List V} {g:TG} {tb:TS} {D:Ends} {σ:St} {H:Hp} (Pv:Nat→St→Hp→Prop) (h0:Pv 0 σ H) (hl:∀i σ H,i≤xs.length→Pv i σ H→br K H a xs)
  (hs:∀i x p σ H,xs[i]? =some x→Pv i σ H→H p=none→g (.ref p) σ (upd H p (.tup [.int i,x])) fun σ2 H2=>tb {D with nx:=Pv (i+1),ct:=Pv (i+1),bk:=D.nx} σ2 H2) (hd:∀σ H,Pv xs.length σ H→D.nx σ H):
  ∃W:Nat→Nat→St→Hp→Prop,(∃m,W 0 m σ H)∧∀i m σ H,W i m σ H→
   ((Bb K a).stop i H∧D.nx σ H)∨((Bb K a).go i H∧∃N:St→Hp→Prop,(∀σ' H',N σ' H'→∃m',m'<m∧W (i+1) m' σ' H')∧∀x H',(Bb K a).pq i H x H'→g x σ H' fun σ2 H2=>tb {D with nx:=N,ct:=N,bk:=D.nx} σ2 H2):=by
 refine⟨fun i m σ H=>m=xs.length-i∧i≤xs.length∧Pv i σ H,⟨xs.length,by simp,Nat.zero_le _,h0⟩,?_⟩
 rintro i m σ H ⟨rfl,hi,p⟩
 have q:=hl i σ H hi p
 by_cases hlt:i<xs.length
 ·refine .inr ⟨⟨xs,xs[i],q,by simp[hlt]⟩,Pv (i+1),fun σ' H' p'=>⟨xs.length-(i+1),by omega,rfl,hlt,p'⟩,fun x H' y=>?_⟩
  obtain⟨z,pa,hz,hn,e1,e2⟩:=y
  subst e1 e2
  exact hs i z pa σ H (hz xs q) p hn
 ·have e:i=xs.length:=by omega
  subst e
  exact .inl ⟨⟨xs,q,Nat.le_refl _⟩,hd σ H p⟩
def gj (env:Env):List (Str×NameKind)→List (Str×Addr)→List (Str×Addr)
 | [],cs=>cs
 | (n,k)::r,cs=>gj env r (if k == .free then(n,(env.cells.lookup n).getD 0)::cs else cs)
theorem qv {env:Env}:∀(names:List (Str×NameKind)) (cs:List (Str×Addr)),(∀y∈names,y.2=.free→∃c,env.cells.lookup y.1=some c)→
  (forIn names cs fun(x:Str×NameKind) (r:List (Str×Addr))=>(match x with
   | (name,kind)=>if(kind == NameKind.free)=true then(cellOf env name >>= fun a=>pure (ForInStep.yield ((name,a)::r)):Sem (ForInStep (List (Str×Addr)))) else pure (ForInStep.yield r)))=pure (gj env names cs)
 | [],cs,_=>rfl
 | (n,k)::r,cs,h=>by
  have ih:=fun cs'=>qv r cs' fun y hy=>h y (List.mem_cons_of_mem _ hy)
  rw[List.forIn_cons]
  by_cases hk:k=.free
  ·subst hk
   obtain⟨c,hc⟩:=h (n,.free) List.mem_cons_self rfl
   have e:cellOf env n=pure c:=by unfold cellOf;rw[hc]
   simp only[beq_self_eq_true,if_true,e,pure_bind]
   rw[ih]
   show _=pure (gj env r (if(NameKind.free == NameKind.free)=true then _ else _))
   rw[hc];rfl
  ·have hb:(k == NameKind.free)=false:=by simpa using hk
   simp only[hb,Bool.false_eq_true,if_false,pure_bind]
   rw[ih]
   show _=pure (gj env r (if(k == NameKind.free)=true then _ else _))
   rw[hb];rfl
theorem kn {env:Env} {scope:Scope} (h:∀y∈scope.names,y.2=.free→∃c,env.cells.lookup y.1=some c):closureFor scope env=pure (gj env scope.names []):=by
 unfold closureFor
 have e:=qv (env:=env) scope.names [] h
 show((forIn scope.names [] _:Sem (List (Str×Addr))) >>= fun cs=>pure cs)=_
 rw[bind_pure]
 refine Eq.trans ?_ e
 first
  | rfl
  | (congr 1;funext x r;obtain⟨n,k⟩:=x;dsimp only;split<;>simp)
theorem vE {env:Env} {x:Str} {c:Addr}:∀(names:List (Str×NameKind)) (cs:List (Str×Addr)),(x,c)∈gj env names cs→(x,c)∈cs∨((x,NameKind.free)∈names∧c=(env.cells.lookup x).getD 0)
 | [],cs,h=>.inl h
 | (n,k)::r,cs,h=>by
  have h':(x,c)∈gj env r (if(k == NameKind.free)=true then(n,(env.cells.lookup n).getD 0)::cs else cs):=h
  rcases vE r _ h' with z | ⟨z1,z2⟩
  ·by_cases hk:k=.free
   ·subst hk
    simp only[beq_self_eq_true,if_true,List.mem_cons] at z
    rcases z with z | z
    ·cases z;exact .inr ⟨List.mem_cons_self,rfl⟩
    ·exact .inl z
   ·have hb:(k == NameKind.free)=false:=by simpa using hk
    rw[hb] at z
    exact .inl z
  ·exact .inr ⟨List.mem_cons_of_mem _ z1,z2⟩
theorem tR {env:Env} {p:Str×Addr}:∀(names:List (Str×NameKind)) (cs:List (Str×Addr)),p∈cs→p∈gj env names cs
 | [],cs,h=>h
 | (n,k)::r,cs,h=>by
  show p∈gj env r (if(k == NameKind.free)=true then(n,(env.cells.lookup n).getD 0)::cs else cs)
  refine tR r _ ?_
  split
  ·exact List.mem_cons_of_mem _ h
  ·exact h
theorem vF {env:Env} {x:Str}:∀(names:List (Str×NameKind)) (cs:List (Str×Addr)),(x,NameKind.free)∈names→(x,(env.cells.lookup x).getD 0)∈gj env names cs
 | [],_,h=>by cases h
 | (n,k)::r,cs,h=>by
  show _∈gj env r (if(k == NameKind.free)=true then(n,(env.cells.lookup n).getD 0)::cs else cs)
  rcases List.mem_cons.mp h with z | z
  ·cases z
   exact tR r _ (by simp)
  ·exact vF r _ z
theorem lK {α β:Type} [BEq α] [LawfulBEq α] {x:α} {c:β}:∀{l:List (α×β)},l.lookup x=some c→(x,c)∈l
 | [],h=>by simp at h
 | (n,k)::r,h=>by
  rw[List.lookup_cons] at h
  by_cases e:x=n
  ·subst e;simp at h;subst h;exact List.mem_cons_self
  ·have:(x == n)=false:=by simpa using e
   rw[this] at h
   exact List.mem_cons_of_mem _ (lK h)
theorem lL {α β:Type} [BEq α] [LawfulBEq α] {x:α} {c:β}:∀{l:List (α×β)},(x,c)∈l→∃c',l.lookup x=some c'
 | [],h=>by cases h
 | (n,k)::r,h=>by
  rw[List.lookup_cons]
  by_cases e:x=n
  ·subst e;simp
  ·have q:(x == n)=false:=by simpa using e
   rw[q]
   rcases List.mem_cons.mp h with z | z
   ·cases z;exact absurd rfl e
   ·exact lL z
theorem dG {env:Env} {x:Str} {k':NameKind}:∀{names:List (Str×NameKind)},
  (names.map fun(n,k)=>if(k == NameKind.free&&env.scope.kind == .function&&env.kindOf n == some .cell) then(n,NameKind.cell) else(n,k)).lookup x=some k'→
  (x,k')∈names∨(k'=.cell∧(x,NameKind.free)∈names)
 | [],h=>by simp at h
 | (n,k)::r,h=>by
  rw[List.map_cons,List.lookup_cons] at h
  dsimp only at h
  by_cases e:x=n
  ·subst e
   by_cases hc:(k == NameKind.free&&env.scope.kind == .function&&env.kindOf x == some .cell)=true
   ·rw[if_pos hc] at h
    simp at h
    have hk:k=.free:=by
     simp only[Bool.and_eq_true,beq_iff_eq] at hc
     exact hc.1.1
    subst hk
    exact .inr ⟨h.symm,List.mem_cons_self⟩
   ·rw[if_neg hc] at h
    simp at h
    subst h
    exact .inl List.mem_cons_self
  ·have q:(x == (if(k == NameKind.free&&env.scope.kind == .function&&env.kindOf n == some .cell)=true then(n,NameKind.cell) else(n,k)).1)=false:=by
    split<;>simpa using e
   rw[q] at h
   rcases dG h with z | ⟨z1,z2⟩
   ·exact .inl (List.mem_cons_of_mem _ z)
   ·exact .inr ⟨z1,List.mem_cons_of_mem _ z2⟩
structure aI (X:Cx) (scope:Scope) (own aF:List Str) (bJ:List Nat):Prop where
 cell:∀y∈scope.names,y.2≠.cell
 kind:scope.kind=.function
 names:∀y∈scope.names,y.2=.local→scope.names.lookup y.1=some .local
 free:∀y∈scope.names,y.2=.free→X.env.scope.names.lookup y.1=some .cell∨X.env.scope.names.lookup y.1=some .free
 Sq:bJ.length=aF.length
 Sr:∀(i j:Nat),bJ[i]? =some j→X.N[j]? =aF[i]?
 Ss:∀x∈aF,(x,NameKind.free)∈scope.names∧scope.names.lookup x=some .free
def fG (X:Cx) (own aF:List Str) (scope:Scope) (C:Addr) (s₃:Shared) (H₃:Hp) (fp:List Addr):Cx:=
 {X with N:=own++aF,s₀:=s₃,H₀:=H₃,env:=compEnvC scope (gj X.env scope.names []) C X.env,outer:=X.stack,stack:=X.stack,ex:=fp,fn:=fun _=>false,pn:=[],xe:=fun _ _=>False}
def vG (own:List Str) (bJ:List Nat) (σ:St):St:=List.replicate own.length none++bJ.map fun j=>(σ[j]?).join
section
variable {X:Cx} {pins:List (Addr×Obj)} {σ:List (Option V)} {H:Hp} {s:Shared} {scope:Scope} {own aF:List Str} {bJ:List Nat}
theorem aI.cells (sc:aI X scope own aF bJ) (ok:X.Ok):∀y∈scope.names,y.2=.free→∃c,X.env.cells.lookup y.1=some c:=fun y hy hf=>by
 rcases sc.free y hy hf with z | z
 ·exact ok.has y.1 (.inl z)
 ·exact ok.has y.1 (.inr z)
theorem aI.look (sc:aI X scope own aF bJ) (ok:X.Ok) {x:Str} {c:Addr} (h:(gj X.env scope.names []).lookup x=some c):X.env.cells.lookup x=some c∧(x,NameKind.free)∈scope.names:=by
 rcases vE _ _ (lK h) with z | ⟨z1,z2⟩
 ·cases z
 ·obtain⟨c',hc⟩:=sc.cells ok (x,.free) z1 rfl
  have hc':X.env.cells.lookup x=some c':=hc
  rw[hc'] at z2
  have z3:c=c':=z2
  subst z3
  exact⟨hc',z1⟩
theorem aI.Fn (sc:aI X scope own aF bJ) (ok:X.Ok) {x:Str} (h:(x,NameKind.free)∈scope.names):∃c,(gj X.env scope.names []).lookup x=some c∧X.env.cells.lookup x=some c:=by
 obtain⟨c,hc⟩:=lL (vF (env:=X.env) scope.names [] h)
 exact⟨c,hc,(sc.look ok hc).1⟩
theorem Inv.block {fp:List Addr} {h₄:Heap} {tk:Nat} (I:Inv X pins σ H s) (sc:aI X scope own aF bJ) (hfp:∀b∈fp,gf X pins H b) (hfl:∀b∈fp,b<s.heap.objs.size)
  (k:∀b o,s.heap.get? b=some o→h₄.get? b=some o) (hn:h₄.Ns s.heap.objs.size fun _=>none):
  Inv (fG X own aF scope s.heap.objs.size s H fp) [] (vG own bJ σ) H {s with heap:=h₄,toks:=tk}:=by
 have ok:=I.ok
 refine⟨⟨ok.mod,by show(relabel scope X.env).kind=_;exact sc.kind,ok.glob,ok.blt,Nat.le_refl _,?_,?_,fun x c h=>(nomatch h),ok.hd,ok.frames,.inl rfl,?_,fun b o e=>I.bs b o e,Nat.le_trans ok.nG I.sz,?_,?_,I.stack,I.lE⟩,rfl,I.bare,Un.kept k,?_,?_,I.fresh,?_,fun p hp=>(nomatch hp),I.hok.kept k,?_⟩
 ·intro x y c e1 e2
  exact ok.inj x y c (sc.look ok e1).1 (sc.look ok e2).1
 ·intro x h
  have mem:(x,NameKind.free)∈scope.names:=by
   rcases h with h | h
   ·rcases dG h with z | ⟨_,z⟩
    ·exact absurd rfl (sc.cell _ z)
    ·exact z
   ·rcases dG h with z | ⟨z,_⟩
    ·exact z
    ·cases z
  obtain⟨c,hc,_⟩:=sc.Fn ok mem
  exact⟨c,hc⟩
 ·intro b hb
  obtain⟨f0,f1,f2,f3,f4,f5⟩:=hfp b hb
  exact⟨Nat.ne_of_lt (hfl b hb),fun x c e=>f4 x c (sc.look ok e).1⟩
 ·intro b o e hb
  rcases(hfp b hb).2.2.2.1 with z | z
  ·exact ok.vh b o e z
  ·exact absurd (Nat.lt_of_lt_of_le (Heap.lt_size e) (Nat.le_trans ok.nG z)) (Nat.lt_irrefl _)
 ·intro b hb hfs
  obtain⟨f0,f1,f2,_⟩:=hfp b hb
  rcases List.mem_cons.mp (I.nH b hfs) with z | z
  ·exact f1 z
  ·exact f2 z
 ·refine⟨_,hn,fun i x v e1 e2 e3=>?_⟩
  have e1':(own++aF)[i]? =some x:=e1
  have e2':(List.replicate own.length none++bJ.map fun j=>(σ[j]?).join)[i]? =some (some v):=e2
  by_cases hi:i<own.length
  ·rw[List.getElem?_append_left (by simpa using hi)] at e2'
   rw[List.getElem?_replicate] at e2'
   split at e2'<;>cases e2'
  ·rw[List.getElem?_append_right (by simp;omega),List.length_replicate] at e2'
   rw[List.getElem?_append_right (by omega)] at e1'
   rw[List.getElem?_map] at e2'
   cases ej:bJ[i-own.length]? with
   | none=>rw[ej] at e2';cases e2'
   | some j=>
    rw[ej] at e2'
    have zv:(σ[j]?).join=some v:=by simpa using e2'
    have e4:σ[j]? =some (some v):=by
     cases q:σ[j]? with
     | none=>rw[q] at zv;cases zv
     | some o=>rw[q] at zv;simpa using zv
    have e5:=(sc.Sr _ j ej).trans e1'
    obtain⟨hm,hlk⟩:=sc.Ss x (List.mem_of_getElem? e1')
    obtain⟨m,WD,hl⟩:=I.loc
    have hv:xZ X.env.scope x:=by
     rcases sc.free (x,.free) hm rfl with z | z
     ·exact .inr (.inl z)
     ·exact .inr (.inr z)
    obtain⟨u,r,lk⟩:=hl j x v e5 e4 hv
    refine⟨u,r,.inr ?_⟩
    obtain⟨c,hc,hc'⟩:=sc.Fn ok hm
    have Iz:h₄.IsCell c (some u):=by
     rcases lk with⟨z,_⟩ | ⟨_,c',hx,⟨o,ho,hd⟩⟩
     ·exfalso
      have z':X.env.scope.names.lookup x=some .local:=z
      rcases sc.free (x,.free) hm rfl with q | q
      ·rw[show X.env.scope.names.lookup x=some .cell from q] at z';cases z'
      ·rw[show X.env.scope.names.lookup x=some .free from q] at z';cases z'
     ·rw[hc'] at hx;cases hx
      exact⟨o,k _ o ho,hd⟩
    refine⟨?_,c,hc,Iz⟩
    have e3':xZ (relabel scope X.env) x:=e3
    rcases e3' with z | z | z
    ·exfalso
     rcases dG z with q | ⟨q,_⟩
     ·have:=sc.names _ q rfl
      rw[show scope.names.lookup x=some .local from this] at hlk
      cases hlk
     ·cases q
    ·exact .inl z
    ·exact .inr z
 ·intro x c e
  obtain⟨v,o,ho,hd⟩:=I.cell x c (sc.look ok e).1
  exact⟨v,o,k _ o ho,hd⟩
 ·intro x c e
  exact I.fO x c (sc.look ok e).1
 ·show(List.replicate own.length none++bJ.map fun j=>(σ[j]?).join).length=(own++aF).length
  simp[sc.Sq]
end
theorem mE {prog:Program} {w:World} {A:Around} {R:Result→Shared→Prop} {s:Shared} {elt target iter:Expr} {ifs:List Expr} {scope:Scope} {pos:Pos} {it acc:Value} {env:Env} (I:Nat→Shared→Prop)
  (turn:∀n s,I n s→wpAny (model prog w) A (pyNext it) (fun r s₁=>match r with
   | none=>R (.ok .next) s₁
   | some v=>wpAny (model prog w) A (letOwnedTupleGo target it v) (fun _ s₁'=>wpAny (model prog w) A (assign target env v) (fun _ s₂=>
     wpAny (model prog w) A (forIn ifs true fun c r=>if r=true then do let ok ←isTrue c env (eval c env);pure (ForInStep.yield ok) else pure (ForInStep.yield r)) (fun ok s₃=>
      if ok=true then wpAny (model prog w) A (eval elt env) (fun x s₄=>
       wpAny (model prog w) A (call (.builtin "list.append") [acc,x]) (fun _ s₅=>∃m,m<n∧I m s₅) (fun _ _=>False) s₄) (fun _ _=>False) s₃
      else ∃m,m<n∧I m s₃) (fun _ _=>False) s₂) (fun _ _=>False) s₁') (fun _ _=>False) s₁) (fun _ _=>False) s)
  (n:Nat) (h:I n s):
  codeAny (model prog w) A (.compLoop (.ListComp elt [⟨target,iter,ifs,0⟩] scope pos) 0 it acc env) R s:=by
 refine codeAny_loop rfl I (fun n s hI=>?_) n h
 show wpAny _ A ((compTurn (.ListComp elt [⟨target,iter,ifs,0⟩] scope pos) 0 it acc env).onRaise (fun x=>do noteFrame x env;theTreesLotGoes x)) _ _ s
 refine wpAny_noted ?_
 rw[compTurn_list]
 refine wpAny_bind (wpAny_standAt (wpAny_bind (wpAny_mono (turn n s hI) (fun r s₁ h₁=>?_) fun _ _ h'=>h'.elim)))
 cases r with
 | none=>exact wpAny_pure h₁
 | some v=>
  refine wpAny_bind (wpAny_mono h₁ (fun _ s₁' h₁'=>?_) fun _ _ h'=>h'.elim)
  refine wpAny_bind (wpAny_mono h₁' (fun _ s₂ h₂=>wpAny_bind (wpAny_mono h₂ (fun ok s₃ h₃=>?_) fun _ _ h'=>h'.elim)) fun _ _ h'=>h'.elim)
  cases ok with
  | false=>exact wpAny_pure ⟨rfl,h₃⟩
  | true=>
   exact wpAny_bind (wpAny_bind (wpAny_mono h₃ (fun x s₄ h₄=>wpAny_bind (wpAny_mono h₄ (fun _ s₅ h₅=>wpAny_pure (wpAny_pure ⟨rfl,h₅⟩)) fun _ _ h'=>h'.elim)) fun _ _ h'=>h'.elim))
def rB (X:Cx) (ifs:List Expr) (t:TT):Prop:=
 ∀(pins:List (Addr×Obj)) (s:Shared) (σ:St) (H:Hp) (Q:Bool→Hp→Prop),Inv X pins σ H s→t σ H Q→
  wpAny (model X.prog X.w) X.A (forIn ifs true fun c r=>if r=true then do let ok ←isTrue c X.env (eval c X.env);pure (ForInStep.yield ok) else pure (ForInStep.yield r)) (TP X pins σ Q) X.xe s
def ML:TT:=fun _ H Q=>Q true H
theorem bU {X:Cx}:rB X [] ML:=fun _ _ _ H _ I h=>wpAny_tests_nil ⟨H,I,h⟩
theorem jV {X:Cx} {c:Expr} {t:TT} (h:PT X c t):rB X [c] t:=fun pins s σ H Q I hq=>wpAny_tests_one (h pins s σ H Q I hq)
def ko (J:It) (g:TG) (tt:TT) (te:TE) (D:Addr) (σ:St) (H:Hp) (R:Hp→Prop):Prop:=
 ∃W:Nat→Nat→St→Hp→Prop,(∃m,W 0 m σ H)∧∀i m σ H,W i m σ H→(J.stop i H∧R H)∨(J.go i H∧∃N:St→Hp→Prop,(∀σ' H',N σ' H'→∃m',m'<m∧W (i+1) m' σ' H')∧
  ∀x H',J.pq i H x H'→g x σ H' fun σ2 H2=>tt σ2 H2 fun b H3=>if b=true then te σ2 H3 fun y H4=>∃ys,H4 D=some (.lst ys)∧ys.length<sizeLine∧N σ2 (upd H4 D (.lst (ys++[y]))) else N σ2 H3)
section
variable {X:Cx} {scope:Scope} {own aF:List Str} {bJ:List Nat} {elt tg iter:Expr} {ifs:List Expr} {pos:Pos} {g:TG} {tt:TT} {te:TE}
theorem qw {pins:List (Addr×Obj)} {σ:St} {H:Hp} {s:Shared} {J:It} {fp:List Addr} {it:Addr} {tn:Nat→Heap→Prop} {R:Addr→Hp→Prop} {RR:Value→Addr→Result→Shared→Prop} {E:Value→Shared→Prop}
  (sc:aI X scope own aF bJ) (hc:X.calm=true)
  (hg:∀C s₃ H₃ fp,PG (fG X own aF scope C s₃ H₃ fp) tg g) (ht:∀C s₃ H₃ fp,rB (fG X own aF scope C s₃ H₃ fp) ifs tt) (he:∀C s₃ H₃ fp,PE (fG X own aF scope C s₃ H₃ fp) elt te)
  (I:Inv X pins σ H s) (T:Turn X.prog X.w X.K tg J fp it tn) (st:tn 0 s.heap) (hfp:∀b∈fp,gf X pins H b)
  (h:∀D,H D=none→ko J g tt te D (vG own bJ σ) (upd H D (.lst [])) (R D))
  (hRR:∀D C H' s' m,Inv X pins σ H' s'→s.heap.objs.size≤C→s'.heap.Ns C m→H' C=none→R D H'→RR (.ref D) C (.ok .next) s'):
  wpAny (model X.prog X.w) X.A (newList []) (fun acc s₃=>wpAny (model X.prog X.w) X.A (newFunctionEnv scope X.env.globals (gj X.env scope.names []) [] X.env.qual none .none (some X.env)) (fun cenv s₄=>
   codeAny (model X.prog X.w) X.A (.compStart (.ListComp elt [⟨tg,iter,ifs,0⟩] scope pos) 0 (.ref it) acc {cenv with scope:=relabel scope X.env}) (RR acc cenv.locals) s₄) E s₃) E s:=by
 refine wpAny_newObj_type (wpAny_newFunctionEnv sc.cell (by intro y hy;simp at hy) (fun h₁ hns₁ hsb₁=>?_) sc.kind)
 dsimp only at hns₁ hsb₁ ⊢
 have hD:=I.fresh
 have I3:Inv X pins σ (upd H s.heap.objs.size (.lst [])) {s with heap:=s.heap.push {cls:=.type "list",dict:=none,data:=.seq ([]:List Value).toArray}}:=I.Ir (its:=[]) (t':=s.toks) .nil (Nat.zero_le _)
 have hsz:(s.heap.push {cls:=.type "list",dict:=none,data:=.seq ([]:List Value).toArray}).objs.size=s.heap.objs.size+1:=Heap.size_push ..
 generalize hs3:({s with heap:=s.heap.push {cls:=.type "list",dict:=none,data:=.seq ([]:List Value).toArray}}:Shared)=s₃ at I3
 have hh3:s.heap.push {cls:=.type "list",dict:=none,data:=.seq ([]:List Value).toArray}=s₃.heap:=by rw[←hs3]
 rw[hh3] at hns₁ hsb₁ hsz ⊢
 have hfl:∀b∈fp,b<s.heap.objs.size:=fun b hb=>by
  obtain⟨o,e,_⟩:=T.obj 0 _ st b hb
  exact Heap.lt_size e
 have DH:∀b∈fp,gf X pins (upd H s.heap.objs.size (.lst [])) b:=fun b hb=>by
  obtain⟨f0,f⟩:=hfp b hb
  exact⟨by rw[ak (Nat.ne_of_lt (hfl b hb))];exact f0,f⟩
 have Pr:∀b∈fp,b<s₃.heap.objs.size:=fun b hb=>by rw[hsz];exact Nat.lt_succ_of_lt (hfl b hb)
 have k4:∀b o,s₃.heap.get? b=some o→h₁.get? b=some o:=fun b o e=>(hsb₁.2 b (Nat.ne_of_lt (Heap.lt_size e))).trans (Heap.get?_push_of_some _ e)
 have k3:∀b o,s.heap.get? b=some o→s₃.heap.get? b=some o:=fun b o e=>by rw[←hh3];exact Heap.get?_push_of_some _ e
 have hnone:(fun x:Str=>List.lookup x ([]:List (Str×Value)).reverse)=fun _=>none:=by funext x;rfl
 have MM:h₁.Ns s₃.heap.objs.size fun _=>none:=by
  have q:=hns₁
  first
   | exact q
   | (rw[hnone] at q;exact q)
 have I4:=I3.block (own:=own) (tk:=s.toks+([]:List (Str×Value)).length) sc DH Pr k4 MM
 have Fo:tn 0 h₁:=T.keep _ _ _ st fun b hb o e=>k4 b o (k3 b o e)
 generalize hX:fG X own aF scope s₃.heap.objs.size s₃ (upd H s.heap.objs.size (.lst [])) fp=X' at I4
 have Nw:X'.prog=X.prog:=by rw[←hX];rfl
 have Nx:X'.w=X.w:=by rw[←hX];rfl
 have Sv:X'.K=X.K:=by rw[←hX];rfl
 have Sw:X'.A=X.A:=by rw[←hX];rfl
 have Ny:X'.calm=true:=by rw[←hX];exact hc
 have Sx:X'.xe=fun _ _=>False:=by rw[←hX];rfl
 have Sy:X'.env=compEnvC scope (gj X.env scope.names []) s₃.heap.objs.size X.env:=by rw[←hX];rfl
 have hg':PG X' tg g:=by rw[←hX];exact hg _ _ _ _
 have ht':rB X' ifs tt:=by rw[←hX];exact ht _ _ _ _
 have he':PE X' elt te:=by rw[←hX];exact he _ _ _ _
 have Sz:∀{H':Hp} {s':Shared} {σ':St},Inv X' [] σ' H' s'→Inv X pins σ H' s'∧(∃m,s'.heap.Ns s₃.heap.objs.size m)∧H' s₃.heap.objs.size=none:=by
  intro H' s' σ' I'
  subst hX
  refine⟨I3.call' (ch:=fp) I'.os I'.base I'.hok I'.bare fun b hb=>?_,let ⟨m,hn,_⟩:=I'.loc;⟨m,hn⟩,I'.free⟩
  obtain⟨f0,f1,f2,f3,f4,f5⟩:=DH b hb
  exact⟨f3,f1,f4,f5⟩
 have stat:∀{H':Hp},(∀b∈fp,H' b=none)→∀b∈fp,gf X' [] H' b:=by
  intro H' hn b hb
  subst hX
  obtain⟨a1,a2⟩:=I4.ok.HU b hb
  exact⟨hn b hb,a1,I4.ok.vi b hb,.inl hb,a2,fun p hp=>by cases hp⟩
 obtain⟨W,⟨m0,w0⟩,turn⟩:=h s.heap.objs.size hD
 have loop:codeAny (model X.prog X.w) X.A (.compLoop (.ListComp elt [⟨tg,iter,ifs,0⟩] scope pos) 0 (.ref it) (.ref s.heap.objs.size) X'.env) (RR (.ref s.heap.objs.size) s₃.heap.objs.size)
   {s₃ with heap:=h₁,toks:=s.toks+([]:List (Str×Value)).length}:=by
  refine mE (fun n s'=>∃i σ' H',Inv X' [] σ' H' s'∧tn i s'.heap∧(∀b∈fp,H' b=none)∧W i n σ' H') ?_ m0 ⟨0,_,_,I4,Fo,fun b hb=>(DH b hb).1,w0⟩
  rintro n s5 ⟨i,σ5,H5,I5,x6,Fe,w5⟩
  rw[←Nw,←Nx,←Sw]
  have Fp:∀{α:Type} {t:Sem α} {Q:α→Shared→Prop} {s:Shared},wpAny (model X'.prog X'.w) X'.A t Q X'.xe s→wpAny (model X'.prog X'.w) X'.A t Q (fun _ _=>False) s:=fun h=>by rw[Sx] at h;exact h
  have T':Turn X'.prog X'.w X'.K tg J fp it tn:=by rw[Nw,Nx,Sv];exact T
  rcases turn i n σ5 H5 w5 with⟨stop,q⟩ | ⟨go,N,hN,step⟩
  ·refine aK (T'.done X' rfl rfl rfl Ny i [] s5 σ5 H5 _ I5 (stat Fe) x6 stop) fun r s6 ⟨hr,I6⟩=>?_
   subst hr
   obtain⟨J1,⟨m,J2⟩,J3⟩:=Sz I6
   exact hRR _ _ H5 s6 m J1 (by rw[hsz];exact Nat.le_succ _) J2 J3 q
  ·refine aK (T'.item X' rfl rfl rfl Ny i [] s5 σ5 H5 _ I5 (stat Fe) x6 go) fun r s6 ⟨u,hr,h6⟩=>?_
   subst hr
   refine aK h6 fun _ s7 ⟨x,H7,I7,r7,y7,IA,SA⟩=>?_
   have SD:=I7.pinned (stat SA) (T'.obj _ _ IA)
   have again:∀{s9:Shared} {σ9:St} {H9:Hp},Inv X' ([]++nP fp s7.heap) σ9 H9 s9→N σ9 H9→∃m,m<n∧∃i σ' H',Inv X' [] σ' H' s9∧tn i s9.heap∧(∀b∈fp,H' b=none)∧W i m σ' H':=fun {s9 σ9 H9} I9 n9=>by
    obtain⟨m',hm,w9⟩:=hN σ9 H9 n9
    refine⟨m',hm,i+1,σ9,H9,I9.mx,T'.keep _ _ _ IA fun b hb o e=>(I9.pin (b,o) (List.mem_append_right _ (List.mem_append_right _ (jt hb e)))).1,fun b hb=>?_,w9⟩
    obtain⟨o,e,d⟩:=T'.obj _ _ IA b hb
    exact(I9.pin (b,o) (List.mem_append_right _ (List.mem_append_right _ (jt hb e)))).2.1
   refine aK (Fp (hg' _ s7 σ5 H7 x u _ SD r7 (step x H7 y7))) fun _ s8 ⟨σ8,H8,I8,q8⟩=>?_
   refine aK (Fp (ht' _ s8 σ8 H8 _ I8 q8)) fun b s9 ⟨H9,I9,q9⟩=>?_
   cases b with
   | false=>exact again I9 (by simpa using q9)
   | true=>
    rw[if_pos rfl] at q9
    refine aK (Fp (he' _ s9 σ8 H9 _ I9 q9)) fun y SE ⟨v,Fq,SF,r10,SG⟩=>?_
    obtain⟨ys,e10,Bd,n10⟩:=SG
    refine aK (Fp (aZ _ SE σ8 Fq (.ref s.heap.objs.size) [v] (.ref s.heap.objs.size) [y] (fun _ H'=>H'=upd Fq s.heap.objs.size (.lst (ys++[v]))) SF rfl (.cons r10 .nil) ⟨_,ys,v,rfl,rfl,e10,Bd,rfl⟩)) fun u WE ⟨v',SH,SJ,_,IB⟩=>?_
    subst IB
    exact again SJ n10
 rw[Sy] at loop
 have e4:({s with heap:=h₁,toks:=s.toks+([]:List (Str×Value)).length}:Shared)={s₃ with heap:=h₁,toks:=s.toks+([]:List (Str×Value)).length}:=by rw[←hs3]
 rw[e4]
 exact codeAny_compStart_list loop (T.self _ 0 _ _ _ Fo loop)
end
def Fs (own:List Str) (bJ:List Nat) (wi:TI) (g:TG) (tt:TT) (te:TE):TE:=fun σ H Q=>wi σ H fun J H1=>∀D,H1 D=none→ko J g tt te D (vG own bJ σ) (upd H1 D (.lst [])) fun H'=>Q (.ref D) H'
section
variable {X:Cx} {scope:Scope} {own aF:List Str} {bJ:List Nat} {elt tg iter:Expr} {ifs:List Expr} {pos:Pos} {wi:TI} {g:TG} {tt:TT} {te:TE}
theorem cF (sc:aI X scope own aF bJ) (hc:X.calm=true) (hi:PI X tg iter wi)
  (hg:∀C s₃ H₃ fp,PG (fG X own aF scope C s₃ H₃ fp) tg g) (ht:∀C s₃ H₃ fp,rB (fG X own aF scope C s₃ H₃ fp) ifs tt) (he:∀C s₃ H₃ fp,PE (fG X own aF scope C s₃ H₃ fp) elt te)
  (hs:∀x,foldedSetIterable iter X.env x=pure x:=by intro _;rfl):PE X (.ListComp elt [⟨tg,iter,ifs,0⟩] scope pos) (Fs own bJ wi g tt te):=by
 intro pins s σ H Q I h
 rw[eval_ListComp]
 refine wpAny_comprehension_free (use:=none) rfl hs (kn (sc.cells I.ok)) sc.kind sc.names (aK (hi pins s σ H _ I h) fun v s1 h1=>aK h1 fun itv s2 h2=>?_)
 obtain⟨it,fp,tn,J,H2,e,I2,T,st2,f2,q⟩:=h2
 subst e
 refine qw (RR:=fun acc C=>compPost (model X.prog X.w) X.A X.xe none (EP X pins σ Q) acc C) (R:=fun D H'=>Q (.ref D) H') sc hc hg ht he I2 T st2 f2 q ?_
 intro D C H' s' m I' hC hn hf hq
 refine⟨m,hn,fun h' sb=>?_⟩
 obtain⟨f0,f1,f2,f3,f4,f5⟩:=I2.jb (H':=H') hC hf
 exact⟨.ref D,H',I'.turned (t':=s'.toks) (it:=C) (fun b o hb e=>(sb.2 b hb).trans e) f0 f1 f3 f4 f5,rfl,hq⟩
theorem eV {i:Nat} {y:Str} {py spos:Pos} (sc:aI X scope own aF bJ) (hc:X.calm=true) (hi:PI X tg iter wi)
  (hg:∀C s₃ H₃ fp,PG (fG X own aF scope C s₃ H₃ fp) tg g) (ht:∀C s₃ H₃ fp,rB (fG X own aF scope C s₃ H₃ fp) ifs tt) (he:∀C s₃ H₃ fp,PE (fG X own aF scope C s₃ H₃ fp) elt te)
  (hN:X.N.Nodup) (hi':X.N[i]? =some y) (hx:X.env.scope.names.lookup y=some .local)
  (hsw:swapsWith (.ListComp elt [⟨tg,iter,ifs,0⟩] scope pos) (some (.Name y py)) spos.line X.env=pure true:=by rfl)
  (hs:∀x,foldedSetIterable iter X.env x=pure x:=by intro _;rfl):PS X (.Assign [.Name y py] (.ListComp elt [⟨tg,iter,ifs,0⟩] scope pos) spos) (kX (Fs own bJ wi g tt te) (ay i)):=by
 intro pins s σ H D I h
 rw[exec_Assign_Name_used _ _ _ _ hsw]
 refine wpAny_bind (wpAny_standAt (wpAny_bind ?_))
 show wpAny _ X.A (do let _ ←comprehension (.ListComp elt [⟨tg,iter,ifs,0⟩] scope pos) scope X.env _ (newList []) false (eval iter X.env) (some (assign (.Name y py) X.env))) _ _ s
 refine wpAny_bind (wpAny_mono (wpAny_comprehension_free (use:=some (assign (.Name y py) X.env)) (Q:=fun _ s'=>SP X pins D .next s') rfl hs (kn (sc.cells I.ok)) sc.kind sc.names
  (aK (hi pins s σ H _ I h) fun v s1 h1=>aK h1 fun itv s2 h2=>?_)) (fun _ s' hq=>wpAny_pure (wpAny_pure hq)) fun _ _ e=>e)
 obtain⟨it,fp,tn,J,H2,e,I2,T,st2,f2,q⟩:=h2
 subst e
 refine qw (RR:=fun acc C=>compPost (model X.prog X.w) X.A X.xe (some (assign (.Name y py) X.env)) (fun _ s'=>SP X pins D .next s') acc C) (R:=fun E H'=>D.nx (σ.set i (some (.ref E))) H') sc hc hg ht he I2 T st2 f2 q ?_
 intro E C H' s' m I' hC hn hf hq
 show wpAny _ X.A (assign (.Name y py) X.env (.ref E)) _ _ _
 obtain⟨f0,f1,f2,f3,f4,f5⟩:=I2.jb (H':=H') hC hf
 refine wpAny_assign_Name (tH I' hN hi' (.inl hx) (v:=.ref E) (u:=.ref E) rfl (fun s3 I3 ⟨a,sb,ha⟩=>?_) (.inr hx))
 have SK:C≠a:=by
  rcases ha with z | z
  ·rw[z];exact f1
  ·exact(f4 y a z).symm
 refine⟨m,hn.sameBut sb SK,fun h' SM=>?_⟩
 exact⟨_,H',I3.turned (t':=s3.toks) (it:=C) (fun b o hb e=>(SM.2 b hb).trans e) f0 f1 f3 f4 f5,hq⟩
end
theorem fR {lo:Int} {n:Nat} {g:TG} {tt:TT} {te:TE} {D:Addr} {σ:St} {H:Hp} {R:Hp→Prop} (Pv:Nat→St→Hp→Prop) (h0:Pv 0 σ H)
  (hs:∀i σ H,i<n→Pv i σ H→g (.int (lo+i)) σ H fun σ2 H2=>tt σ2 H2 fun b H3=>if b=true then te σ2 H3 fun y H4=>∃ys,H4 D=some (.lst ys)∧ys.length<sizeLine∧Pv (i+1) σ2 (upd H4 D (.lst (ys++[y]))) else Pv (i+1) σ2 H3)
  (hd:∀σ H,Pv n σ H→R H):ko (qf lo n) g tt te D σ H R:=by
 refine⟨fun i m σ H=>m=n-i∧i≤n∧Pv i σ H,⟨n,by simp,Nat.zero_le _,h0⟩,?_⟩
 rintro i m σ H ⟨rfl,hi,p⟩
 by_cases hlt:i<n
 ·refine .inr ⟨hlt,Pv (i+1),fun σ' H' p'=>⟨n-(i+1),by omega,rfl,hlt,p'⟩,fun x H' y=>?_⟩
  obtain⟨e,y⟩:=y
  subst e y
  exact hs i σ _ hlt p
 ·have e:i=n:=by omega
  subst e
  exact .inl ⟨Nat.le_refl _,hd σ H p⟩
theorem dH {K:PySem.W.Frag} {a:Addr} {xs:List V} {g:TG} {tt:TT} {te:TE} {D:Addr} {σ:St} {H:Hp} {R:Hp→Prop} (Pv:Nat→St→Hp→Prop) (h0:Pv 0 σ H) (hl:∀i σ H,i≤xs.length→Pv i σ H→br K H a xs)
  (hs:∀i x σ H,xs[i]? =some x→Pv i σ H→g x σ H fun σ2 H2=>tt σ2 H2 fun b H3=>if b=true then te σ2 H3 fun y H4=>∃ys,H4 D=some (.lst ys)∧ys.length<sizeLine∧Pv (i+1) σ2 (upd H4 D (.lst (ys++[y]))) else Pv (i+1) σ2 H3)
  (hd:∀σ H,Pv xs.length σ H→R H):ko (vm K a) g tt te D σ H R:=by
 refine⟨fun i m σ H=>m=xs.length-i∧i≤xs.length∧Pv i σ H,⟨xs.length,by simp,Nat.zero_le _,h0⟩,?_⟩
 rintro i m σ H ⟨rfl,hi,p⟩
 have q:=hl i σ H hi p
 by_cases hlt:i<xs.length
 ·refine .inr ⟨⟨xs,xs[i],q,by simp[hlt]⟩,Pv (i+1),fun σ' H' p'=>⟨xs.length-(i+1),by omega,rfl,hlt,p'⟩,fun x H' y=>?_⟩
  obtain⟨e,y⟩:=y
  subst e
  exact hs i x σ _ (y xs q) p
 ·have e:i=xs.length:=by omega
  subst e
  exact .inl ⟨⟨xs,q,Nat.le_refl _⟩,hd σ H p⟩
theorem iu {K:PySem.W.Frag} {a:Addr} {xs:List V} {g:TG} {tt:TT} {te:TE} {D:Addr} {σ:St} {H:Hp} {R:Hp→Prop} (Pv:Nat→St→Hp→Prop) (h0:Pv 0 σ H) (hl:∀i σ H,i≤xs.length→Pv i σ H→bH K H a xs)
  (hs:∀i x σ H,xs[i]? =some x→Pv i σ H→g x σ H fun σ2 H2=>tt σ2 H2 fun b H3=>if b=true then te σ2 H3 fun y H4=>∃ys,H4 D=some (.lst ys)∧ys.length<sizeLine∧Pv (i+1) σ2 (upd H4 D (.lst (ys++[y]))) else Pv (i+1) σ2 H3)
  (hd:∀σ H,Pv xs.length σ H→R H):ko (vn K a) g tt te D σ H R:=by
 refine⟨fun i m σ H=>m=xs.length-i∧i≤xs.length∧Pv i σ H,⟨xs.length,by simp,Nat.zero_le _,h0⟩,?_⟩
 rintro i m σ H ⟨rfl,hi,p⟩
 have q:=hl i σ H hi p
 by_cases hlt:i<xs.length
 ·refine .inr ⟨⟨xs,xs[i],q,by simp[hlt]⟩,Pv (i+1),fun σ' H' p'=>⟨xs.length-(i+1),by omega,rfl,hlt,p'⟩,fun x H' y=>?_⟩
  obtain⟨e,y⟩:=y
  subst e
  exact hs i x σ _ (y xs q) p
 ·have e:i=xs.length:=by omega
  subst e
  exact .inl ⟨⟨xs,q,Nat.le_refl _⟩,hd σ H p⟩
section
variable {X:Cx}
def MN (i j:Int):Prop:=0<j∧j.natAbs.log2<9000
theorem pK:cG X (binaryOp .FloorDiv) (rI MN fun i j=>.int (i / j)):=AO fun i j _ _ _ _ _ hc q=>by
 obtain⟨h0,h1⟩:=hc
 refine floordiv_int (by omega) ?_ (.inl (PyProof.noPylong_of_log2 h1))
 rw[Int.fdiv_eq_ediv_of_nonneg _ (by omega)]
 exact q
theorem xB:dh X (.builtin "isinstance") (fun xs H Q=>∃(x:V) (t:Value) (T:String) (b:Bool),xs=[x,.ty T]∧gg X.K H x t∧PySem.W.kitOne X.K t (.type T)=some b∧Q (.bl b) H):=by
 intro pins s σ H xs us Q I r h
 obtain⟨x,t,T,b,rfl,ty,e,q⟩:=h
 obtain⟨u,w',rfl,rx,rT⟩:=vals2 r
 cases(show w'=Value.type T from rT)
 exact AW I rx ty e fun tk=>⟨.bl b,H,I.tok tk,rfl,q⟩
theorem IC {K:PySem.W.Frag}:PySem.W.kitOne K (.type "int") (.type "int")=some true:=by rfl
theorem IE {K:PySem.W.Frag}:PySem.W.kitOne K (.type "int") (.type "bool")=some false:=by rfl
theorem vH {K:PySem.W.Frag}:PySem.W.kitOne K (.type "list") (.type "list")=some true:=by rfl
theorem vI {K:PySem.W.Frag}:PySem.W.kitOne K (.type "tuple") (.type "tuple")=some true:=by rfl
theorem yl:cG X (binaryOp .Add) (fun x y H Q=>∃(a b:Addr) (ys:List V),x=.ref a∧y=.ref b∧bH X.K H a []∧bH X.K H b ys∧Q (.ref b) H):=by
 intro pins s σ H x y v u Q I rx ry h
 obtain⟨a,b,ys,rfl,rfl,ha,hb,q⟩:=h
 cases rx
 cases ry
 obtain⟨its,r1,p1,_⟩:=I.tuple ha
 obtain⟨its2,r2,p2,_⟩:=I.tuple hb
 cases r1
 obtain⟨⟨cls,dd,data,sl⟩,ho,hc,n,hd⟩:=id p1
 obtain⟨⟨cls2,dd2,data2,sl2⟩,ho2,hc2,n2,hd2⟩:=id p2
 simp only at hc hd hc2 hd2
 subst hc hd hc2 hd2
 exact concat_meets ⟨_,ho,rfl⟩ ⟨_,ho2,rfl⟩ noFill_tuple_add seq_tuple_add PySem.F.slot_tuple_add PySem.F.entry_tuple_add (PySem.F.args_tuple_add_2 _ _)
  (tuple_addW0 a b #[] its2.toArray n n2 dd dd2 sl sl2 rfl) ⟨ho,ho2,⟨.ref b,H,I,rfl,q⟩⟩
def Ft (K:PySem.W.Frag):R2:=fun x y H Q=>∃(a b:Addr) (xs ys:List V),x=.ref a∧y=.ref b∧bH K H a xs∧bH K H b ys∧ys≠[]∧xs.length+ys.length≤sizeLine∧
 (xs=[]→Q (.ref b) H)∧(xs≠[]→∀p,H p=none→Q (.ref p) (upd H p (.tup (xs++ys))))
theorem G_:cG X (binaryOp .Add) (Ft X.K):=by
 intro pins s σ H x y v u Q I rx ry h
 obtain⟨a,b,xs,ys,rfl,rfl,ha,hb,hy,hz,q1,q2⟩:=h
 by_cases hx:xs=[]
 ·subst hx
  exact yl pins s σ H _ _ v u Q I rx ry ⟨a,b,ys,rfl,rfl,ha,hb,q1 rfl⟩
 ·exact yh pins s σ H _ _ v u Q I rx ry ⟨a,b,xs,ys,rfl,rfl,ha,hb,hx,hz,fun z=>absurd z hy,fun _=>q2 hx⟩
end
def tS (scope esc:Scope) (N own aF:List Str) (bJ:List Nat):Bool:=
 scope.names.all (fun y=>y.2 != .cell)&&scope.kind == .function&&scope.names.all (fun y=>y.2 != .local||scope.names.lookup y.1 == some .local)
 &&scope.names.all (fun y=>y.2 != .free||(esc.names.lookup y.1 == some .cell||esc.names.lookup y.1 == some .free))
 &&bJ.length == aF.length&&(List.range bJ.length).all (fun i=>(bJ[i]?).bind (fun j=>N[j]?) == aF[i]?)
 &&aF.all (fun x=>scope.names.contains (x,NameKind.free)&&scope.names.lookup x == some .free)
theorem aI.mk' {X:Cx} {scope esc:Scope} {N own aF:List Str} {bJ:List Nat} (hs:X.env.scope=esc) (hN:X.N=N) (h:tS scope esc N own aF bJ=true):aI X scope own aF bJ:=by
 unfold tS at h
 simp only[Bool.and_eq_true,List.all_eq_true,bne_iff_ne,beq_iff_eq,Bool.or_eq_true,List.contains_iff_mem] at h
 obtain⟨⟨⟨⟨⟨⟨h1,h2⟩,h3⟩,h4⟩,h5⟩,h6⟩,h7⟩:=h
 refine⟨h1,h2,fun y hy hl=>?_,fun y hy hf=>?_,h5,fun i j e=>?_,fun x hx=>h7 x hx⟩
 ·rcases h3 y hy with z | z
  ·exact absurd hl z
  ·exact z
 ·rw[hs]
  rcases h4 y hy with z | z
  ·exact absurd hf z
  ·exact z
 ·have hi:i<bJ.length:=(List.getElem?_eq_some_iff.mp e).1
  have q:=h6 i (List.mem_range.mpr hi)
  rw[e] at q
  rw[hN]
  exact q
def KB (d:Addr) (H H':Hp):Prop:=∀b o,H b=some o→b≠d→H' b=some o
theorem KB.write {d:Addr} {H:Hp} {o:HO}:KB d H (upd H d o):=fun b o h n=>by rw[ak n];exact h
theorem Same.new {H:Hp} {p:Addr} {o:HO} (h:H p=none):Same H (upd H p o):=fun b u e=>by rw[ak (aq e h)];exact e
theorem Same.kbn {d:Addr} {H H1 H2:Hp} (s:Same H H1) (h:H d=none) (k:KB d H1 H2):Same H H2:=fun b o e=>k b o (s b o e) (aq e h)
def a_ (H H':Hp):Prop:=∀b xs,H b=some (.tup xs)→H' b=some (.tup xs)
theorem a_.trans {H H1 H2:Hp} (a:a_ H H1) (b:a_ H1 H2):a_ H H2:=fun c o h=>b c o (a c o h)
theorem Same.kt {H H':Hp} (s:Same H H'):a_ H H':=fun b xs h=>s b _ h
theorem a_.lst {H:Hp} {d:Addr} {xs:List V} {o:HO} (h:H d=some (.lst xs)):a_ H (upd H d o):=fun b ys e=>by
 rw[ak (kg e h (fun z=>nomatch z))];exact e
def bX (H:Hp) (ps:List Addr) (ls:List (List Int)):Prop:=Paired (fun p (l:List Int)=>H p=some (.tup (l.map V.int))) ps ls
theorem bX.keep {H H':Hp} {ps:List Addr} {ls:List (List Int)} (t:bX H ps ls) (k:a_ H H'):bX H' ps ls:=Paired.pG t fun _ _ h=>k _ _ h
theorem bX.get {H:Hp}:∀{ps:List Addr} {ls:List (List Int)} {i:Nat} {p:Addr},bX H ps ls→ps[i]? =some p→∃l,ls[i]? =some l∧H p=some (.tup (l.map V.int))
 | _,_,_,_,.nil,e=>by simp at e
 | _,_,0,_,.cons r _,e=>by simp at e;subst e;exact⟨_,rfl,r⟩
 | _,_,i+1,p,.cons _ t,e=>by
  obtain⟨u,h1,h2⟩:=bX.get (i:=i) (p:=p) t (by simpa using e)
  exact⟨u,by simpa using h1,h2⟩
theorem bu {α β:Type} {F:α→β→Prop}:∀{xs ys:List α} {us ws:List β},Paired F xs us→Paired F ys ws→Paired F (xs++ys) (us++ws)
 | _,_,_,_,.nil,s=>s
 | _,_,_,_,.cons r t,s=>.cons r (bu t s)
end L2
namespace L2
open PySem
theorem bg:bootBuiltins "len"=some (.builtin "len"):=by decide+kernel
theorem Be:bootBuiltins "abs"=some (.builtin "abs"):=by decide+kernel
theorem IG:bootBuiltins "min"=some (.builtin "min"):=by decide+kernel
theorem b_:bootBuiltins "isinstance"=some (.builtin "isinstance"):=by decide+kernel
theorem nX:bootBuiltins "sorted"=some (.builtin "sorted"):=by decide+kernel
theorem IH:bootBuiltins "all"=some (.builtin "all"):=by decide+kernel
theorem vJ:bootBuiltins "any"=some (.builtin "any"):=by decide+kernel
theorem oT:bootBuiltins "list"=some (.type "list"):=by decide+kernel
theorem bB:bootBuiltins "tuple"=some (.type "tuple"):=by decide+kernel
theorem vK:bootBuiltins "int"=some (.type "int"):=by decide+kernel
theorem rC:bootBuiltins "bool"=some (.type "bool"):=by decide+kernel
theorem II:bootBuiltins "set"=some (.type "set"):=by decide+kernel
end L2
namespace L2
open PySem PySem.Spec PyProof.Rows
def Pt (K:PySem.W.Frag):List V→Hp→VK→Prop:=fun xs H Q=>∃x n,xs=[x]∧Ig K x H n∧Q (.int n) H
def Pu (K:PySem.W.Frag):List V→Hp→VK→Prop:=fun xs H Q=>∃(x:V) (t:Value) (T:String) (b:Bool),xs=[x,.ty T]∧gg K H x t∧PySem.W.kitOne K t (.type T)=some b∧Q (.bl b) H
section
variable {X:Cx}
theorem aM (K:PySem.W.Frag) (hK:X.K=K:=by rfl):dh X (.builtin "len") (Pt K):=by subst hK;exact Dz
theorem dz (K:PySem.W.Frag) (hK:X.K=K:=by rfl):dh X (.builtin "isinstance") (Pu K):=by subst hK;exact xB
theorem bC (K:PySem.W.Frag) (hK:X.K=K:=by rfl):yj X (Ik K):=by subst hK;exact GQ
theorem aO (K:PySem.W.Frag) (hK:X.K=K:=by rfl):yj X (Il K):=by subst hK;exact Im
theorem vL (K:PySem.W.Frag) (hK:X.K=K:=by rfl):yg X (Ip K):=by subst hK;exact GR
theorem vM (K:PySem.W.Frag) (hK:X.K=K:=by rfl):cG X (binaryOp .Add) (Ft K):=by subst hK;exact G_
theorem qx (K:PySem.W.Frag) (hK:X.K=K:=by rfl):cG X (compareOp .In) (Fj K false):=by subst hK;exact A0
theorem tT (K:PySem.W.Frag) (hK:X.K=K:=by rfl):cG X (compareOp .NotIn) (Fj K true):=by subst hK;exact vw
def IJ (_ j:Int):Prop:=0<j
theorem cpos {i j:Int} (h:0<j):IJ i j:=h
theorem gL:cG X (binaryOp .Mod) (rI IJ fun i j=>.int (i % j)):=Ia
end
inductive Dt where
 | non | bl (b:Bool) | int (i:Int) | str (x:Str) | tup (xs:List Dt) | lst (xs:List Dt)
mutual
def Dt.beq:Dt→Dt→Bool
 | .non,.non=>true
 | .bl a,.bl b=>a == b
 | .bl a,.int b=>(if a then 1 else 0) == b
 | .int a,.bl b=>a == (if b then 1 else 0)
 | .int a,.int b=>a == b
 | .str a,.str b=>a == b
 | .tup xs,.tup ys=>Dt.eX xs ys
 | .lst xs,.lst ys=>Dt.eX xs ys
 | _,_=>false
def Dt.eX:List Dt→List Dt→Bool
 | [],[]=>true
 | x::xs,y::ys=>x.beq y&&Dt.eX xs ys
 | _,_=>false
end
mutual
def Dt.dep:Dt→Nat
 | .tup xs=>Dt.deps xs+1
 | .lst xs=>Dt.deps xs+1
 | _=>0
def Dt.deps:List Dt→Nat
 | []=>0
 | x::xs=>max x.dep (Dt.deps xs)
end
mutual
def aE (K:PySem.W.Frag) (H:Hp):V→Dt→Prop
 | x,.non=>x=.non
 | x,.bl b=>x=.bl b
 | x,.int i=>x=.int i
 | x,.str z=>x=.str z
 | x,.tup ds=>∃a xs,x=.ref a∧bH K H a xs∧aW K H xs ds
 | x,.lst ds=>∃a xs,x=.ref a∧br K H a xs∧aW K H xs ds
def aW (K:PySem.W.Frag) (H:Hp):List V→List Dt→Prop
 | [],[]=>True
 | x::xs,d::ds=>aE K H x d∧aW K H xs ds
 | _,_=>False
end
theorem Dt.beq_refl (d:Dt):d.beq d=true:=by
 induction d using Dt.rec (motive_2:=fun xs=>Dt.eX xs xs=true) with
 | non=>simp[Dt.beq]
 | bl b=>simp[Dt.beq]
 | int b=>simp[Dt.beq]
 | str b=>simp[Dt.beq]
 | tup xs ih=>simp[Dt.beq,ih]
 | lst xs ih=>simp[Dt.beq,ih]
 | nil=>simp[Dt.eX]
 | cons x xs h1 h2=>simp[Dt.eX,h1,h2]
theorem aW.length {K:PySem.W.Frag} {H:Hp}:∀{xs:List V} {ds:List Dt},aW K H xs ds→xs.length=ds.length
 | [],[],_=>rfl
 | [],_::_,h=>by simp[aW] at h
 | _::_,[],h=>by simp[aW] at h
 | x::xs,d::ds,h=>by
  rw[aW] at h
  rw[List.length_cons,List.length_cons,aW.length h.2]
theorem aW.get {K:PySem.W.Frag} {H:Hp}:∀{xs:List V} {ds:List Dt} {i:Nat} {x:V},aW K H xs ds→xs[i]? =some x→∃d,ds[i]? =some d∧aE K H x d
 | [],_,_,_,_,e=>by simp at e
 | _::_,[],_,_,h,_=>by simp[aW] at h
 | x::xs,d::ds,0,y,h,e=>by
  rw[aW] at h
  simp at e;subst e
  exact⟨d,rfl,h.1⟩
 | x::xs,d::ds,i+1,y,h,e=>by
  rw[aW] at h
  obtain⟨d',h1,h2⟩:=aW.get (i:=i) (x:=y) h.2 (by simpa using e)
  exact⟨d',by simpa using h1,h2⟩
theorem Dt.jW {d:Dt}:∀{ds:List Dt},d∈ds→d.dep≤Dt.deps ds
 | [],h=>by cases h
 | x::xs,h=>by
  rw[Dt.deps]
  rcases List.mem_cons.mp h with rfl | h
  ·exact Nat.le_max_left ..
  ·exact Nat.le_trans (Dt.jW h) (Nat.le_max_right ..)
def vb (xs ys:List Dt) (j:Nat):Bool:=match xs[j]?,ys[j]? with
 | some x,some y=>x.beq y
 | _,_=>false
theorem rD (n:Nat) (e:Nat→Bool):(List.range (n+1)).all e=(e 0&&(List.range n).all fun j=>e (j+1)):=by
 rw[List.range_succ_eq_map,List.all_cons,List.all_map];rfl
theorem jX:∀(xs ys:List Dt),xs.length=ys.length→(List.range xs.length).all (vb xs ys)=Dt.eX xs ys
 | [],[],_=>by simp[Dt.eX]
 | x::xs,y::ys,h=>by
  have h':xs.length=ys.length:=by simpa using h
  rw[List.length_cons,rD,Dt.eX,←jX xs ys h']
  rfl
theorem jY:∀(xs ys:List Dt),xs.length≠ys.length→Dt.eX xs ys=false
 | [],[],h=>absurd rfl h
 | [],_::_,_=>by simp[Dt.eX]
 | _::_,[],_=>by simp[Dt.eX]
 | x::xs,y::ys,h=>by
  have h':xs.length≠ys.length:=fun z=>h (by simp[z])
  rw[Dt.eX,jY xs ys h',Bool.and_false]
section
variable {X:Cx} {pins:List (Addr×Obj)} {σ:St} {H:Hp} {s:Shared}
theorem lM {a:Addr} {xs ys:List V} (I:Inv X pins σ H s) (h1:br X.K H a xs) (h2:bH X.K H a ys):False:=by
 obtain⟨its,_,p,_⟩:=I.list h1
 obtain⟨its2,_,q,_⟩:=I.tuple h2
 exact SeqAt.ne_of_list_tuple p.isList (show s.heap.IsTuple a its2.toArray from q) rfl
theorem rE (I:Inv X pins σ H s) (d:Dt):∀(x:V) (d':Dt),aE X.K H x d→aE X.K H x d'→d=d':=by
 induction d using Dt.rec (motive_2:=fun ds=>∀(xs:List V) (ds':List Dt),aW X.K H xs ds→aW X.K H xs ds'→ds=ds') with
 | non=>intro x d' h h';cases d'<;>simp_all [aE]
 | bl b=>intro x d' h h';cases d'<;>simp_all [aE]
 | int b=>intro x d' h h';cases d'<;>simp_all [aE]
 | str b=>intro x d' h h';cases d'<;>simp_all [aE]
 | tup ds ih=>
  intro x d' h h'
  rw[aE] at h
  obtain⟨a,xs,rfl,hq,hd⟩:=h
  cases d' with
  | tup ds'=>
   rw[aE] at h'
   obtain⟨a',xs',e,hq',hd'⟩:=h'
   cases e
   rw[I.iX hq' hq] at hd'
   rw[ih xs ds' hd hd']
  | lst ds'=>
   rw[aE] at h'
   obtain⟨a',xs',e,hq',hd'⟩:=h'
   cases e
   exact(lM I hq' hq).elim
  | _=>simp[aE] at h'
 | lst ds ih=>
  intro x d' h h'
  rw[aE] at h
  obtain⟨a,xs,rfl,hq,hd⟩:=h
  cases d' with
  | lst ds'=>
   rw[aE] at h'
   obtain⟨a',xs',e,hq',hd'⟩:=h'
   cases e
   rw[I.jP hq' hq] at hd'
   rw[ih xs ds' hd hd']
  | tup ds'=>
   rw[aE] at h'
   obtain⟨a',xs',e,hq',hd'⟩:=h'
   cases e
   exact(lM I hq hq').elim
  | _=>simp[aE] at h'
 | nil=>
  rename_i xs ds' h h'
  cases xs with
  | nil=>cases ds' with
   | nil=>rfl
   | cons _ _=>simp[aW] at h'
  | cons _ _=>simp[aW] at h
 | cons d ds h1 h2=>
  rename_i xs ds' h h'
  cases xs with
  | nil=>simp[aW] at h
  | cons x xs=>cases ds' with
   | nil=>simp[aW] at h'
   | cons d' ds'=>
    rw[aW] at h h'
    rw[h1 x d' h.1 h'.1,h2 xs ds' h.2 h'.2]
theorem mF {A:Around} {xs ys:List V} {ds ds':List Dt} {its its2:List Value} (r1:Vals xs its) (r2:Vals ys its2) (h1:aW X.K H xs ds) (h2:aW X.K H ys ds')
  (ih:∀d∈ds,∀(d':Dt) (x y:V) (u v:Value),aE X.K H x d→aE X.K H y d'→RelV x u→RelV y v→SeqAt.EqAt A s u v (d.beq d')):
  ∀j (a:j<its.toArray.size) (b:j<its2.toArray.size),SeqAt.EqAt A s its.toArray[j] its2.toArray[j] (vb ds ds' j):=fun j a b=>by
 have a':j<its.length:=by simpa using a
 have b':j<its2.length:=by simpa using b
 have la:=r1.length
 have lb:=r2.length
 have ex:xs[j]? =some (xs[j]'(by omega)):=List.getElem?_eq_getElem (by omega)
 have ey:ys[j]? =some (ys[j]'(by omega)):=List.getElem?_eq_getElem (by omega)
 obtain⟨u,eu,ru⟩:=r1.get ex
 obtain⟨v,ev,rv⟩:=r2.get ey
 obtain⟨d,ed,hd⟩:=h1.get ex
 obtain⟨d',ed',hd'⟩:=h2.get ey
 have e1:its.toArray[j]=u:=by
  rw[List.getElem?_eq_getElem a'] at eu
  simpa using Option.some.inj eu
 have e2:its2.toArray[j]=v:=by
  rw[List.getElem?_eq_getElem b'] at ev
  simpa using Option.some.inj ev
 rw[e1,e2]
 have e3:vb ds ds' j=d.beq d':=by unfold vb;rw[ed,ed']
 rw[e3]
 exact ih d (List.mem_of_getElem? ed) d' _ _ u v hd hd' ru rv
theorem DI {A:Around} {a b:Addr} {xs ys:List V} {ds ds':List Dt} (I:Inv X pins σ H s) (q1:br X.K H a xs) (q2:br X.K H b ys) (h1:aW X.K H xs ds) (h2:aW X.K H ys ds') (hu:A.units<cLine)
  (ih:∀d∈ds,∀(d':Dt) (x y:V) (u v:Value),aE X.K H x d→aE X.K H y d'→RelV x u→RelV y v→SeqAt.EqAt A.in1 s u v (d.beq d')):SeqAt.RcAt A s (.ref a) (.ref b) (Dt.eX ds ds'):=by
 obtain⟨its,r1,p1,_⟩:=I.list q1
 obtain⟨its2,r2,p2,_⟩:=I.list q2
 have l1:=r1.length
 have l2:=r2.length
 have l3:=h1.length
 have l4:=h2.length
 by_cases hl:ds.length=ds'.length
 ·have:=SeqAt.RcAt.lists p1.isList p2.isList (by simp;omega) hu (mF r1 r2 h1 h2 ih)
  rw[show its.toArray.size=ds.length by simp;omega,jX ds ds' hl] at this
  exact this
 ·rw[jY ds ds' hl]
  exact SeqAt.RcAt.lists_lengths p1.isList p2.isList (by simp;omega) hu
theorem Bf {A:Around} {a b:Addr} {xs ys:List V} {ds ds':List Dt} (I:Inv X pins σ H s) (q1:bH X.K H a xs) (q2:bH X.K H b ys) (h1:aW X.K H xs ds) (h2:aW X.K H ys ds') (hu:A.units<cLine)
  (ih:∀d∈ds,∀(d':Dt) (x y:V) (u v:Value),aE X.K H x d→aE X.K H y d'→RelV x u→RelV y v→SeqAt.EqAt A.in1 s u v (d.beq d')):SeqAt.RcAt A s (.ref a) (.ref b) (Dt.eX ds ds'):=by
 obtain⟨its,r1,p1,_⟩:=I.tuple q1
 obtain⟨its2,r2,p2,_⟩:=I.tuple q2
 have l1:=r1.length
 have l2:=r2.length
 have l3:=h1.length
 have l4:=h2.length
 have:=SeqAt.RcAt.tuples (show s.heap.IsTuple a its.toArray from p1) (show s.heap.IsTuple b its2.toArray from p2) hu (mF r1 r2 h1 h2 ih)
 by_cases hl:ds.length=ds'.length
 ·rw[show min its.toArray.size its2.toArray.size=ds.length by simp;omega,jX ds ds' hl,show(its.toArray.size == its2.toArray.size)=true by simp;omega,Bool.and_true] at this
  exact this
 ·rw[show(its.toArray.size == its2.toArray.size)=false by simp;omega,Bool.and_false] at this
  rw[jY ds ds' hl]
  exact this
theorem vN (I:Inv X pins σ H s) (d:Dt):∀(A:Around) (d':Dt) (x y:V) (u v:Value),A.units+d.dep<cLine→aE X.K H x d→aE X.K H y d'→RelV x u→RelV y v→SeqAt.EqAt A s u v (d.beq d'):=by
 have flat:∀{A:Around} {d d':Dt} {x y:V} {u v:Value},fQ x=true→fQ y=true→jq x y=d.beq d'→RelV x u→RelV y v→SeqAt.EqAt A s u v (d.beq d'):=fun fx fy e ru rv=>e▸AZ ru rv fx fy
 have ym:∀{a:Addr} {xs:List V},br X.K H a xs→∃its:Array Value,s.heap.IsList a its:=fun q=>let ⟨its,_,p,_⟩:=I.list q;⟨_,p.isList⟩
 have yn:∀{a:Addr} {xs:List V},bH X.K H a xs→∃its:Array Value,s.heap.IsTuple a its:=fun q=>let ⟨its,_,p,_⟩:=I.tuple q;⟨_,p⟩
 have refs:∀{A:Around} {a b:Addr} {d d':Dt},aE X.K H (.ref a) d→aE X.K H (.ref b) d'→SeqAt.RcAt A s (.ref a) (.ref b) (d.beq d')→SeqAt.EqAt A s (.ref a) (.ref b) (d.beq d'):=by
  intro A a b d d' h h' r
  by_cases e:a=b
  ·subst e
   rw[←rE I d _ _ h h',Dt.beq_refl]
   exact SeqAt.EqAt.same _
  ·exact SeqAt.EqAt.of_refs e r
 induction d using Dt.rec (motive_2:=fun ds=>∀d∈ds,∀(A:Around) (d':Dt) (x y:V) (u v:Value),A.units+d.dep<cLine→aE X.K H x d→aE X.K H y d'→RelV x u→RelV y v→SeqAt.EqAt A s u v (d.beq d')) with
 | non=>
  intro A d' x y u v hu h h' ru rv
  rw[aE] at h
  subst h
  have hu':A.units<cLine:=by omega
  cases d' with
  | tup ds'=>
   rw[aE] at h';obtain⟨b,ys,rfl,q,_⟩:=h'
   cases ru;cases rv
   obtain⟨its,p⟩:=yn q
   exact SeqAt.EqAt.none_tuple p hu'
  | lst ds'=>
   rw[aE] at h';obtain⟨b,ys,rfl,q,_⟩:=h'
   cases ru;cases rv
   obtain⟨its,p⟩:=ym q
   exact SeqAt.EqAt.none_list p hu'
  | _=>rw[aE] at h';subst h';exact flat rfl rfl (by simp[Dt.beq,jq]) ru rv
 | bl b0=>
  intro A d' x y u v hu h h' ru rv
  rw[aE] at h
  subst h
  have hu':A.units<cLine:=by omega
  cases d' with
  | tup ds'=>
   rw[aE] at h';obtain⟨b,ys,rfl,q,_⟩:=h'
   cases ru;cases rv
   obtain⟨its,p⟩:=yn q
   exact SeqAt.EqAt.bool_tuple _ p hu'
  | lst ds'=>
   rw[aE] at h';obtain⟨b,ys,rfl,q,_⟩:=h'
   cases ru;cases rv
   obtain⟨its,p⟩:=ym q
   exact SeqAt.EqAt.bool_list _ p hu'
  | _=>rw[aE] at h';subst h';exact flat rfl rfl (by simp[Dt.beq,jq]) ru rv
 | int i0=>
  intro A d' x y u v hu h h' ru rv
  rw[aE] at h
  subst h
  have hu':A.units<cLine:=by omega
  cases d' with
  | tup ds'=>
   rw[aE] at h';obtain⟨b,ys,rfl,q,_⟩:=h'
   obtain⟨t,rfl⟩:=ru;cases rv
   obtain⟨its,p⟩:=yn q
   exact SeqAt.EqAt.int_tuple _ _ p hu'
  | lst ds'=>
   rw[aE] at h';obtain⟨b,ys,rfl,q,_⟩:=h'
   obtain⟨t,rfl⟩:=ru;cases rv
   obtain⟨its,p⟩:=ym q
   exact SeqAt.EqAt.int_list _ _ p hu'
  | _=>rw[aE] at h';subst h';exact flat rfl rfl (by simp[Dt.beq,jq]) ru rv
 | str z0=>
  intro A d' x y u v hu h h' ru rv
  rw[aE] at h
  subst h
  have hu':A.units<cLine:=by omega
  cases d' with
  | tup ds'=>
   rw[aE] at h';obtain⟨b,ys,rfl,q,_⟩:=h'
   obtain⟨t,rfl⟩:=ru;cases rv
   obtain⟨its,p⟩:=yn q
   exact SeqAt.EqAt.str_tuple _ _ p hu'
  | lst ds'=>
   rw[aE] at h';obtain⟨b,ys,rfl,q,_⟩:=h'
   obtain⟨t,rfl⟩:=ru;cases rv
   obtain⟨its,p⟩:=ym q
   exact SeqAt.EqAt.str_list _ _ p hu'
  | _=>rw[aE] at h';subst h';exact flat rfl rfl (by simp[Dt.beq,jq]) ru rv
 | tup ds ih=>
  intro A d' x y u v hu h h' ru rv
  have hD:=h
  have hD':=h'
  rw[aE] at h
  obtain⟨a,xs,rfl,q,hd⟩:=h
  cases ru
  obtain⟨its,p⟩:=yn q
  have hu':A.units<cLine:=by omega
  cases d' with
  | non=>rw[aE] at h';subst h';cases rv;exact SeqAt.EqAt.tuple_none p hu'
  | bl b=>rw[aE] at h';subst h';cases rv;exact SeqAt.EqAt.tuple_bool _ p hu'
  | int b=>rw[aE] at h';subst h';obtain⟨t,rfl⟩:=rv;exact SeqAt.EqAt.tuple_int _ _ p hu'
  | str b=>rw[aE] at h';subst h';obtain⟨t,rfl⟩:=rv;exact SeqAt.EqAt.tuple_str _ _ p hu'
  | lst ds'=>
   rw[aE] at h';obtain⟨b,ys,rfl,q',_⟩:=h'
   cases rv
   obtain⟨its2,p2⟩:=ym q'
   exact SeqAt.EqAt.tuple_list p p2 hu'
  | tup ds'=>
   rw[aE] at h';obtain⟨b,ys,rfl,q',hd'⟩:=h'
   cases rv
   refine refs hD hD' ?_
   have:=Bf (A:=A) I q q' hd hd' hu' fun d hm d' x y u v h1 h2 r1 r2=>ih d hm A.in1 d' x y u v (by
    have:=Dt.jW hm
    rw[Dt.dep] at hu
    show A.units+1+d.dep<cLine
    omega) h1 h2 r1 r2
   simpa[Dt.beq] using this
 | lst ds ih=>
  intro A d' x y u v hu h h' ru rv
  have hD:=h
  have hD':=h'
  rw[aE] at h
  obtain⟨a,xs,rfl,q,hd⟩:=h
  cases ru
  obtain⟨its,p⟩:=ym q
  have hu':A.units<cLine:=by omega
  cases d' with
  | non=>rw[aE] at h';subst h';cases rv;exact SeqAt.EqAt.list_none p hu'
  | bl b=>rw[aE] at h';subst h';cases rv;exact SeqAt.EqAt.list_bool _ p hu'
  | int b=>rw[aE] at h';subst h';obtain⟨t,rfl⟩:=rv;exact SeqAt.EqAt.list_int _ _ p hu'
  | str b=>rw[aE] at h';subst h';obtain⟨t,rfl⟩:=rv;exact SeqAt.EqAt.list_str _ _ p hu'
  | tup ds'=>
   rw[aE] at h';obtain⟨b,ys,rfl,q',_⟩:=h'
   cases rv
   obtain⟨its2,p2⟩:=yn q'
   exact SeqAt.EqAt.list_tuple p p2 hu'
  | lst ds'=>
   rw[aE] at h';obtain⟨b,ys,rfl,q',hd'⟩:=h'
   cases rv
   refine refs hD hD' ?_
   have:=DI (A:=A) I q q' hd hd' hu' fun d hm d' x y u v h1 h2 r1 r2=>ih d hm A.in1 d' x y u v (by
    have:=Dt.jW hm
    rw[Dt.dep] at hu
    show A.units+1+d.dep<cLine
    omega) h1 h2 r1 r2
   simpa[Dt.beq] using this
 | nil=>
  rename_i d hd A d' x y u v a1 a2 a3 a4 a5
  cases hd
 | cons d ds h1 h2=>
  rename_i d0 hd A d' x y u v a1 a2 a3 a4 a5
  rcases List.mem_cons.mp hd with e | hd
  ·subst e;exact h1 A d' x y u v a1 a2 a3 a4 a5
  ·exact h2 d0 hd A d' x y u v a1 a2 a3 a4 a5
def Dt.IK:Dt→Bool
 | .tup _=>true
 | .lst _=>true
 | _=>false
def Pw (K:PySem.W.Frag) (neg:Bool):R2:=fun x y H Q=>∃d d':Dt,aE K H x d∧aE K H y d'∧d.IK=true∧d'.IK=true∧d.dep≤40∧Q (.bl (if neg then !d.beq d' else d.beq d')) H
theorem IL (K:PySem.W.Frag) (hu:X.A.units+64<cLine) (hK:X.K=K:=by rfl):cG X (compareOp .NotEq) (fun x y H Q=>Pw K true x y H Q∧∃d d':Dt,aE K H x d∧aE K H y d'∧((∃ds ds',d=.tup ds∧d'=.tup ds')∨∃ds ds',d=.lst ds∧d'=.lst ds')):=by
 subst hK
 intro pins s σ H x y v u Q I rx ry h
 obtain⟨⟨d,d',h,h',sq,WG,hd,q⟩,e,e',g,g',hk⟩:=h
 have e1:=rE I d x e h g
 have e2:=rE I d' y e' h' g'
 subst e1 e2
 have hA:∀e:Dt,e.dep≤40→X.A.in1.units+e.dep<cLine:=fun e he=>by show X.A.units+1+e.dep<cLine;omega
 have hu':X.A.units<cLine:=by omega
 rcases hk with⟨ds,ds',rfl,rfl⟩ | ⟨ds,ds',rfl,rfl⟩
 ·rw[aE] at h h'
  obtain⟨a,xs,rfl,q1,h1⟩:=h
  obtain⟨b,ys,rfl,q2,h2⟩:=h'
  cases rx
  cases ry
  have ih:∀d∈ds,∀(d':Dt) (x y:V) (u v:Value),aE X.K H x d→aE X.K H y d'→RelV x u→RelV y v→SeqAt.EqAt X.A.in1 s u v (d.beq d'):=fun d hm d' x y u v h1 h2 r1 r2=>
   vN I d X.A.in1 d' x y u v (hA d (by have:=Dt.jW hm;rw[Dt.dep] at hd;omega)) h1 h2 r1 r2
  obtain⟨its,r1,p1,_⟩:=I.tuple q1
  obtain⟨its2,r2,p2,_⟩:=I.tuple q2
  have l1:=r1.length
  have l2:=r2.length
  have l3:=h1.length
  have l4:=h2.length
  have z:=SeqAt.RcNeAt.tuples (show s.heap.IsTuple a its.toArray from p1) (show s.heap.IsTuple b its2.toArray from p2) hu' (mF r1 r2 h1 h2 ih)
  have fin:SeqAt.RcNeAt X.A s (.ref a) (.ref b) (!Dt.eX ds ds'):=by
   by_cases hl:ds.length=ds'.length
   ·rw[show min its.toArray.size its2.toArray.size=ds.length by simp;omega,jX ds ds' hl,show(its.toArray.size == its2.toArray.size)=true by simp;omega,Bool.and_true] at z
    exact z
   ·rw[show(its.toArray.size == its2.toArray.size)=false by simp;omega,Bool.and_false] at z
    rw[jY ds ds' hl]
    exact z
  exact fin _ _ _ _ ⟨.bl _,H,I,rfl,by simpa[Dt.beq] using q⟩
 ·rw[aE] at h h'
  obtain⟨a,xs,rfl,q1,h1⟩:=h
  obtain⟨b,ys,rfl,q2,h2⟩:=h'
  cases rx
  cases ry
  have ih:∀d∈ds,∀(d':Dt) (x y:V) (u v:Value),aE X.K H x d→aE X.K H y d'→RelV x u→RelV y v→SeqAt.EqAt X.A.in1 s u v (d.beq d'):=fun d hm d' x y u v h1 h2 r1 r2=>
   vN I d X.A.in1 d' x y u v (hA d (by have:=Dt.jW hm;rw[Dt.dep] at hd;omega)) h1 h2 r1 r2
  obtain⟨its,r1,p1,_⟩:=I.list q1
  obtain⟨its2,r2,p2,_⟩:=I.list q2
  have l1:=r1.length
  have l2:=r2.length
  have l3:=h1.length
  have l4:=h2.length
  have fin:SeqAt.RcNeAt X.A s (.ref a) (.ref b) (!Dt.eX ds ds'):=by
   by_cases hl:ds.length=ds'.length
   ·have z:=SeqAt.RcNeAt.lists p1.isList p2.isList (by simp;omega) hu' (mF r1 r2 h1 h2 ih)
    rw[show its.toArray.size=ds.length by simp;omega,jX ds ds' hl] at z
    exact z
   ·rw[jY ds ds' hl]
    exact SeqAt.RcNeAt.lists_lengths p1.isList p2.isList (by simp;omega) hu'
  exact fin _ _ _ _ ⟨.bl _,H,I,rfl,by simpa[Dt.beq] using q⟩
end
theorem nZ {K:PySem.W.Frag} {H:Hp}:∀(ns:List Int),aW K H (ns.map V.int) (ns.map Dt.int)
 | []=>by simp[aW]
 | n::ns=>by rw[List.map_cons,List.map_cons,aW];exact⟨by rw[aE],nZ ns⟩
theorem tU:∀(ns:List Int),Dt.deps (ns.map Dt.int)=0
 | []=>by simp[Dt.deps]
 | n::ns=>by rw[List.map_cons,Dt.deps,tU ns];simp[Dt.dep]
section
variable {X:Cx}
def MO (K:PySem.W.Frag):List V→Hp→VK→Prop:=fun xs H Q=>∃(p:Addr) (ys:List V),xs=[.ref p]∧(br K H p ys∨bH K H p ys)∧∀l,H l=none→Q (.ref l) (upd H l (.lst ys))
theorem zx (K:PySem.W.Frag) (hK:X.K=K:=by rfl):dh X (.type "list") (MO K):=by subst hK;exact vy
def IM (K:PySem.W.Frag):List V→Hp→VK→Prop:=fun xs H Q=>∃(p:Addr) (ys:List V),xs=[.ref p]∧((br K H p ys∧∀l,H l=none→Q (.ref l) (upd H l (.tup ys)))∨(bH K H p ys∧Q (.ref p) H))
theorem aX (K:PySem.W.Frag) (hK:X.K=K:=by rfl):dh X (.type "tuple") (IM K):=by subst hK;exact uI
end
end L2
namespace L2
open PySem
theorem rF {ns:List Int} {i:Nat} {x:V} (h:(ns.map V.int)[i]? =some x):∃f,x=.int f∧ns[i]? =some f:=by
 rw[List.getElem?_map] at h
 cases e:ns[i]? with
 | none=>rw[e] at h;cases h
 | some f=>rw[e] at h;exact⟨f,(Option.some.inj h).symm,rfl⟩
end L2
namespace L2
open PySem PySem.Spec PyProof.Rows
theorem qy {ys:List Str}:∀{us:List Value},Vals (ys.map V.str) us→StrsAre us ys:=by
 induction ys with
 | nil=>intro us r;cases r;exact .nil
 | cons y ys ih=>
  intro us r
  rw[List.map_cons] at r
  cases r with
  | cons a b=>
   obtain⟨t,rfl⟩:=a
   exact .cons y t (ih b)
theorem tV:∀{us:List Value} {ys:List Str},StrsAre us ys→Vals (ys.map V.str) us
 | _,_,.nil=>.nil
 | _,_,.cons y t r=>.cons ⟨t,rfl⟩ (tV r)
theorem DJ (sep:Str) (ys:List Str) (h:(ys.map (·.length)).sum+ys.length*sep.length≤16777216):(Txt.join sep ys).length≤sizeLine:=by
 have hok:=joinOk_of h
 unfold JoinOk at hok
 rw[Bool.not_eq_true'] at hok
 have e:ys=(ys.map fun y=>(y,(0:Tok))).map (·.1):=by rw[List.map_map];exact(List.map_id ys).symm
 rw[e] at hok ⊢
 exact joinFit_length hok
section
variable {X:Cx}
def rJoin (K:PySem.W.Frag):V→List V→Hp→VK→Prop:=fun x vs H Q=>∃(sep:Str) (a:Addr) (ys:List Str),x=.str sep∧vs=[.ref a]∧br K H a (ys.map V.str)∧(ys.map (·.length)).sum+ys.length*sep.length≤16777216∧∀z:Str,z.length≤sizeLine→z=Txt.join sep ys→Q (.str z) H
theorem DK (K:PySem.W.Frag) (hK:X.K=K:=by rfl):vz X "str.join" (rJoin K):=by
 subst hK
 intro pins s σ H x vs v us Q I rx rv h
 obtain⟨sep,a,ys,rfl,rfl,hq,hz,q⟩:=h
 obtain⟨t,rfl⟩:=rx
 obtain⟨u,rfl,ru⟩:=rv.one
 cases ru
 obtain⟨its,r,p,_⟩:=I.list hq
 exact join_list p.isList (show StrsAre its.toArray.toList ys from qy r) hz fun t' k=>⟨.str _,H,I.tok k,⟨t',rfl⟩,q _ (DJ sep ys hz) rfl⟩
def IP (K:PySem.W.Frag):List V→Hp→VK→Prop:=fun xs H Q=>∃(a:Addr) (ss:List Str),xs=[.ref a]∧br K H a (ss.map V.str)∧ss.length<64∧
 ∀(p:Addr) (ss':List Str),H p=none→ss'.Perm ss→PyProof.Rows.sortedS ss'=true→Q (.ref p) (upd H p (.lst (ss'.map V.str)))
theorem xC (K:PySem.W.Frag) (hK:X.K=K:=by rfl):dh X (.builtin "sorted") (IP K):=by
 subst hK
 intro pins s σ H xs us Q I r h
 obtain⟨a,ss,rfl,hq,hl,q⟩:=h
 obtain⟨u,rfl,ru⟩:=vals1 r
 cases ru
 obtain⟨its,rv,p,hz⟩:=I.list hq
 have hlen:=rv.length
 rw[List.length_map] at hlen
 refine sorted_strs p.isList (qy rv) (by omega) fun out ss' a1 a2 a3=>?_
 obtain⟨e,he⟩:=sortedAll_at s.heap its out
 have hp:s.heap.objs.size≤s.heap.objs.size+1:=Nat.le_succ _
 refine⟨.ref (s.heap.objs.size+1),upd H (s.heap.objs.size+1) (.lst (ss'.map V.str)),?_,rfl,q _ ss' (I.hok.fresh hp) a2 a3⟩
 refine I.laid (t':=s.toks) (h':=sortedAll s.heap its out) (fun _ _=>sortedAll_old) hp ⟨?_,out.toList,e,tV a1,?_⟩
 ·rw[List.length_map,a2.length_eq]
  rw[List.length_map] at hz
  exact hz
 ·rw[he]
  first
   | done
   | rfl
def Px:V→Option Int→Option Int→Hp→VK→Prop:=fun x lo hi H Q=>∃z:Str,x=.str z∧z.length≤sizeLine∧Q (.str (Txt.slice z lo hi)) H
theorem pz {v:Value} {o:Option Int} (p:IsPart v o):∃l:Option (Int×Tok),v=partValue l∧l.map (·.1)=o:=by
 cases p with
 | none=>exact⟨none,rfl,rfl⟩
 | int i t=>exact⟨some (i,t),rfl,rfl⟩
theorem IQ:yg X Px:=by
 intro pins s σ H x v vl vu lo hi sl Q I rx hs pl pu h
 obtain⟨z,rfl,hz,q⟩:=h
 obtain⟨t,rfl⟩:=rx
 obtain⟨l,rfl,hl⟩:=pz pl
 obtain⟨u,rfl,hu⟩:=pz pu
 subst hl hu
 obtain⟨o,ho,hc,hd⟩:=hs
 refine⟨"str",_,PySem.F.slot_str_getitem.lookup,typeIs_str _ _ _,wpAny_getItem_str_slice (l:=l) (u:=u) (st:=none) ⟨o,ho,hc,hd⟩ rfl ?_⟩
 exact post_val_or_str ⟨Nat.le_trans (Txt.slice_le z _ _) hz,fun t' k=>⟨.str _,H,I.tok k,⟨t',rfl⟩,q⟩⟩
theorem yo (K:PySem.W.Frag) {es:List Expr} {k:Nat} {t:tI} {n:Nat} {pos:Pos} (hc:X.calm=true) (h:AI X es t)
  (hn:(assignEach es X.env).length=n:=by rfl) (hst:(assignEach es X.env).findIdx? (·.1)=none:=by rfl) (hK:X.K=K:=by rfl):PG X (.Tuple es k pos) (HY K n t):=by
 subst hK;exact nL hc h hn hst
end
mutual
def Dt.SN:Dt→Bool
 | .lst _=>false
 | .tup xs=>Dt.IT xs
 | _=>true
def Dt.IT:List Dt→Bool
 | []=>true
 | x::xs=>x.SN&&Dt.IT xs
end
theorem oU {K:PySem.W.Frag} {H:Hp} {a:Addr} {xs:List V} {ds:List Dt} (h:br K H a xs) (d:aW K H xs ds):aE K H (.ref a) (.lst ds):=by rw[aE];exact⟨a,xs,rfl,h,d⟩
theorem vO {K:PySem.W.Frag} {H:Hp}:aW K H [] []:=by simp[aW]
end L2
namespace L2
open PySem
def cB (d e:Addr) (H H':Hp):Prop:=∀b o,H b=some o→b≠d→b≠e→H' b=some o
theorem cB.trans {d e:Addr} {H H1 H2:Hp} (a:cB d e H H1) (b:cB d e H1 H2):cB d e H H2:=fun c o h n m=>b c o (a c o h n m) n m
theorem KB.l {d e:Addr} {H H':Hp} (k:KB d H H'):cB d e H H':=fun b o h n _=>k b o h n
theorem KB.r {d e:Addr} {H H':Hp} (k:KB e H H'):cB d e H H':=fun b o h _ n=>k b o h n
theorem Same.kb2 {d e:Addr} {H H':Hp} (s:Same H H'):cB d e H H':=fun b o h _ _=>s b o h
theorem bf.none {P:Program} {w:World} {K:PySem.W.Frag} {mg:Str→Option Value} {base:Heap} {CX:pw} {k:Nat} {f:Addr} {fd:FuncData} {ps:List Str} {sp:Sp} (h:∀vs H Q E,¬sp vs H Q E):bf P w K mg base CX k f fd ps sp:=
 ⟨fun vs H Q E q=>(h _ _ _ _ q).elim,fun A outer s H args us vs Q E _ _ _ _ hs=>(h _ _ _ _ hs).elim⟩
end L2
namespace L2
open PySem PySem.Spec PyProof.Rows
theorem rG {α β:Type} {r:α→β→Prop} {xs:List α} {ys:List β} (h:Paired r xs ys):Paired r xs.reverse ys.reverse:=by
 induction h with
 | nil=>exact .nil
 | cons a _ ih=>rw[List.reverse_cons,List.reverse_cons];exact bu ih (.cons a .nil)
end L2
namespace L2
open PySem PySem.Spec PyProof.Rows
open AutoSeq1 (wpAny_loadPart')
section
variable {prog:Program} {w:World} {A:Around} {E:Value→Shared→Prop} {s:Shared}
theorem gk {it t:Addr} {i:Nat} {items:Array Value} {x:Value} {Q:Value→Shared→Prop} (hit:s.heap.IsTupleIter it t i) (ht:s.heap.IsTuple t items) (hx:items[i]? =some x)
  (hQ:∀h',h'.IsTupleIter it t (i+1)→Heap.SameBut it s.heap h'→Q x {s with heap:=h'}):wpAny (model prog w) A (Builtin.SmallTypes.nextOf (.ref it)) Q E s:=by
 obtain⟨o,ho,hc,hd⟩:=id hit
 obtain⟨ol,hol,_,nl,hdl⟩:=ht
 unfold Builtin.SmallTypes.nextOf
 refine wpAny_bind (wpAny_callSpecial?_slot (name:=Str.ofString "__next__") hit.typeIs F.slot_tuple_iterator_next (wpAny_call_entry F.slot_tuple_iterator_next hit.typeIs F.entry_tuple_iterator_next ?_ (F.args_tuple_iterator_next_1 _)))
 (show wpAny _ _ (field (.ref it) 0 >>= _) _ _ s);(refine wpAny_bind (wpAny_field ho hd (x:=.ref t) rfl ?_))
 (show wpAny _ _ (if(Value.ref t == Value.none)=true then _ else _) _ _ s);rw[if_neg (show ¬((Value.ref t == Value.none)=true) from Bool.false_ne_true)]
 (show wpAny _ _ (field (.ref it) 1 >>= _) _ _ s);(refine wpAny_bind (wpAny_field ho hd (x:=.int i 0) rfl ?_))
 (show wpAny _ _ (seqItems? (.ref t) >>= _) _ _ s);(refine wpAny_bind (wpAny_seqItems hol hdl ?_))
 simp only[Int.toNat_natCast,hx];refine wpAny_bind (wpAny_setField ho hd (by simp) (wpAny_pure ⟨x,rfl,wpAny_pure (hQ _ ?_ (Heap.SameBut.update ..))⟩))
 exact⟨_,Heap.get?_update_self _ ho (Obj.isFreed_of_fields (Obj.data_mapFields hd _)),(Obj.cls_mapFields ..).trans hc,(by rw[Obj.data_mapFields hd];simp[rawInt])⟩
theorem iP {it t:Addr} {i:Nat} {items:Array Value} {Q:Value→Shared→Prop} (hh:A.handled=none) (hit:s.heap.IsTupleIter it t i) (ht:s.heap.IsTuple t items) (hx:items[i]? =none)
  (hE:∀h' e,Heap.ExtBut it s.heap h'→(∃o,h'.get? e=some o∧o.cls=.type "StopIteration")→E (.ref e) {s with heap:=h'}):wpAny (model prog w) A (Builtin.SmallTypes.nextOf (.ref it)) Q E s:=by
 obtain⟨o,ho,hc,hd⟩:=id hit
 obtain⟨ol,hol,_,nl,hdl⟩:=ht
 unfold Builtin.SmallTypes.nextOf
 refine wpAny_bind (wpAny_callSpecial?_slot (name:=Str.ofString "__next__") hit.typeIs F.slot_tuple_iterator_next (wpAny_call_entry F.slot_tuple_iterator_next hit.typeIs F.entry_tuple_iterator_next ?_ (F.args_tuple_iterator_next_1 _)))
 (show wpAny _ _ (field (.ref it) 0 >>= _) _ _ s);(refine wpAny_bind (wpAny_field ho hd (x:=.ref t) rfl ?_))
 (show wpAny _ _ (if(Value.ref t == Value.none)=true then _ else _) _ _ s);rw[if_neg (show ¬((Value.ref t == Value.none)=true) from Bool.false_ne_true)]
 (show wpAny _ _ (field (.ref it) 1 >>= _) _ _ s);(refine wpAny_bind (wpAny_field ho hd (x:=.int i 0) rfl ?_))
 (show wpAny _ _ (seqItems? (.ref t) >>= _) _ _ s);(refine wpAny_bind (wpAny_seqItems hol hdl ?_))
 simp only[Int.toNat_natCast,hx];refine wpAny_bind (wpAny_rule (wpAny_bind (wpAny_setField ho hd (by simp) ?_)))
 (show wpAny _ _ (newExc (.type "StopIteration") [] >>= _) _ _ _);(refine wpAny_bind ?_);simp only[newExc,newTuple]
 (refine wpAny_bind (wpAny_newObj_type ?_ (by size_fits)))
 (refine wpAny_bind (m:=firstArgMember _ _) (wpAny_of_eq (a:=Value.none) (by first | rfl | (simp only[firstArgMember];rfl)) ?_));(refine wpAny_newObj_type ?_ (by size_fits))
 simp only[raiseNew];refine wpAny_bind (wpAny_handled ?_)
 (first | rw[show A.in1.handled=none from hh] | rw[hh]);refine wpAny_bind (wpAny_pure (wpAny_throw ?_))
 exact hE _ _ (((Heap.SameBut.update (a:=it) ..).extBut.push _).push _) ⟨_,Heap.get?_push_size _ rfl,rfl⟩
theorem Bg (hh:A.handled=none) (it t:Addr) (hne:t≠it) (items:Array Value):Draws prog w A it [it,t] items.size (fun i v=>items[i]? =some v) (fun i h=>h.IsTupleIter it t i∧h.IsTuple t items) where
 live:=fun _ _ st=>let ⟨o,ho,_⟩:=st.1;⟨o,ho⟩
 frame:=fun _ _ _ st hk=>⟨(let ⟨o,ho,r⟩:=st.1;⟨o,hk it (by simp) o ho,r⟩),(let ⟨o,ho,r⟩:=st.2;⟨o,hk t (by simp) o ho,r⟩)⟩
 item:=fun i s Q E hi st hQ=>gk st.1 st.2 (x:=items[i]) (by simp[hi]) fun h' hit' hs'=>hQ _ h' s.toks (by simp[hi]) ⟨hit',(let ⟨o,ho,r⟩:=st.2;⟨o,(hs'.2 t hne).trans ho,r⟩)⟩ hs'
 done:=fun s Q E st hE=>iP hh st.1 st.2 (by simp) hE
theorem zy (hh:A.handled=none) (it t:Addr) (items:Array Value) (i:Nat) (hx:items[i]? =none):Draws prog w A it [it,t] 0 (fun _ _=>True) (fun _ h=>h.IsTupleIter it t i∧h.IsTuple t items) where
 live:=fun _ _ st=>let ⟨o,ho,_⟩:=st.1;⟨o,ho⟩
 frame:=fun _ _ _ st hk=>⟨(let ⟨o,ho,r⟩:=st.1;⟨o,hk it (by simp) o ho,r⟩),(let ⟨o,ho,r⟩:=st.2;⟨o,hk t (by simp) o ho,r⟩)⟩
 item:=fun i s Q E hi st hQ=>absurd hi (Nat.not_lt_zero _)
 done:=fun s Q E st hE=>iP hh st.1 st.2 hx hE
end
theorem qz (l:Addr) (items:Array Value) (n:Nat) (dct:Option Addr) (sl:Array (Option Value)):
  Meets (Builtin.«enumerate.__new__» ⟨[.type "enumerate",.ref l],[]⟩) (fun _ R s=>s.heap.get? l=some {cls:=.type "tuple",dict:=dct,data:=.seq items n,slots:=sl}∧R (.ok (.ret (.ref (s.heap.push {cls:=.type "tuple_iterator",data:=.fields #[.ref l,.int 0 0]}).objs.size)))
    {s with heap:=(s.heap.push {cls:=.type "tuple_iterator",data:=.fields #[.ref l,.int 0 0]}).push {cls:=.type "enumerate",data:=.fields #[.none,.bool false,.ref s.heap.objs.size,rawInt 0,.none,.none]}}):=
 .of_wp fun prog w A R s h=>by
  obtain⟨hp,g,d,tk,os⟩:=s
  obtain⟨hl,h⟩:=h
  have hsub:=sub_enumerate
  have hL:Heap.IsTuple (Shared.heap ⟨hp,g,d,tk,os⟩) l items:=⟨_,hl,rfl,n,rfl⟩
  wp_walk using wpAny_loadPart' hl
  (refine wpAny_stack_any fun st=>wpAny_pure ?_);split
  ·rename_i c _ _ _ _ _
   cases(c == Value.type "enumerate")
   ·wp_walk using wpAny_loadPart' hl,wpAny_pyIter_tuple hL
    exact⟨_,rfl,h⟩
   ·wp_walk using wpAny_loadPart' hl,wpAny_pyIter_tuple hL
    exact⟨_,rfl,h⟩
  ·wp_walk using wpAny_loadPart' hl,wpAny_pyIter_tuple hL
   exact⟨_,rfl,h⟩
section
variable {prog:Program} {w:World} {A:Around} {E:Value→Shared→Prop} {s:Shared}
theorem uJ {l:Addr} {items:Array Value} {Q:Value→Shared→Prop} (hL:s.heap.IsTuple l items)
  (h:∀h',IsEnum h' (s.heap.objs.size+1) s.heap.objs.size 0 .none→h'.IsTupleIter s.heap.objs.size l 0→h'.objs.size=s.heap.objs.size+2→(∀b o,s.heap.get? b=some o→h'.get? b=some o)→Q (.ref (s.heap.objs.size+1)) {s with heap:=h'}):
  wpAny (model prog w) A (call (.type "enumerate") [.ref l]) Q E s:=by
 obtain⟨⟨c,dct,dt,sl⟩,hl,hc,n,hd⟩:=hL
 replace hc:c=.type "tuple":=hc
 replace hd:dt=.seq items n:=hd
 subst hc hd
 refine callType_new F.called_enumerate (by decide) (F.typeCall_enumerate_1 _) (F.newCall_enumerate_1 _) (fun obj=>F.args_object_init_2 obj _) F.entry_enumerate_new (qz l items n dct sl) ⟨hl,?_⟩
 have hz:(s.heap.push {cls:=.type "tuple_iterator",data:=.fields #[.ref l,.int 0 0]}).objs.size=s.heap.objs.size+1:=Heap.size_push ..
 show _∧_
 rw[hz]
 have he:IsEnum ((s.heap.push {cls:=.type "tuple_iterator",data:=.fields #[.ref l,.int 0 0]}).push {cls:=.type "enumerate",data:=.fields #[.none,.bool false,.ref s.heap.objs.size,rawInt 0,.none,.none]}) (s.heap.objs.size+1) s.heap.objs.size 0 .none:=by
  have:=Heap.get?_push_size (s.heap.push {cls:=.type "tuple_iterator",data:=.fields #[.ref l,.int 0 0]}) (o:={cls:=.type "enumerate",data:=.fields #[.none,.bool false,.ref s.heap.objs.size,rawInt 0,.none,.none]}) rfl
  rw[hz] at this;exact this
 exact⟨⟨_,he,rfl⟩,h _ he ⟨_,Heap.get?_push_of_some _ (Heap.get?_push_size _ rfl),rfl,rfl⟩ (by rw[Heap.size_push,hz]) fun b o x=>Heap.get?_push_of_some _ (Heap.get?_push_of_some _ x)⟩
end
def rH (K:PySem.W.Frag) (a:Addr):It:=
 ⟨fun i H=>∃xs x,bH K H a xs∧xs[i]? =some x,
  fun i H x H'=>∃y p,(∀xs,bH K H a xs→xs[i]? =some y)∧H p=none∧x=.ref p∧H'=upd H p (.tup [.int i,y]),
  fun i H=>∃xs,bH K H a xs∧xs.length≤i⟩
theorem zA {P:Program} {w:World} {K:PySem.W.Frag} {elts:List Expr} {x1} {tpos:Pos} (a e it:Addr) (hne:e≠it) (SO:e≠a) (hia:it≠a):
  Turn P w K (.Tuple elts x1 tpos) (rH K a) [e,it] e (fun i h=>(∃old,IsEnum h e it i old)∧h.IsTupleIter it a i) where
 mem:=by simp
 obj:=fun i h st b hb=>by
  obtain⟨⟨old,st1⟩,st2⟩:=st
  rcases List.mem_cons.mp hb with z | z
  ·subst z;exact⟨_,st1,fun v z=>by cases z⟩
  ·have z':b=it:=by simpa using z
   subst z'
   obtain⟨o,e,c,d⟩:=st2
   exact⟨o,e,fun v z=>by rw[d] at z;cases z⟩
 keep:=fun i h h' st k=>by
  obtain⟨⟨old,st1⟩,st2⟩:=st
  exact⟨⟨old,k e (by simp) _ st1⟩,let ⟨o,q,r⟩:=st2;⟨o,k it (by simp) o q,r⟩⟩
 item:=by
  intro X hP hw hK hc i pins s σ H E I hf st hg
  subst hP hw hK
  obtain⟨⟨old,st1⟩,st2⟩:=st
  obtain⟨xs,x,hq,hx⟩:=hg
  obtain⟨its,rv,p,hz⟩:=I.tuple hq
  obtain⟨u,hu,ru⟩:=rv.get hx
  have hlt:i<its.toArray.size:=by
   have:=(List.getElem?_eq_some_iff.mp hu).1
   simpa using this
  have D:=Bg (prog:=X.prog) (w:=X.w) (A:=X.A.in1) (I.ok.hd hc) it a (Ne.symm hia) its.toArray
  refine wpAny_pyNext_enum_itemD D st1 ⟨st2,p⟩ hlt hne (by simp[hne,SO]) fun v h1 tk hv eo Iy ht hsz kk=>?_
  have ev:v=u:=by
   have:its[i]? =some v:=by simpa using hv
   rw[hu] at this
   exact(Option.some.inj this).symm
  subst ev
  have nn:H s.heap.objs.size=none:=I.hok.fresh (Nat.le_refl _)
  have I1:Inv X pins σ (upd H s.heap.objs.size (.tup [.int i,x])) {s with heap:=h1,toks:=tk+1}:=
   I.mD (ch:=[e,it]) hf (fun b o hb q=>kk b o (fun z=>hb (by simp[z])) (fun z=>hb (by simp[z])) q) (Nat.le_refl _)
    ⟨⟨by show 2≤sizeLine;decide,_,ht,rfl⟩,[.int i tk,v],.cons ⟨_,rfl⟩ (.cons ru .nil),⟨_,ht,rfl,_,rfl⟩⟩
  have le:e<s.heap.objs.size:=Heap.lt_size st1
  have li:it<s.heap.objs.size:=by obtain⟨o,q,_⟩:=id st2;exact Heap.lt_size q
  refine⟨_,rfl,wpAny_letOwnedTupleGo_enum eo fun h2 e2 sb=>?_⟩
  obtain⟨f0,f1,f2,f3,f4,f5⟩:=hf e (by simp)
  have I2:=I1.turned (h':=h2) (t':=tk+1) (it:=e) (fun b o hb q=>(sb.2 b hb).trans q) (by rw[ak (Nat.ne_of_lt le)];exact f0) f1 f3 f4 f5
  refine⟨.ref s.heap.objs.size,_,I2,rfl,⟨x,s.heap.objs.size,fun ys hy=>by rw[I.iX hy hq];exact hx,nn,rfl,rfl⟩,⟨⟨v,by simpa using e2⟩,let ⟨o,q,r⟩:=Iy.1;⟨o,(sb.2 it (Ne.symm hne)).trans q,r⟩⟩,fun b hb=>?_⟩
  rcases List.mem_cons.mp hb with z | z
  ·subst z;rw[ak (Nat.ne_of_lt le)];exact f0
  ·have z':b=it:=by simpa using z
   subst z';rw[ak (Nat.ne_of_lt li)];exact(hf b (by simp)).1
 done:=by
  intro X hP hw hK hc i pins s σ H E I hf st hg
  subst hP hw hK
  obtain⟨⟨old,st1⟩,st2⟩:=st
  obtain⟨xs,hq,hx⟩:=hg
  obtain⟨its,rv,p,hz⟩:=I.tuple hq
  obtain⟨f0,f1,f2,f3,f4,f5⟩:=hf it (by simp)
  have hl:=rv.length
  have D:=zy (prog:=X.prog) (w:=X.w) (A:=X.A.in1) (I.ok.hd hc) it a its.toArray i (by simp;omega)
  exact wpAny_pyNext_enum_endD D st1 ⟨st2,p⟩ fun h' eb=>⟨rfl,I.turned (t':=s.toks) (fun b o hb e=>eb b o hb e) f0 f1 f3 f4 f5⟩
 self:=fun _ _ _ _ _ st h=>by
  obtain⟨⟨old,st1⟩,st2⟩:=st
  exact wpAny_pyIter_enum st1 h
def IU (K:PySem.W.Frag) (ta:TA):TI:=fun σ H R=>ta σ H fun vs H1=>∃a,vs=[.ref a]∧(∃xs,bH K H1 a xs)∧R (rH K a) H1
theorem vP {X:Cx} {elts:List Expr} {x1} {tpos:Pos} {a:Expr} {ta:TA} {p pos:Pos} (hg:Gl X "enumerate") (hm:X.mg "enumerate"=none) (ha:PA X [a] ta) (hs:starEach [a] X.env=[(false,eval a X.env)]:=by rfl):
  PI X (.Tuple elts x1 tpos) (.Call (.Name "enumerate" p) [a] [] pos) (IU X.K ta):=by
 intro pins s σ H R I h
 refine Call_ (g5 I hg hm boot_enumerate (PyProof.Rows.callWith_type1 (aK (ha pos pins s σ H _ I h) fun us s1 ⟨vs,H1,I1,r1,q1⟩=>?_) hs rfl))
 obtain⟨l,e,⟨xs,hq⟩,q⟩:=q1
 subst e
 cases r1 with
 | cons r rr=>
  cases rr
  cases r
  obtain⟨its,rv,pl,hz⟩:=I1.tuple hq
  have bl:l<s1.heap.objs.size:=by obtain⟨o,e,_⟩:=pl;exact Heap.lt_size e
  refine uJ pl fun h' he hit hsz kk=>?_
  have I2:Inv X pins σ H1 {s1 with heap:=h'}:=I1.kept (t':=s1.toks) kk
  refine wpAny_pyIter_enum he ?_
  refine⟨s1.heap.objs.size+1,[s1.heap.objs.size+1,s1.heap.objs.size],_,_,H1,rfl,I2,zA l _ _ (Nat.succ_ne_self _) (Nat.ne_of_gt (Nat.lt_succ_of_lt bl)) (Nat.ne_of_gt bl),⟨⟨_,by simpa using he⟩,hit⟩,fun b hb=>?_,q⟩
  rcases List.mem_cons.mp hb with z | z
  ·subst z;exact I1.jb (Nat.le_succ _) (I1.hok.fresh (Nat.le_succ _))
  ·have z':b=s1.heap.objs.size:=by simpa using z
   subst z';exact I1.jb (Nat.le_refl _) (I1.hok.fresh (Nat.le_refl _))
theorem Bh {K:PySem.W.Frag} {a:Addr} {xs:List V} {g:TG} {tb:TS} {D:Ends} {σ:St} {H:Hp} (Pv:Nat→St→Hp→Prop) (h0:Pv 0 σ H) (hl:∀i σ H,i≤xs.length→Pv i σ H→bH K H a xs)
  (hs:∀i x p σ H,xs[i]? =some x→Pv i σ H→H p=none→g (.ref p) σ (upd H p (.tup [.int i,x])) fun σ2 H2=>tb {D with nx:=Pv (i+1),ct:=Pv (i+1),bk:=D.nx} σ2 H2) (hd:∀σ H,Pv xs.length σ H→D.nx σ H):
  ∃W:Nat→Nat→St→Hp→Prop,(∃m,W 0 m σ H)∧∀i m σ H,W i m σ H→
   ((rH K a).stop i H∧D.nx σ H)∨((rH K a).go i H∧∃N:St→Hp→Prop,(∀σ' H',N σ' H'→∃m',m'<m∧W (i+1) m' σ' H')∧∀x H',(rH K a).pq i H x H'→g x σ H' fun σ2 H2=>tb {D with nx:=N,ct:=N,bk:=D.nx} σ2 H2):=by
 refine⟨fun i m σ H=>m=xs.length-i∧i≤xs.length∧Pv i σ H,⟨xs.length,by simp,Nat.zero_le _,h0⟩,?_⟩
 rintro i m σ H ⟨rfl,hi,p⟩
 have q:=hl i σ H hi p
 by_cases hlt:i<xs.length
 ·refine .inr ⟨⟨xs,xs[i],q,by simp[hlt]⟩,Pv (i+1),fun σ' H' p'=>⟨xs.length-(i+1),by omega,rfl,hlt,p'⟩,fun x H' y=>?_⟩
  obtain⟨z,pa,hz,hn,e1,e2⟩:=y
  subst e1 e2
  exact hs i z pa σ H (hz xs q) p hn
 ·have e:i=xs.length:=by omega
  subst e
  exact .inl ⟨⟨xs,q,Nat.le_refl _⟩,hd σ H p⟩
end L2
namespace L2
open PySem PySem.Spec PyProof.Rows
section
variable {X:Cx}
def Py (K:PySem.W.Frag):List V→Hp→VK→Prop:=fun xs H Q=>∃(a:Addr) (bs:List Bool),xs=[.ref a]∧br K H a (bs.map V.bl)∧Q (.bl (bs.all id)) H
theorem qA {bs:List Bool} {its:List Value} (r:Vals (bs.map V.bl) its):its=bs.map Value.bool:=by
 induction bs generalizing its with
 | nil=>cases r;rfl
 | cons b bs ih=>
  cases r with
  | cons r1 r2=>
   rw[List.map_cons,ih r2]
   exact congrArg (· ::_) r1
theorem Bi (K:PySem.W.Frag) (hc:X.calm=true) (hK:X.K=K:=by rfl):dh X (.builtin "all") (Py K):=by
 subst hK
 intro pins s σ H xs us Q I r h
 obtain⟨a,bs,rfl,hq,q⟩:=h
 obtain⟨u,rfl,ru⟩:=vals1 r
 cases ru
 obtain⟨its,rv,p,_⟩:=I.list hq
 have e:=qA rv
 have bl:a<s.heap.objs.size:=by obtain⟨o,e,_⟩:=p.isList;exact Heap.lt_size e
 refine call_all_walk ?_
 refine wpAny_pyIter_list p.isList ?_
 refine⟨s.heap.objs.size,_,_,_,_,_,fun i=>(bs.getD i false),rfl,Walks.list (A:=X.A.in1) (I.ok.hd hc) _ a (Nat.ne_of_lt bl) its.toArray,⟨⟨_,Heap.get?_push_size _ rfl,rfl,rfl⟩,p.isList.push _⟩,?_,fun h' tk k=>?_⟩
 ·intro i v s' Q' E' hv hQ'
  have:v=.bool (bs.getD i false):=by
   rw[List.getElem?_toArray,e,List.getElem?_map] at hv
   rw[List.getD_eq_getElem?_getD]
   cases eb:bs[i]? with
   | none=>rw[eb] at hv;cases hv
   | some b=>rw[eb] at hv;exact(Option.some.inj hv).symm
  rw[this]
  exact wpAny_truthy_bool hQ'
 ·refine⟨.bl (bs.all id),H,I.kept fun b o eo=>k b o (fun z=>Nat.ne_of_lt (Heap.lt_size eo) (List.mem_singleton.mp z)) (Heap.get?_push_of_some _ eo),?_,q⟩
  have hl:its.toArray.size=bs.length:=by simp[e]
  have ea:∀cs:List Bool,(List.range cs.length).all (fun i=>cs.getD i false)=cs.all id:=fun cs=>by
   induction cs with
   | nil=>rfl
   | cons c cs ih=>
    rw[List.length_cons,List.range_succ_eq_map,List.all_cons,List.all_map,List.all_cons,←ih]
    rfl
  show _=Value.bool _
  rw[hl,ea]
end
section
variable {X:Cx} {pins:List (Addr×Obj)} {σ:List (Option V)} {H:Hp} {s:Shared} {h':Heap}
theorem Inv.yp {t':Nat} {ch:List Addr} (I:Inv X pins σ H s) (hf:∀b∈ch,gf X pins H b) (k:∀b u,b ∉ ch→s.heap.get? b=some u→h'.get? b=some u):Inv X pins σ H {s with heap:=h',toks:=t'}:=by
 have nI:∀b u,H b=some u→b ∉ ch:=fun b u e z=>by have q:=(hf b z).1;rw[e] at q;cases q
 refine I.step (g':=s.gens) (d':=s.drawn) (ch:=ch) (fun b hb=>?_) (fun b o _ _ hc e _=>k b o hc e) (fun b o _ _ hc e _=>⟨o.slots,k b o hc e⟩) (fun _ _ _ _ n=>n)
  (fun b o hc e=>⟨o,k b o hc e⟩) (fun _ _ e=>e) (fun _ _ _ e=>e) (fun b ps e=>⟨#[],by rw[e];simp⟩) (fun m hm=>?_) (fun b u e=>?_) I.bare
 ·obtain⟨f0,f1,f2,f3,f4,f5⟩:=hf b hb
  exact⟨f3,f1,f4,f5⟩
 ·obtain⟨ob,es,ep,ho,r⟩:=hm
  exact⟨ob,es,ep,k _ ob (fun z=>(hf _ z).2.1 rfl) ho,r⟩
 ·refine(I.hok b u e).stay (fun c v hc q=>k c v ?_ q) (fun _ q=>q) fun _ _ q=>q
  rcases hc with z | z
  ·rw[z];exact nI b u e
  ·exact nI c _ z
end
def IV (K:PySem.W.Frag) (a b:Addr):It:=
 ⟨fun i H=>∃xs ys x y,br K H a xs∧br K H b ys∧xs[i]? =some x∧ys[i]? =some y,
  fun i H v H'=>∃x y p,(∀xs,br K H a xs→xs[i]? =some x)∧(∀ys,br K H b ys→ys[i]? =some y)∧H p=none∧v=.ref p∧H'=upd H p (.tup [x,y]),
  fun i H=>∃xs ys,br K H a xs∧br K H b ys∧(xs.length≤i∨ys.length≤i)⟩
theorem DL {P:Program} {w:World} {K:PySem.W.Frag} {elts:List Expr} {x1} {tpos:Pos} (a b z TI TO i1 i2:Addr) (D:ZipApart z TI TO i1 i2 a b):
  Turn P w K (.Tuple elts x1 tpos) (IV K a b) [z,TO,i1,i2,TI] z (fun i h=>IsZip h z TI TO .none∧IsPair h TI (.ref i1) (.ref i2)∧(∃x y,IsPair h TO x y)∧h.IsListIter i1 a i∧h.IsListIter i2 b i) where
 mem:=by simp
 obj:=fun i h st c hc=>by
  obtain⟨hz,hTI,⟨x,y,hTO⟩,h1,h2⟩:=st
  have hc':c=z∨c=TO∨c=i1∨c=i2∨c=TI:=by simpa using hc
  rcases hc' with q | q | q | q | q
  ·subst q;exact⟨_,hz,fun v e=>nomatch e⟩
  ·subst q;exact⟨_,hTO,fun v e=>nomatch e⟩
  ·subst q
   obtain⟨o,e,_,d⟩:=h1
   exact⟨o,e,fun v q=>by rw[d] at q;cases q⟩
  ·subst q
   obtain⟨o,e,_,d⟩:=h2
   exact⟨o,e,fun v q=>by rw[d] at q;cases q⟩
  ·subst q;exact⟨_,hTI,fun v e=>nomatch e⟩
 keep:=fun i h h' st k=>by
  obtain⟨hz,hTI,⟨x,y,hTO⟩,h1,h2⟩:=st
  exact⟨k z (by simp) _ hz,k TI (by simp) _ hTI,⟨x,y,k TO (by simp) _ hTO⟩,h1.at fun o q=>k i1 (by simp) o q,h2.at fun o q=>k i2 (by simp) o q⟩
 item:=by
  intro X hP hw hK hc i pins s σ H E I hf st hg
  subst hP hw hK
  obtain⟨hz,hTI,⟨u1,u2,hTO⟩,h1,h2⟩:=st
  obtain⟨xs,ys,x,y,hq,hq2,hx,hy⟩:=hg
  obtain⟨its,rv,p,_⟩:=I.list hq
  obtain⟨its2,tW,p2,_⟩:=I.list hq2
  obtain⟨u,hu,ru⟩:=rv.get hx
  obtain⟨v,hv,rv'⟩:=tW.get hy
  refine wpAny_pyNext_zip_item D hz hTI hTO h1 h2 p.isList p2.isList (x:=u) (y:=v) (by simpa using hu) (by simpa using hv) fun h1' a1 a2 a3 a4 a5 a6 kk=>?_
  have nn:H s.heap.objs.size=none:=I.hok.fresh (Nat.le_refl _)
  have vQ:∀c∈[z,TO,i1,i2],gf X pins H c:=fun c hc=>hf c (by
   have hc':c=z∨c=TO∨c=i1∨c=i2:=by simpa using hc
   rcases hc' with q | q | q | q<;>simp[q])
  have I1:Inv X pins σ (upd H s.heap.objs.size (.tup [x,y])) {s with heap:=h1',toks:=s.toks}:=
   I.mD (ch:=[z,TO,i1,i2]) vQ (fun c o hc q=>kk c o (fun e=>hc (by simp[e])) (fun e=>hc (by simp[e])) (fun e=>hc (by simp[e])) (fun e=>hc (by simp[e])) q) (Nat.le_refl _)
    ⟨⟨by show 2≤sizeLine;decide,_,a5,rfl⟩,[u,v],.cons ru (.cons rv' .nil),⟨_,a5,rfl,_,rfl⟩⟩
  have lz:z<s.heap.objs.size:=Heap.lt_size hz
  have IW:TI<s.heap.objs.size:=Heap.lt_size hTI
  have IX:TO<s.heap.objs.size:=Heap.lt_size hTO
  have l1:i1<s.heap.objs.size:=by obtain⟨o,q,_⟩:=id h1;exact Heap.lt_size q
  have l2:i2<s.heap.objs.size:=by obtain⟨o,q,_⟩:=id h2;exact Heap.lt_size q
  refine⟨_,rfl,wpAny_letOwnedTupleGo_zip a1 fun h2' e2 sb=>?_⟩
  obtain⟨f0,f1,f2,f3,f4,f5⟩:=hf z (by simp)
  have I2:=I1.turned (h':=h2') (t':=s.toks) (it:=z) (fun c o hc q=>(sb.2 c hc).trans q) (by rw[ak (Nat.ne_of_lt lz)];exact f0) f1 f3 f4 f5
  refine⟨.ref s.heap.objs.size,_,I2,rfl,⟨x,y,s.heap.objs.size,fun zs hy=>by rw[I.jP hy hq];exact hx,fun zs hz'=>by rw[I.jP hz' hq2];exact hy,nn,rfl,rfl⟩,
   ⟨e2,(sb.2 TI D.TIz).trans (kk _ _ D.TIz D.TITO D.TIi1 D.TIi2 hTI),⟨_,_,(sb.2 TO D.TOz).trans a2⟩,a3.at fun o q=>(sb.2 i1 D.i1z).trans q,a4.at fun o q=>(sb.2 i2 D.i2z).trans q⟩,fun c hc=>?_⟩
  have hlt:c<s.heap.objs.size:=by
   have hc':c=z∨c=TO∨c=i1∨c=i2∨c=TI:=by simpa using hc
   rcases hc' with q | q | q | q | q
   ·rw[q];exact lz
   ·rw[q];exact IX
   ·rw[q];exact l1
   ·rw[q];exact l2
   ·rw[q];exact IW
  rw[ak (Nat.ne_of_lt hlt)]
  exact(hf c hc).1
 done:=by
  intro X hP hw hK hc i pins s σ H E I hf st hg
  subst hP hw hK
  obtain⟨hz,hTI,⟨u1,u2,hTO⟩,h1,h2⟩:=st
  obtain⟨xs,ys,hq,hq2,hx⟩:=hg
  obtain⟨its,rv,p,_⟩:=I.list hq
  obtain⟨its2,tW,p2,_⟩:=I.list hq2
  have hl:=rv.length
  have hl2:=tW.length
  have hend:its.toArray[i]? =none∨its2.toArray[i]? =none:=by
   rcases hx with q | q
   ·exact .inl (by simp;omega)
   ·exact .inr (by simp;omega)
  have vQ:∀c∈[z,TO,i1,i2],gf X pins H c:=fun c hc=>hf c (by
   have hc':c=z∨c=TO∨c=i1∨c=i2:=by simpa using hc
   rcases hc' with q | q | q | q<;>simp[q])
  exact wpAny_pyNext_zip_end (I.ok.hd hc) D hz hTI hTO h1 h2 p.isList p2.isList hend fun h' kk=>
   ⟨rfl,I.yp (t':=s.toks) (ch:=[z,TO,i1,i2]) vQ (fun c o hc q=>kk c o (fun e=>hc (by simp[e])) (fun e=>hc (by simp[e])) (fun e=>hc (by simp[e])) (fun e=>hc (by simp[e])) q)⟩
 self:=fun _ _ _ _ _ st h=>wpAny_pyIter_zip st.1 h
def IY (K:PySem.W.Frag) (ta:TA):TI:=fun σ H R=>ta σ H fun vs H1=>∃a b,vs=[.ref a,.ref b]∧(∃xs,br K H1 a xs)∧(∃ys,br K H1 b ys)∧R (IV K a b) H1
theorem IZ {X:Cx} {elts:List Expr} {x1} {tpos:Pos} {a b:Expr} {ta:TA} {p pos:Pos} (hg:Gl X "zip") (hm:X.mg "zip"=none) (ha:PA X [a,b] ta)
  (hs:starEach [a,b] X.env=[(false,eval a X.env),(false,eval b X.env)]:=by rfl) (hs2:starEach [b] X.env=[(false,eval b X.env)]:=by rfl):
  PI X (.Tuple elts x1 tpos) (.Call (.Name "zip" p) [a,b] [] pos) (IY X.K ta):=by
 intro pins s σ H R I h
 refine Call_ (g5 I hg hm boot_zip (PyProof.Rows.callWith_type1 (aK (ha pos pins s σ H _ I h) fun us s1 ⟨vs,H1,I1,r1,q1⟩=>?_) (by rw[hs,hs2]) (by rw[hs2];rfl)))
 obtain⟨l1,l2,e,⟨xs,hq⟩,⟨ys,hq2⟩,q⟩:=q1
 subst e
 cases r1 with
 | cons r rr=>
  cases rr with
  | cons r' rr=>
   cases rr
   cases r
   cases r'
   obtain⟨its,rv,pl,_⟩:=I1.list hq
   obtain⟨its2,tW,Bj,_⟩:=I1.list hq2
   have a1:l1<s1.heap.objs.size:=by obtain⟨_,e,_⟩:=pl.isList;exact Heap.lt_size e
   have a2:l2<s1.heap.objs.size:=by obtain⟨_,e,_⟩:=Bj.isList;exact Heap.lt_size e
   refine call_zip_2 pl.isList Bj.isList fun h' hz hTI hTO hi1 hi2 hsz kk=>?_
   have I2:Inv X pins σ H1 {s1 with heap:=h'}:=I1.kept (t':=s1.toks) kk
   refine wpAny_pyIter_zip hz ?_
   refine⟨s1.heap.objs.size+4,[s1.heap.objs.size+4,s1.heap.objs.size+3,s1.heap.objs.size,s1.heap.objs.size+1,s1.heap.objs.size+2],_,_,H1,rfl,I2,DL l1 l2 _ _ _ _ _ (zipApart_new a1 a2),⟨hz,hTI,⟨_,_,hTO⟩,hi1,hi2⟩,fun c hc=>?_,q⟩
   have hle:s1.heap.objs.size≤c:=by
    have hc':c=s1.heap.objs.size+4∨c=s1.heap.objs.size+3∨c=s1.heap.objs.size∨c=s1.heap.objs.size+1∨c=s1.heap.objs.size+2:=by simpa using hc
    rcases hc' with q | q | q | q | q<;>(rw[q];first | exact Nat.le_add_right _ _ | exact Nat.le_refl _)
   exact I1.jb hle (I1.hok.fresh hle)
theorem G0 (t:SetTable) (es:Array (Int×Value)) (h:Int) (x:Value):(layNew t es h x).2.1.led=t.led:=by
 unfold layNew
 split
 ·unfold SetTable.put SetTable.orStandIn SetTable.standIn
  dsimp only
  repeat' split
  all_goals rfl
 ·rfl
theorem Bk (t:SetTable) (es:Array (Int×Value)) (n:Nat):(relayAll t es n).2.1.led=t.led:=by
 unfold relayAll
 split
 ·rename_i q r e
  unfold SetTable.relaid SetTable.laid at e
  dsimp only
  split
  ·simp only[Option.bind_eq_bind,Option.bind_eq_some_iff,Option.pure_def,Option.some.injEq,Prod.mk.injEq] at e
   obtain⟨_,_,e1,_⟩:=e
   rw[←e1]
  ·rfl
 ·rfl
section
variable {P:Program} {w:World} {A:Around} {E:Value→Shared→Prop} {s:Shared}
abbrev dU (w:World):Obj:={cls:=.type "set",dict:=none,data:=.set #[] 0 (.fresh 0 0 (!w.params.followText "set-order"))}
theorem DM (v:Value) {Q:Value→Shared→Prop} (h:Q (.ref s.heap.objs.size) {s with heap:=s.heap.push (dU w)}):
  codeAny (model P w) A (.call (.builtin "set.__new__") ⟨[.type "set",v],[]⟩) (wants Q E) s:=by
 refine codeAny_of_tree ?_
 show wpAny (model P w) A.in1 (do checkBuiltinCall "set.__new__" ⟨[.type "set",v],[]⟩;again (.builtin "set.__new__" ⟨[.type "set",v],[]⟩)) _ _ s
 refine wpAny_bind (wpAny_of_eq (PySem.F.newCall_set_1 v) (wpAny_pure ⟨plainId_quiet PySem.F.plain_set_new _,codeAny_builtin PySem.F.entry_set_new ?_⟩))
 rw[Around.under_plainId PySem.F.plain_set_new]
 unfold Builtin.«set.__new__» Builtin.Frozenset.newClass
 have hsub:=sub_set_self
 obtain⟨hp,g,d,tk,os⟩:=s
 dsimp only
 wp_walk
 refine wpAny_askSetting (wpAny_pure ?_)
 dsimp only
 simp only[newObj]
 exact wpAny_bind (wpAny_alloc (wpAny_pure (wpAny_pure h)))
end
namespace SI
theorem Bl:Manifest.owners.lookup (String.ofList ['r', 'o', 't', 'a', 'r', 'e', 't', 'i', '_', 't', 'e', 's'].reverse)=some Manifest.sig_set_iterator:=by kernel_rfl
theorem slot_next:Slot "set_iterator" "__next__" "set_iterator.__next__":=
 .of (owner:="set_iterator") (n:="__next__") (by rw[typeLookup_type,builtinLookup_eq_fast];kernel_rfl) (by decide+kernel) (by decide+kernel) (by decide+kernel)
  (by first | exact .inl (by decide+kernel) | exact .inr (by decide+kernel)) (by rw[isSubtype_type];kernel_rfl)
theorem tX:Slot "set_iterator" "__iter__" "set_iterator.__iter__":=
 .of (owner:="set_iterator") (n:="__iter__") (by rw[typeLookup_type,builtinLookup_eq_fast];kernel_rfl) (by decide+kernel) (by decide+kernel) (by decide+kernel)
  (by first | exact .inl (by decide+kernel) | exact .inr (by decide+kernel)) (by rw[isSubtype_type];kernel_rfl)
theorem entry_next:entryFor table "set_iterator.__next__"=some Builtin.«set_iterator.__next__» :=entryFor_of_tree (by kernel_rfl)
theorem zB:entryFor table "set_iterator.__iter__"=some Builtin.«dict_keyiterator.__iter__» :=
 entryFor_alias (id':="dict_keyiterator.__iter__") (by kernel_rfl) (by first | rfl | decide+kernel | (unfold String.splitOn;simp+decide [String.splitOnAux])) (by decide+kernel) (by kernel_rfl)
theorem args_next (v:Value):argsOk "set_iterator.__next__" ⟨[v],[]⟩:=by
 unfold argsOk;rw[signature?_of (id:="set_iterator.__next__") (n:=['_', '_', 't', 'x', 'e', 'n', '_', '_']) (o:=['r', 'o', 't', 'a', 'r', 'e', 't', 'i', '_', 't', 'e', 's']) (by kernel_rfl) Bl];kernel_rfl
theorem Bm (v:Value):argsOk "set_iterator.__iter__" ⟨[v],[]⟩:=by
 unfold argsOk;rw[signature?_of (id:="set_iterator.__iter__") (n:=['_', '_', 'r', 'e', 't', 'i', '_', '_']) (o:=['r', 'o', 't', 'a', 'r', 'e', 't', 'i', '_', 't', 'e', 's']) (by kernel_rfl) Bl];kernel_rfl
theorem rJ:entryFor table "set.__iter__"=some Builtin.«frozenset.__iter__» :=
 entryFor_alias (id':="frozenset.__iter__") (by kernel_rfl) (by first | rfl | decide+kernel | (unfold String.splitOn;simp+decide [String.splitOnAux])) (by decide+kernel) (by kernel_rfl)
end SI
abbrev jZ (h:Heap) (I:Addr) (F:Array Value):Prop:=h.get? I=some {cls:=.type "set_iterator",dict:=none,data:=.fields F,slots:= #[]}
section
variable {P:Program} {w:World} {A:Around} {E:Value→Shared→Prop} {s:Shared}
theorem rK {I:Addr} {F:Array Value} {Q:Value→Shared→Prop} (hI:jZ s.heap I F) (h:Q (.ref I) s):wpAny (model P w) A (pyIter (.ref I)) Q E s:=by
 have hT:s.TypeIs (.ref I) "set_iterator":=⟨_,hI,rfl⟩
 refine wpAny_pyIter_slot hT SI.tX (wpAny_call_entry SI.tX hT SI.zB ?_ (SI.Bm _))
 show wpAny (model P w) _ (ret (.ref I)) _ _ s
 exact wpAny_pure ⟨_,rfl,"set_iterator",_,hT,SI.slot_next.lookup,h⟩
theorem yq {I:Addr} {F:Array Value} {k0:Option Nat} {Q:Option Value→Shared→Prop} (hh:A.handled=none) (hI:jZ s.heap I F) (hk:2<F.size) (h:∀h',Heap.ExtBut I s.heap h'→Q none {s with heap:=h'}):
  wpAny (model P w) A.in1 (do setField (.ref I) 2 .none;raiseNew (←newExc (.type "StopIteration") []))
   (fun fin s'=>∃v,fin=Fin.done (Flow.ret v)∧wpAny (model P w) A (pure (some v)) Q E s')
   (fun e s'=>wpAny (model P w) A (do if ←isInstance e (.type "StopIteration") then pure none else throw e) Q E s') s:=by
 refine wpAny_bind (wpAny_setField_rec hI hk fun h1 e1 b1=>?_)
 refine wpAny_bind ?_
 simp only[newExc,newTuple]
 refine wpAny_bind (wpAny_newObj_type ?_ (by size_fits))
 refine wpAny_bind (m:=firstArgMember _ _) (wpAny_of_eq (a:=Value.none) (by first | rfl | (simp only[firstArgMember];rfl)) ?_)
 refine wpAny_newObj_type ?_ (by size_fits)
 simp only[raiseNew]
 refine wpAny_bind (wpAny_handled ?_)
 rw[show A.in1.handled=none from hh]
 refine wpAny_bind (wpAny_pure (wpAny_throw ?_))
 refine wpAny_bind (wpAny_isInstance (T:="StopIteration") (b:=true) ⟨_,Heap.get?_push_size _ rfl,rfl⟩ isSubtype_stop ?_)
 exact wpAny_pure (h _ ((b1.extBut.push _).push _))
theorem tY {T:Addr} {xs:Array Value} {B:Around} {E':Value→Shared→Prop} {Q':Option (Array Value)→Shared→Prop} (hT:s.heap.get? T=some {cls:=.type "tuple",data:=.seq xs}) (h:Q' (some xs) s):wpAny (model P w) B (seqItems? (.ref T)) Q' E' s:=by
 unfold seqItems?
 dsimp only
 refine wpAny_bind (wpAny_load hT ?_)
 exact wpAny_pure h
theorem oV {a:Addr} {Q:Bool→Shared→Prop} (h:Q (w.params.followText "set-order") s):wpAny (model P w) A setsByText Q E s:=by
 unfold setsByText
 exact wpAny_bind (wpAny_askSetting (wpAny_pure h))
end
theorem tZ {α:Type} (f:Nat→Nat):∀(n k:Nat) (l:List α) (out:Array α),l.length=n→(pickOrder.go f n k l out).toList.Perm (out.toList++l)
 | 0,k,l,out,h=>by
  have:l=[]:=List.length_eq_zero_iff.mp h
  subst this
  unfold pickOrder.go
  rw[List.append_nil]
 | n+1,k,l,out,h=>by
  have lt:f k % l.length<l.length:=Nat.mod_lt _ (by omega)
  unfold pickOrder.go
  rw[List.getElem?_eq_getElem lt]
  dsimp only
  refine(tZ f n (k+1) _ _ (by rw[List.length_eraseIdx_of_lt lt];omega)).trans ?_
  rw[Array.toList_push,List.append_assoc]
  refine List.Perm.append_left _ ?_
  have e:l=l.take (f k % l.length)++l[f k % l.length]::l.drop (f k % l.length+1):=by rw[←List.drop_eq_getElem_cons lt,List.take_append_drop]
  rw[List.eraseIdx_eq_take_drop_succ]
  conv=>rhs;rw[e]
  show(l[f k % l.length]::(l.take (f k % l.length)++l.drop (f k % l.length+1))).Perm _
  exact List.perm_middle.symm
section
variable {P:Program} {w:World} {A:Around} {E:Value→Shared→Prop}
theorem t_ {α:Type}:∀(n:Nat) (l:List α) (s:Shared) (Q:List α→Shared→Prop),l.length=n→(∀ys d',ys.Perm l→Q ys {s with drawn:=d'})→wpAny (model P w) A (drawOrder n l) Q E s
 | 0,l,s,Q,hl,h=>by
  have:l=[]:=List.length_eq_zero_iff.mp hl
  subst this
  unfold drawOrder
  exact wpAny_pure (h [] s.drawn (.refl _))
 | n+1,[],s,Q,hl,h=>by cases hl
 | n+1,x::l,s,Q,hl,h=>by
  unfold drawOrder
  have go:∀i,i<(x::l).length→wpAny (model P w) A (match (x::l)[i]? with | some y=>do return y::(←drawOrder n ((x::l).eraseIdx i)) | none=>unsupported "internal:drawOrder") Q E {s with drawn:=s.drawn.bump .order}:=fun i hi=>by
   rw[List.getElem?_eq_getElem hi]
   dsimp only
   refine wpAny_bind (t_ n _ _ _ (by rw[List.length_eraseIdx_of_lt hi];omega) fun ys d' p=>wpAny_pure ?_)
   refine h _ d' ?_
   have e:(x::l)=(x::l).take i++(x::l)[i]::(x::l).drop (i+1):=by rw[←List.drop_eq_getElem_cons hi,List.take_append_drop]
   refine(p.cons _).trans ?_
   rw[List.eraseIdx_eq_take_drop_succ]
   conv=>rhs;rw[e]
   exact List.perm_middle.symm
  refine wpAny_bind ?_
  exact fun _ _ hΓ=>⟨by simp,go _ (Nat.mod_lt _ (by simp))⟩
end
section
variable {P:Program} {w:World} {A:Around} {E:Value→Shared→Prop} {s:Shared}
theorem DN {r:Addr} {Q:Bool→Shared→Prop} (hT:s.TypeIs (.ref r) "set") (h:Q false s):wpAny (model P w) A (Builtin.List.listLengthHint (.ref r)) Q E s:=by
 unfold Builtin.List.listLengthHint
 refine wpAny_bind (wpAny_specialOf hT PySem.F.slot_set_len.lookup ?_)
 generalize hid:("set.__len__":String)=id0
 wp_delta
 rw[show splitId id0=some ("set","__len__") from by subst hid;decide+kernel]
 subst hid
 refine wpAny_bind (wpAny_isInstance (T:="set") (b:=true) hT (by rw[isSubtype_type];kernel_rfl) ?_)
 refine wpAny_ite_split (fun hab=>absurd hab (by decide)) (fun _=>?_)
 refine wpAny_ite_split (fun _=>?_) (fun hab=>absurd (by decide+kernel) hab)
 exact wpAny_bind (wpAny_typeOf hT (wpAny_pure h))
end
end L2
namespace L2
open PySem PySem.Spec PyProof.Rows
open PySem.AutoSeq1 (wpAny_loadPart')
theorem n_:∀{l:List Str} {ss:List Str},l.Nodup→(∀y∈l,y∈ss)→l.length≤ss.length
 | [],ss,_,_=>Nat.zero_le _
 | x::l,ss,h,hs=>by
  rw[List.nodup_cons] at h
  have hx:=hs x List.mem_cons_self
  have:=n_ (l:=l) (ss:=ss.erase x) h.2 fun y hy=>(List.mem_erase_of_ne (fun e:y=x=>h.1 (by rw[←e];exact hy))).mpr (hs y (List.mem_cons_of_mem _ hy))
  rw[List.length_erase_of_mem hx] at this
  have hp:0<ss.length:=List.length_pos_of_mem hx
  rw[List.length_cons]
  omega
theorem pL (x:Str) (l:List Str):inV (.str x) (l.map V.str)=decide (x∈l):=by
 induction l with
 | nil=>rfl
 | cons y l ih=>
  unfold inV at ih ⊢
  rw[List.map_cons,List.any_cons,ih]
  show((y == x)||_)=_
  by_cases e:y=x
  ·simp[e]
  ·have e':¬x=y:=fun z=>e z.symm
   simp[e,e']
end L2
namespace L2
open PySem PySem.Spec PyProof.Rows PySem.W PySem.Builtin PySem.Builtin.ObjectAttr
end L2
namespace HT
open PySem PySem.Spec PyProof.Rows
section
variable {prog:Program} {w:World} {A:Around} {E:Value→Shared→Prop} {s:Shared}
theorem nF {t sl:Addr} {items:Array Value} {vl vu:Value} {lo hi:Option Int} {Q:Value→Shared→Prop} (ht:IsTup s.heap t items) (hs:s.heap.IsSliceOf sl vl vu .none) (pl:IsPart vl lo) (pu:IsPart vu hi)
  (hw:aV items.size 0 lo=0∧aV items.size items.size hi=items.size) (h:Q (.ref t) s):wpAny (model prog w) A (getItem (.ref t) (.ref sl)) Q E s:=by
 obtain⟨os,hos,hcs,hds⟩:=id hs
 have hTs:s.TypeIs (.ref sl) "slice":=⟨os,hos,hcs⟩
 unfold getItem
 try with_reducible refine wpAny_holding ?_
 first | refine wpAny_bind (wpAny_pure ?_) | skip
 refine wpAny_bind (wpAny_sequenceKey ht.typeIs (by decide) ?_)
 refine wpAny_bind (wpAny_callSpecial?_slot (name:=Str.ofString "__getitem__") ht.typeIs PyProof.Rows.slot_tuple_getitem
  (wpAny_call_entry PyProof.Rows.slot_tuple_getitem ht.typeIs entry_tuple_getitem ?_ (args_tuple_getitem _ _)))
 show wpAny _ _ (Builtin.Tuple.tupleItemsOf (.ref t) >>= _) _ _ s
 refine wpAny_bind (tupleItemsOf_ ht ?_)
 refine wpAny_bind (wpAny_typeOf hTs ?_)
 rw[if_pos (by decide)]
 refine wpAny_bind (jR hs pl pu ?_)
 have hyes:(((aV items.size 0 lo:Nat):Int) == 0&&(1:Int) == 1&&(aV items.size items.size hi-aV items.size 0 lo) == items.size)=true:=by
  rw[hw.1,hw.2];simp
 show wpAny _ _ (if(((aV items.size 0 lo:Nat):Int) == 0&&(1:Int) == 1&&(aV items.size items.size hi-aV items.size 0 lo) == items.size)=true then _ else _) _ _ s
 rw[if_pos hyes]
 refine wpAny_bind ?_
 unfold Builtin.Tuple.tupleIsExact
 refine wpAny_bind (wpAny_typeOf ht.typeIs (wpAny_pure ?_))
 rw[if_pos (by decide)]
 exact wpAny_bind (wpAny_rule (wpAny_pure ⟨_,rfl,wpAny_pure h⟩))
end
end HT
namespace L2
open PySem PySem.Spec PyProof.Rows
section
variable {X:Cx}
def Fu (K:PySem.W.Frag):V→Option Int→Option Int→Hp→VK→Prop:=fun x lo hi H Q=>∃a xs,x=.ref a∧bH K H a xs∧
 ((HT.aV xs.length 0 lo=0∧HT.aV xs.length xs.length hi=xs.length)→Q (.ref a) H)∧
 (¬(HT.aV xs.length 0 lo=0∧HT.aV xs.length xs.length hi=xs.length)→∀p,H p=none→Q (.ref p) (upd H p (.tup (gi xs lo hi))))
theorem oW (K:PySem.W.Frag) (hK:X.K=K:=by rfl):yg X (Fu K):=by
 subst hK
 intro pins s σ H x v vl vu lo hi sl Q I rx hs pl pu h
 obtain⟨a,xs,rfl,hx,hw,q⟩:=h
 by_cases c:HT.aV xs.length 0 lo=0∧HT.aV xs.length xs.length hi=xs.length
 ·cases rx
  obtain⟨its,r,ht,hz⟩:=I.tuple hx
  have hlen:its.toArray.size=xs.length:=by rw[List.size_toArray];exact r.length.symm
  refine⟨"tuple",_,PyProof.Rows.slot_tuple_getitem.lookup,ht.typeIs,?_⟩
  exact HT.nF ht hs pl pu (by rw[hlen];exact c) ⟨.ref a,H,I,rfl,hw c⟩
 ·exact Ij pins s σ H _ v vl vu lo hi sl Q I rx hs pl pu ⟨a,xs,rfl,hx,c,q c⟩
end
section
open Builtin
theorem pM:fillsNumberSlot (.type "tuple") "mul"=pure false:=
 PySem.fillsNumberSlot_seq (id:="tuple.__mul__") (r:=some (.builtin "tuple.__rmul__")) PySem.F.slot_tuple_mul.lookup (by decide+kernel) PySem.F.slot_tuple_rmul.lookup (by decide+kernel)
theorem vR:seqRepeat? (.type "tuple")=pure (some (.builtin "tuple.__mul__")):=by
 unfold seqRepeat?
 rw[PySem.seqSlot_of (T:="tuple") (name:="__mul__") (id:="tuple.__mul__") PySem.F.slot_tuple_mul.lookup (by decide+kernel),PySem.seqSlot_of (T:="tuple") (name:="__rmul__") (id:="tuple.__rmul__") PySem.F.slot_tuple_rmul.lookup (by decide+kernel)]
 rfl
theorem rL (a:Int) (t:Tok) (l:Addr) (items:Array Value) (n:Nat) (dd:Option Addr) (sl:Array (Option Value)):
  Meets (Builtin.«int.__rmul__» ⟨[.int a t,.ref l],[]⟩) (fun _ R s=>s.heap.get? l=some {cls:=.type "tuple",dict:=dd,data:=.seq items n,slots:=sl}∧R (.ok (.ret Value.notImplemented)) s):=
 .of_wp fun prog w A R s h=>by obtain⟨hp,g,d,tk,os⟩:=s;obtain⟨hl,h⟩:=h;wp_walk;exact⟨_,rfl,h⟩
theorem Bn (l:Addr) (items:Array Value) (n:Nat) (dd:Option Addr) (sl:Array (Option Value)) (x:Int) (u:Tok) (hc0:¬(decide (x< -(2 ^ 63))||decide (x ≥ 2 ^ 63))=true) (hc1:¬(items.isEmpty||x == 1)=true) (hc2:¬(decide (x≤0)||items.isEmpty)=true)
  (hc3:¬((items.size:Int)*x>(2 ^ 63-1) / 8)) (hc4:¬Builtin.Tuple.tupleTooMany ((items.size:Int)*x)=true) (hc5:(List.foldl (fun x1 x2=>x1++x2) #[] (List.replicate x.toNat items)).size≤sizeLine):
  Meets (Builtin.«tuple.__mul__» ⟨[.ref l,.int x u],[]⟩) (fun _ R s=>s.heap.get? l=some {cls:=.type "tuple",dict:=dd,data:=.seq items n,slots:=sl}∧R (.ok (.ret (Value.ref s.heap.objs.size))) {s with heap:=s.heap.push {cls:=Value.type "tuple",data:=Data.seq (List.foldl (fun x1 x2=>x1++x2) #[] (List.replicate x.toNat items))},toks:=s.toks}):=
 .of_wp fun prog w A R s h=>by
  obtain⟨hp,g,d,tk,os⟩:=s;obtain⟨hl,h⟩:=h
  have f1:=AutoSeq1.idx_int
  have ht:IsTup hp l items:=⟨_,hl,rfl,n,rfl⟩
  wp_walk using wpAny_loadPart' hl
  rw[if_neg hc0]
  dsimp only
  refine wpAny_bind (tupleItemsOf_ ht ?_)
  rw[if_neg hc1]
  try dsimp only
  rw[if_neg hc2]
  try dsimp only
  rw[if_neg hc3]
  try dsimp only
  rw[if_neg hc4]
  try dsimp only
  first
   | exact wpAny_bind (m:=Builtin.Tuple.tupleExact _) (wpAny_newObj_type (wpAny_pure ⟨_,rfl,h⟩) hc5)
   | exact wpAny_bind (m:=Builtin.Tuple.tupleExact _) (wpAny_newObj_type (wpAny_pure h) hc5)
   | exact wpAny_bind (m:=Builtin.Tuple.tupleExact _) (wpAny_newObj_type (wpAny_bind (wpAny_pure (wpAny_pure ⟨_,rfl,h⟩))) hc5)
def MP (K:PySem.W.Frag):R2:=fun x y H Q=>∃(a:Addr) (xs:List V) (k:Nat),x=.ref a∧y=.int (k:Int)∧bH K H a xs∧xs≠[]∧2≤k∧xs.length*k≤100000∧∀p,H p=none→Q (.ref p) (upd H p (.tup (List.replicate k xs).flatten))
theorem j_ {X:Cx} (K:PySem.W.Frag) (hK:X.K=K:=by rfl):cG X (binaryOp .Mult) (MP K):=by
 subst hK
 intro pins s σ H x y v u Q I rx ry h
 obtain⟨a,xs,k,rfl,rfl,ha,hx,hk,hz,q⟩:=h
 cases rx
 obtain⟨t,rfl⟩:=ry
 obtain⟨its,r,p1,_⟩:=I.tuple ha
 obtain⟨⟨cls,dd,data,sl⟩,ho,hc,n,hd⟩:=id p1
 simp only at hc hd
 subst hc hd
 have li:its.length=xs.length:=r.length.symm
 have lp:0<its.length:=by rw[li];exact List.length_pos_iff.mpr hx
 have mk:its.length*k≤100000:=by rw[li];exact hz
 have kk:k≤100000:=Nat.le_trans (Nat.le_mul_of_pos_left k lp) mk
 have e0:its.toArray.isEmpty=false:=by cases its with | nil=>simp at lp | cons _ _=>simp
 have e1:((its.toArray.size:Nat):Int)*(k:Int)=((its.length*k:Nat):Int):=by rw[List.size_toArray,Int.natCast_mul]
 have hnew:List.foldl (fun x1 x2=>x1++x2) #[] (List.replicate (k:Int).toNat its.toArray)=(List.replicate k its).flatten.toArray:=by
  have:=foldl_rep its k []
  rw[List.nil_append] at this
  rw[Int.toNat_natCast]
  exact this
 have lf:(List.replicate k its).flatten.length≤100000:=by rw[len_rep,Nat.mul_comm];exact mk
 have m0:¬(decide ((k:Int)< -(2 ^ 63))||decide ((k:Int) ≥ 2 ^ 63))=true:=by
  rw[decide_eq_false (by omega),decide_eq_false (by omega)];decide
 have m1:¬(its.toArray.isEmpty||(k:Int) == 1)=true:=by
  rw[e0,Bool.false_or]
  intro z
  have:=eq_of_beq z
  omega
 have m2:¬(decide ((k:Int)≤0)||its.toArray.isEmpty)=true:=by rw[e0,decide_eq_false (by omega)];decide
 have m3:¬(((its.toArray.size:Nat):Int)*(k:Int)>(2 ^ 63-1) / 8):=by rw[e1];omega
 have m4:¬Builtin.Tuple.tupleTooMany (((its.toArray.size:Nat):Int)*(k:Int))=true:=by
  rw[e1]
  simp[Builtin.Tuple.tupleTooMany,sizeLine]
  omega
 refine wpAny_binaryOp_repeat_ref (T:="tuple") (U:="int") (by decide) ⟨_,ho,rfl⟩ (fun s'=>typeIs_int s' _ t) pM PySem.F.fills_int_mul PySem.F.slot_int_rmul vR PySem.F.slot_int_index.lookup
  (call_meets PySem.F.slot_int_rmul (typeIs_int s _ t) PySem.F.entry_int_rmul (PySem.F.args_int_rmul_2 _ _) (rL _ t a its.toArray n dd sl)
   ⟨ho,rfl,⟨_,ho,rfl⟩,call_meets PySem.F.slot_tuple_mul ⟨_,ho,rfl⟩ PySem.F.entry_tuple_mul (PySem.F.args_tuple_mul_2 _ _) (Bn a its.toArray n dd sl _ t m0 m1 m2 m3 m4 (by rw[hnew,List.size_toArray];exact Nat.le_trans lf (by decide))) ⟨ho,?_⟩⟩)
 rw[hnew]
 refine⟨.ref _,_,I.laid (t':=s.toks) (o:=.tup (List.replicate k xs).flatten) (fun b ob q=>Heap.get?_push_of_some _ q) (Nat.le_refl _) ?_,rfl,q _ (I.hok.fresh (Nat.le_refl _))⟩
 exact⟨⟨by rw[len_rep,Nat.mul_comm];exact Nat.le_trans hz (by decide),_,Heap.get?_push_size _ rfl,rfl⟩,_,r.rep k,IsTup.new _ _⟩
end
section
variable {X:Cx}
theorem I_ {K:PySem.W.Frag}:PySem.W.kitOne K (.type "bool") (.type "bool")=some true:=by rfl
end
section
variable {X:Cx} {e:Expr} {lo hi:Option Expr} {st:Expr} {te:TE} {tl th tk:TO} {p2 pos:Pos}
def Pz (K:PySem.W.Frag):List V→Hp→VK→Prop:=fun xs H Q=>∃(a:Addr) (bs:List Bool),xs=[.ref a]∧br K H a (bs.map V.bl)∧Q (.bl (bs.any id)) H
theorem n8 (K:PySem.W.Frag) (hc:X.calm=true) (hK:X.K=K:=by rfl):dh X (.builtin "any") (Pz K):=by
 subst hK
 intro pins s σ H xs us Q I r h
 obtain⟨a,bs,rfl,hq,q⟩:=h
 obtain⟨u,rfl,ru⟩:=vals1 r
 cases ru
 obtain⟨its,rv,p,_⟩:=I.list hq
 have e:=qA rv
 have bl:a<s.heap.objs.size:=by obtain⟨o,e,_⟩:=p.isList;exact Heap.lt_size e
 refine call_any_walk ?_
 refine wpAny_pyIter_list p.isList ?_
 refine⟨s.heap.objs.size,_,_,_,_,_,fun i=>(bs.getD i false),rfl,Walks.list (A:=X.A.in1) (I.ok.hd hc) _ a (Nat.ne_of_lt bl) its.toArray,⟨⟨_,Heap.get?_push_size _ rfl,rfl,rfl⟩,p.isList.push _⟩,?_,fun h' tk k=>?_⟩
 ·intro i v s' Q' E' hv hQ'
  have:v=.bool (bs.getD i false):=by
   rw[List.getElem?_toArray,e,List.getElem?_map] at hv
   rw[List.getD_eq_getElem?_getD]
   cases eb:bs[i]? with
   | none=>rw[eb] at hv;cases hv
   | some b=>rw[eb] at hv;exact(Option.some.inj hv).symm
  rw[this]
  exact wpAny_truthy_bool hQ'
 ·refine⟨.bl (bs.any id),H,I.kept fun b o eo=>k b o (fun z=>Nat.ne_of_lt (Heap.lt_size eo) (List.mem_singleton.mp z)) (Heap.get?_push_of_some _ eo),?_,q⟩
  have hl:its.toArray.size=bs.length:=by simp[e]
  have ea:∀cs:List Bool,(List.range cs.length).any (fun i=>cs.getD i false)=cs.any id:=fun cs=>by
   induction cs with
   | nil=>rfl
   | cons c cs ih=>
    rw[List.length_cons,List.range_succ_eq_map,List.any_cons,List.any_map,List.any_cons,←ih]
    rfl
  show _=Value.bool _
  rw[hl,ea]
def MQ (K:PySem.W.Frag) (x:V) (l u k:Option Int):Hp→VK→Prop:=fun H Q=>∃a xs,l=none∧u=none∧k=some (-1)∧x=.ref a∧br K H a xs∧∀p,H p=none→Q (.ref p) (upd H p (.lst xs.reverse))
def MS (K:PySem.W.Frag) (te:TE) (tl th tk:TO):TE:=fun σ H Q=>te σ H fun x H1=>tl σ H1 fun l H2=>th σ H2 fun u H3=>tk σ H3 fun k H4=>MQ K x l u k H4 Q
theorem G3 (K:PySem.W.Frag) (he:PE X e te) (hl:PO X lo tl) (hu:PO X hi th) (hk:PO X (some st) tk) (hK:X.K=K:=by rfl):PE X (.Subscript e (.Slice lo hi (some st) p2) pos) (MS K te tl th tk):=by
 subst hK
 intro pins s σ H Q I h
 refine Subscript_ (aK (he pins s σ H _ I h) fun v s1 ⟨x,H1,I1,r1,q1⟩=>?_)
 refine wpAny_Slice (aK (hl pins s1 σ H1 _ I1 q1) fun vl s2 ⟨l,H2,I2,pl,q2⟩=>aK (hu pins s2 σ H2 _ I2 q2) fun vu s3 ⟨u,H3,I3,pu,q3⟩=>aK (hk pins s3 σ H3 _ I3 q3) fun vk s4 ⟨k,H4,I4,pk,q4⟩=>?_)
 obtain⟨a,xs,rfl,rfl,rfl,rfl,hx,q⟩:=q4
 cases pl
 cases pu
 cases pk with
 | int i t=>
  cases r1
  have I5:Inv X pins σ H4 {s4 with heap:=s4.heap.push {cls:=.type "slice",data:=.fields #[.none,.none,.int (-1) t]}}:=I4.kept (t':=s4.toks) fun b ob q=>Heap.get?_push_of_some _ q
  obtain⟨its,r,ht,hz⟩:=I5.list hx
  have hlen:its.toArray.size=xs.length:=by rw[List.size_toArray];exact r.length.symm
  show wpAny (model X.prog X.w) X.A (subscriptTail e (.Slice lo hi (some st) p2) (.ref a) (.ref s4.heap.objs.size)) (EP X pins σ Q) X.xe {s4 with heap:=s4.heap.push {cls:=.type "slice",data:=.fields #[.none,.none,.int (-1) t]}}
  refine tail_any (ops:=[.ref a,.ref s4.heap.objs.size]) ht.isList.typeIs list_getitem_lookup ?_ (by with_unfolding_all rfl)
  refine wpAny_getItem_list_slice (lo:=none) (hi:=none) (st:=some (-1)) ht.isList (Heap.IsSliceOf.new ..) .none .none (.int _ _) (by decide) ?_ (by rw[hlen];exact hz)
  rw[PySem.W.krv_pick]
  refine⟨.ref _,_,I5.laid (o:=.lst xs.reverse) (t':=s4.toks) (fun _ _ q=>Heap.get?_push_of_some _ q) (Nat.le_refl _) ?_,rfl,q _ (I5.hok.fresh (Nat.le_refl _))⟩
  exact⟨by rw[List.length_reverse];exact hz,_,0,rG r,Heap.get?_push_size _ rfl⟩
end
def Its (x:Str):It:=⟨fun i _=>i<x.cps.size,fun i H y H'=>H'=H∧∃c,x.cps[i]? =some c∧y=.str ⟨#[c]⟩,fun i _=>x.cps.size≤i⟩
theorem DP {P:Program} {w:World} {K:PySem.W.Frag} {tg:Expr} (it:Addr) (x:Str) (t:Tok):Turn P w K tg (Its x) [it] it (fun i h=>h.IsStrIter it "str_ascii_iterator" x t i) where
 mem:=by simp
 obj:=fun i h st b hb=>by
  have e:b=it:=by simpa using hb
  subst e
  obtain⟨o,e,c,d⟩:=st
  exact⟨o,e,fun v z=>by rw[d] at z;cases z⟩
 keep:=fun i h h' st k=>let ⟨o,ho,r⟩:=st;⟨o,k it (by simp) o ho,r⟩
 item:=by
  intro X hP hw hK hc i pins s σ H E I hf st hg
  subst hP hw hK
  obtain⟨f0,f1,f2,f3,f4,f5⟩:=hf it (by simp)
  have hg':i<x.cps.size:=hg
  refine wpAny_pyNext_ascii_item st (c:=x.cps[i]) (by simp[hg']) fun h' st' sb=>?_
  have I1:Inv X pins σ H {s with heap:=h',toks:=s.toks+1}:=I.turned (fun b o hb e=>(sb.2 b hb).trans e) f0 f1 f3 f4 f5
  obtain⟨o,e,c,d⟩:=id st'
  exact⟨_,rfl,uZ (s:={s with heap:=h',toks:=s.toks+1}) e c d (by decide) ⟨.str ⟨#[x.cps[i]]⟩,H,I1,⟨_,rfl⟩,⟨rfl,_,by simp[hg'],rfl⟩,st',fun b hb=>(hf b hb).1⟩⟩
 done:=by
  intro X hP hw hK hc i pins s σ H E I hf st hg
  subst hP hw hK
  obtain⟨f0,f1,f2,f3,f4,f5⟩:=hf it (by simp)
  have hg':x.cps.size≤i:=hg
  exact wpAny_pyNext_ascii_end (I.ok.hd hc) st (by simp[hg']) fun h' eb=>⟨rfl,I.turned (t':=s.toks) (fun b o hb e=>eb b o hb e) f0 f1 f3 f4 f5⟩
 self:=fun _ _ _ _ _ st h=>wpAny_pyIter_striter_ascii st h
def PB (tl:TE):TI:=fun σ H R=>tl σ H fun x H1=>∃z:Str,x=.str z∧z.cps.all (· <128)=true∧R (Its z) H1
section
variable {X:Cx} {tg:Expr}
theorem I0 {l:Expr} {tl:TE} (hl:PE X l tl):PI X tg l (PB tl):=by
 intro pins s σ H R I h
 refine aK (hl pins s σ H _ I h) fun v s1 ⟨x,H1,I1,r1,q1⟩=>?_
 obtain⟨z,rfl,ha,q⟩:=q1
 obtain⟨t,rfl⟩:=r1
 refine wpAny_pyIter_ascii ha ?_
 refine⟨s1.heap.objs.size,[s1.heap.objs.size],_,_,H1,rfl,I1.kept (t':=s1.toks) fun b o e=>Heap.get?_push_of_some _ e,DP _ z t,⟨_,Heap.get?_push_size _ rfl,rfl,rfl⟩,fun b hb=>?_,q⟩
 have e:b=s1.heap.objs.size:=by simpa using hb
 subst e
 exact I1.jb (Nat.le_refl _) (I1.hok.fresh (Nat.le_refl _))
end
theorem G4 {z:Str} {g:TG} {tb:TS} {D:Ends} {σ:St} {H:Hp} (Pv:Nat→St→Hp→Prop) (h0:Pv 0 σ H)
  (hs:∀i c σ H,z.cps[i]? =some c→Pv i σ H→g (.str ⟨#[c]⟩) σ H fun σ2 H2=>tb {D with nx:=Pv (i+1),ct:=Pv (i+1),bk:=D.nx} σ2 H2) (hd:∀σ H,Pv z.cps.size σ H→D.nx σ H):
  ∃W:Nat→Nat→St→Hp→Prop,(∃m,W 0 m σ H)∧∀i m σ H,W i m σ H→
   ((Its z).stop i H∧D.nx σ H)∨((Its z).go i H∧∃N:St→Hp→Prop,(∀σ' H',N σ' H'→∃m',m'<m∧W (i+1) m' σ' H')∧∀x H',(Its z).pq i H x H'→g x σ H' fun σ2 H2=>tb {D with nx:=N,ct:=N,bk:=D.nx} σ2 H2):=by
 refine⟨fun i m σ H=>m=z.cps.size-i∧i≤z.cps.size∧Pv i σ H,⟨z.cps.size,by simp,Nat.zero_le _,h0⟩,?_⟩
 rintro i m σ H ⟨rfl,hi,p⟩
 by_cases hlt:i<z.cps.size
 ·refine .inr ⟨hlt,Pv (i+1),fun σ' H' p'=>⟨z.cps.size-(i+1),by omega,rfl,hlt,p'⟩,fun x H' y=>?_⟩
  obtain⟨rfl,c,hc,rfl⟩:=y
  exact hs i c σ _ hc p
 ·have e:i=z.cps.size:=by omega
  subst e
  exact .inl ⟨Nat.le_refl _,hd _ _ p⟩
section
variable {X:Cx} {e:Expr} {lo hi:Option Expr} {st:Expr} {te:TE} {tl th tk:TO} {p2 pos:Pos}
def og (x:Str):Str:=⟨x.cps.reverse⟩
theorem picked_rev (x:Str) (t:Tok):((slicePicked x none none (some (-1,t))).filterMap (x.cps[·]?)).toArray=x.cps.reverse:=by
 have e:slicePicked x none none (some (-1,t))=(List.range x.cps.size).reverse:=by
  have h:slicePicked x none none (some (-1,t))=sliceRange ((x.cps.size:Int)-1) (-1) (-1):=rfl
  rw[h,PySem.W.krv_sliceRange,PySem.W.krv_range]
 rw[e,List.filterMap_reverse,PySem.W.krv_all,←Array.toList_reverse]
def MT (x:V) (l u k:Option Int):Hp→VK→Prop:=fun H Q=>∃z:Str,l=none∧u=none∧k=some (-1)∧x=.str z∧z.length≤sizeLine∧Q (.str (og z)) H
def MU (te:TE) (tl th tk:TO):TE:=fun σ H Q=>te σ H fun x H1=>tl σ H1 fun l H2=>th σ H2 fun u H3=>tk σ H3 fun k H4=>MT x l u k H4 Q
theorem G5 (he:PE X e te) (hl:PO X lo tl) (hu:PO X hi th) (hk:PO X (some st) tk):PE X (.Subscript e (.Slice lo hi (some st) p2) pos) (MU te tl th tk):=by
 intro pins s σ H Q I h
 refine Subscript_ (aK (he pins s σ H _ I h) fun v s1 ⟨x,H1,I1,r1,q1⟩=>?_)
 refine wpAny_Slice (aK (hl pins s1 σ H1 _ I1 q1) fun vl s2 ⟨l,H2,I2,pl,q2⟩=>aK (hu pins s2 σ H2 _ I2 q2) fun vu s3 ⟨u,H3,I3,pu,q3⟩=>aK (hk pins s3 σ H3 _ I3 q3) fun vk s4 ⟨k,H4,I4,pk,q4⟩=>?_)
 obtain⟨z,rfl,rfl,rfl,rfl,hz,q⟩:=q4
 cases pl
 cases pu
 cases pk with
 | int i t=>
  obtain⟨t0,rfl⟩:=r1
  have I5:Inv X pins σ H4 {s4 with heap:=s4.heap.push {cls:=.type "slice",data:=.fields #[.none,.none,.int (-1) t]}}:=I4.kept (t':=s4.toks) fun b ob q=>Heap.get?_push_of_some _ q
  show wpAny (model X.prog X.w) X.A (subscriptTail e (.Slice lo hi (some st) p2) (.str z t0) (.ref s4.heap.objs.size)) (EP X pins σ Q) X.xe {s4 with heap:=s4.heap.push {cls:=.type "slice",data:=.fields #[.none,.none,.int (-1) t]}}
  refine tail_any (ops:=[.str z t0,.ref s4.heap.objs.size]) (typeIs_str _ _ _) PySem.F.slot_str_getitem.lookup ?_ (by with_unfolding_all rfl)
  refine wpAny_getItem_str_slice (l:=none) (u:=none) (st:=some (-1,t)) ⟨_,Heap.get?_push_size _ rfl,rfl,rfl⟩ rfl ?_
  have e1:sliceMade z t0 none none (some (-1,t))=.str (og z):=by
   unfold sliceMade
   rw[picked_rev]
   rfl
  rw[e1]
  exact⟨by show z.cps.reverse.size≤sizeLine;rw[Array.size_reverse];exact hz,⟨.str _,H4,I5.tok _,⟨_,rfl⟩,q⟩⟩
end
section
variable {X:Cx}
def Ja:V→List V→Hp→VK→Prop:=fun x vs H Q=>∃(z y:Str) (i:Nat) (rest:List Nat),x=.str z∧vs=[.str y]∧Builtin.Str.occurrences z y 0 z.length 1=i::rest∧Q (.int (i:Nat)) H
theorem DQ:vz X "str.index" Ja:=by
 intro pins s σ H x vs v us Q I rx rv h
 obtain⟨z,y,i,rest,rfl,rfl,ho,q⟩:=h
 obtain⟨t,rfl⟩:=rx
 obtain⟨u,rfl,ru⟩:=rv.one
 obtain⟨t2,rfl⟩:=ru
 exact call_gives PySem.F.slot_str_index (typeIs_str _ _ _) PySem.F.entry_str_index (PySem.F.args_str_index_2 _ _) (gives_str_index z y t t2 i rest ho) ⟨.int _,H,I.tok _,⟨_,rfl⟩,q⟩
theorem G6:cG X (binaryOp .Mult) (fun x y H Q=>∃(z:Str) (n:Int),x=.str z∧y=.int n∧0≤n∧n≤1000∧z.length≤1000∧Q (.str (Txt.mul z n)) H):=by
 intro pins s σ H x y v u Q I rx ry h
 obtain⟨z,n,rfl,rfl,h0,h1,h2,q⟩:=h
 obtain⟨t,rfl⟩:=rx
 obtain⟨t',rfl⟩:=ry
 refine SB.mul ⟨?_,?_,?_⟩ fun t' k=>⟨.str _,H,I.tok k,⟨t',rfl⟩,q⟩
 ·have a:¬n< -(2 ^ 63:Int):=by omega
  have b:¬n ≥ 2 ^ 63:=by omega
  simp only[a,b,decide_false,Bool.or_self]
 ·intro a b c
  have e:(1000:Int)≤(2 ^ 63-1) / n:=by
   rw[Int.le_ediv_iff_mul_le (by omega)]
   omega
  omega
 ·intro a b
  have h3:z.length*n.toNat≤1000*1000:=Nat.mul_le_mul h2 (by omega)
  have h4:(1000*1000:Nat)≤sizeLine:=by decide
  exact decide_eq_false (by omega)
end
theorem t7 {X:Cx} {a:Expr} {ta:TE} (K:PySem.W.Frag) (ha:PE X a ta) (he:∀whole,isTrue a X.env whole=(do let v ←whole;standAt a.pos;holding [v] (truthy v))) (hK:X.K=K:=by rfl):
  PT X a (fun σ H Q=>ta σ H fun x H'=>∃k,Dy K x H' k∧Q k H'):=by subst hK;exact dB ha he
section
variable {prog:Program} {w:World} {A:Around} {E:Value→Shared→Prop} {s:Shared}
theorem bK {h h':Heap} {it t b:Addr} {i:Nat} (x:h.IsTupleIter it t i) (sb:Heap.ExtBut b h h') (n:it≠b):h'.IsTupleIter it t i:=let ⟨o,ho,r⟩:=x;⟨o,sb _ _ n ho,r⟩
theorem dI {h h':Heap} {t b:Addr} {ys:Array Value} (x:h.IsTuple t ys) (sb:Heap.ExtBut b h h') (n:t≠b):h'.IsTuple t ys:=let ⟨o,ho,r⟩:=x;⟨o,sb _ _ n ho,r⟩
abbrev yr (l:Addr):Obj:={cls:=.type "tuple_iterator",data:=.fields #[.ref l,.int 0 0]}
end
structure gE (ps aF:List Str) (scope:Scope):Prop where
 kind:scope.kind=.function
 co:scope.isCoroutine=false
 gen:scope.isGenerator=false
 Bo:∀x∈scope.names,x.2≠.cell
 par:∀x∈ps,scope.names.lookup x=some .local
 free:∀x∈aF,scope.names.lookup x=some .free
 only:∀x,scope.names.lookup x=some .free→x∈aF
 nd:(ps++aF).Nodup
structure iw (h:Heap) (cl:List (Str×Addr)) (aF:List Str) (fvs:List V):Prop where
 inj:∀x y c,cl.lookup x=some c→cl.lookup y=some c→x=y
 cell:∀x c,cl.lookup x=some c→∃v,h.IsCell c v
 vals:Paired (fun x v=>∃c u,cl.lookup x=some c∧h.IsCell c (some u)∧RelV v u) aF fvs
def Bp (P:Program) (w:World) (K:PySem.W.Frag) (mg:Str→Option Value) (base:Heap) (N:List Str) (qual:Str) (scope:Scope) (f:Addr) (cd:Value) (cl:List (Str×Addr)) (A:Around) (outer:List Env) (s:Shared) (H:Hp):Cx where
 prog:=P
 w:=w
 K:=K
 mg:=mg
 base:=base
 A:=A.deeper (PySem.W.envX qual scope s.heap.objs.size f cd cl)
 N:=N
 s₀:=s
 H₀:=H
 env:=PySem.W.envX qual scope s.heap.objs.size f cd cl
 outer:=outer
 stack:=PySem.W.envX qual scope s.heap.objs.size f cd cl::outer
 ex:=[]
 calm:=true
 fn:=fun _=>false
 pn:=[]
 xe:=fun _ _=>False
theorem yt {ps:List Str} {us:List Value} (nd:ps.Nodup) (hl:ps.length≤us.length) {i:Nat} {y:Str} {u:Value} (hp:ps[i]? =some y) (hu:us[i]? =some u):(ps.zip us).reverse.lookup y=some u:=by
 have hm:(y,u)∈(ps.zip us).reverse:=by
  rw[List.mem_reverse]
  refine List.mem_of_getElem? (i:=i) ?_
  rw[List.getElem?_zip_eq_some]
  exact⟨hp,hu⟩
 have hn:((ps.zip us).reverse.map (·.1)).Nodup:=by
  rw[List.map_reverse]
  refine(List.reverse_perm _).nodup_iff.mpr ?_
  rw[List.map_fst_zip hl]
  exact nd
 generalize (ps.zip us).reverse=l at hm hn
 induction l with
 | nil=>cases hm
 | cons p l ih=>
  rw[List.map_cons,List.nodup_cons] at hn
  rcases List.mem_cons.mp hm with e | e
  ·subst e;exact List.lookup_cons_self
  ·have:y≠p.1:=fun z=>hn.1 (by rw[←z];exact List.mem_map.mpr ⟨_,e,rfl⟩)
   obtain⟨a,b⟩:=p
   rw[List.lookup_cons,show(y == a)=false from beq_false_of_ne this]
   exact ih e hn.2
theorem cZ {α β:Type} {F:α→β→Prop}:∀{l:List α} {m:List β} {i:Nat} {a:α},Paired F l m→l[i]? =some a→∃b,m[i]? =some b∧F a b
 | _,_,_,_,.nil,h=>by simp at h
 | _,_,0,_,.cons r _,h=>by simp at h;subst h;exact⟨_,rfl,r⟩
 | _,_,i+1,_,.cons _ t,h=>by
  simp only[List.getElem?_cons_succ] at h ⊢
  exact cZ t h
theorem G7 {P:Program} {w:World} {K:PySem.W.Frag} {mg:Str→Option Value} {base:Heap} {ps aF:List Str} {qual:Str} {scope:Scope} {f:Addr} {cd:Value} {cl:List (Str×Addr)} {A:Around} {outer:List Env} {s:Shared} {H:Hp} {us:List Value} {vs fvs:List V} {h1:Heap} {fo:Obj} {tk:Nat}
  (S:gE ps aF scope) (hd:A.handled=none) (e0:pH P w K mg base A outer s H) (hl:vs.length=ps.length) (r:Vals vs us) (C:iw base cl aF fvs)
  (hns:h1.Ns s.heap.objs.size fun x=>(ps.zip us).reverse.lookup x) (hsb:Heap.SameBut s.heap.objs.size (s.heap.push fo) h1):
  Inv (Bp P w K mg base (ps++aF) qual scope f cd cl A outer s H) [] (vs.map some++fvs.map some) H {s with heap:=h1,toks:=tk}:=by
 have hk:∀b o,s.heap.get? b=some o→h1.get? b=some o:=fun b o e=>hsb.extBut b o (Nat.ne_of_lt (Heap.lt_size e)) (Heap.get?_push_of_some _ e)
 have hkb:∀b o,base.get? b=some o→h1.get? b=some o:=fun b o e=>hk b o (e0.bs b o e).1
 have ki:∀b:Addr,b ∉ (Bp P w K mg base (ps++aF) qual scope f cd cl A outer s H).ex:=fun b z=>absurd (show b∈([]:List Addr) from z) (by simp)
 have lf:aF.length=fvs.length:=Paired.length C.vals
 refine⟨⟨e0.mod,S.kind,rfl,rfl,Nat.le_refl _,C.inj,fun y hy=>?_,fun y c z=>(nomatch z),fun _=>hd,Around.frames_deeper e0.frames,.inr ⟨rfl,rfl⟩,fun b z=>absurd z (ki b),e0.bs,e0.nG,fun b _ _=>ki b,fun b z=>absurd z (ki b),e0.g_,e0.tF⟩,
  rfl,e0.bare,Un.kept hk,⟨_,hns,fun i y v h1' h2 h3=>?_⟩,fun y c h=>?_,e0.hok.fresh (Nat.le_refl _),fun y c h=>?_,fun p hp=>absurd (show p∈([]:List (Addr×Obj)) from hp) (by simp),e0.hok.kept hk,?_⟩
 ·have hy:scope.names.lookup y=some .cell∨scope.names.lookup y=some .free:=hy
  rcases hy with hy | hy
  ·exact absurd rfl (S.Bo _ (PySem.mem_of_lookup hy))
  ·have hm:=S.only y hy
   obtain⟨i,hi⟩:=List.getElem?_of_mem hm
   obtain⟨v,_,c,u,hc,_⟩:=cZ C.vals hi
   exact⟨c,hc⟩
 ·have hU:(ps++aF)[i]? =some y:=h1'
  by_cases hi:i<ps.length
  ·rw[List.getElem?_append_left hi] at hU
   rw[List.getElem?_append_left (by rw[List.length_map];omega),List.getElem?_map] at h2
   obtain⟨v',hv',e⟩:=Option.map_eq_some_iff.mp h2
   have e':v'=v:=Option.some.inj e
   subst e'
   obtain⟨u,hu,rv⟩:=r.get hv'
   have yd:ps.Nodup:=(List.nodup_append.mp S.nd).1
   exact⟨u,rv,.inl ⟨S.par y (List.mem_of_getElem? hU),yt yd (by rw[←hl,r.length];exact Nat.le_refl _) hU hu⟩⟩
  ·rw[List.getElem?_append_right (by omega)] at hU
   rw[List.getElem?_append_right (by rw[List.length_map];omega),List.length_map,hl,List.getElem?_map] at h2
   obtain⟨v',hv',e⟩:=Option.map_eq_some_iff.mp h2
   have e':v'=v:=Option.some.inj e
   subst e'
   obtain⟨v2,hv2,c,u,hc,⟨o,ho,hd'⟩,rv⟩:=cZ C.vals hU
   rw[hv'] at hv2
   cases hv2
   exact⟨u,rv,.inr ⟨.inr (S.free y (List.mem_of_getElem? hU)),c,hc,o,hkb _ _ ho,hd'⟩⟩
 ·obtain⟨v,o,ho,hd'⟩:=C.cell y c h
  exact⟨v,o,hkb _ _ ho,hd'⟩
 ·obtain⟨v,o,ho,hd'⟩:=C.cell y c h
  exact(e0.bs c o ho).2
 ·show _=(ps++aF).length
  rw[List.length_append,List.length_map,List.length_map,List.length_append,hl,lf]
theorem Jb {P:Program} {w:World} {K:PySem.W.Frag} {mg:Str→Option Value} {base:Heap} {k:Nat} {f c':Addr} {name qual:Str} {params:Arguments} {body:Expr} {scope:Scope} {cl:List (Str×Addr)} {pm ctv:Value} {ps aF:List Str} {fvs:List V} {sp:Sp}
  (ho:base.get? f=some (PySem.W.kla_obj name qual params body scope cl pm c' ctv)) (oh:base.CodeRec (.ref c') qual) (S:gE ps aF scope) (C:iw base cl aF fvs) (len:∀vs H Q E,sp vs H Q E→vs.length=ps.length)
  (hbody:∀(A:Around) (outer:List Env) (s:Shared) (H:Hp) (vs:List V) (Q:VK) (E:XK),aP k (A.deeper (PySem.W.envX qual scope s.heap.objs.size f (.ref c') cl))→sp vs H Q E→
   ∃t,PE (Bp P w K mg base (ps++aF) qual scope f (.ref c') cl A outer s H) body t∧t (vs.map some++fvs.map some) H Q):
  bf P w K mg base bT (k+1) f (PySem.W.kla_fn name qual params body scope cl pm (.ref c') ctv) ps sp:=by
 refine⟨len,fun A outer s H args us vs Q E hr e0 hb r hsp=>?_⟩
 have hl:=len _ _ _ _ hsp
 have lim:s.heap.NoLimit:=e0.mod.nolimit.keeps fun b o e=>(e0.bs b o e).1
 have DS:s.heap.CodeRec (.ref c') qual:=by
  obtain⟨c,oc,vs',tq,hc,hoc,hdc,hq⟩:=oh
  exact⟨c,oc,vs',tq,hc,(e0.bs _ _ hoc).1,hdc,hq⟩
 refine PySem.W.kla_callFunE hr.depth (e0.bs _ _ ho).1 rfl S.co S.gen rfl DS (hb _ _ _ _ ?_)
 have hloc:∀y∈ps.zip us,scope.names.lookup y.1=some .local:=fun⟨n,v⟩ hy=>S.par n (List.of_mem_zip hy).1
 refine wpAny_newFunctionEnv S.Bo hloc (fun h₁ hns hsb=>⟨lim.fresh _ hsb,?_⟩) S.kind
 obtain⟨t,ht,hq⟩:=hbody A outer s H vs Q E (hr.deeper _) hsp
 have I:Inv (Bp P w K mg base (ps++aF) qual scope f (.ref c') cl A outer s H) [] (vs.map some++fvs.map some) H {s with heap:=h₁,toks:=s.toks+(ps.zip us).length}:=G7 S hr.hd e0 hl r C hns hsb
 refine PySem.W.kla_codeExpr (wpAny_mono (ht [] _ _ H _ I hq) (fun v s' hs=>?_) fun e s' hs=>hs.elim)
 obtain⟨x,H',J,rv,q⟩:=hs
 exact⟨x,H',J.os,J.bare,J.base,J.hok,rv,q⟩
section
variable {X:Cx} {x:Str} {p pos:Pos} {e:Expr} {es:List Expr} {t:TA} {k:Nat} {f:Addr} {fd:FuncData} {ps:List Str} {sp:Sp}
def Jc (i:Nat) (f:Addr) (sp:Sp) (t:TA):TE:=fun σ H Q=>σ[i]? =some (some (.ref f))∧t σ H fun vs H1=>sp vs H1 Q E0
theorem pN (F:bf X.prog X.w X.K X.mg X.base bT k f fd ps sp) {i:Nat} {o:Obj} (ho:X.base.get? f=some o) (hof:o.data=.func fd) (hr:aP k X.A) (hb:∀us:List Value,us.length=ps.length→bindArgs fd ⟨us,[]⟩=pure (ps.zip us))
  (hN:X.N[i]? =some x) (hv:xZ X.env.scope x) (ha:PA X (e::es) t) (hdb:(x == ("__debug__":Str))=false:=by decide) (hcd:(x == ("__classdict__":Str))=false:=by decide)
  (he:starEach (e::es) X.env=(false,eval e X.env)::starEach es X.env:=by rfl) (hpl:(backTo pos (starEach es X.env)).any (·.1)=false:=by rfl):
  PE X (.Call (.Name x p) (e::es) [] pos) (Jc i f sp t):=by
 intro pins s σ H Q I h
 obtain⟨hi,h⟩:=h
 obtain⟨m,hn,hl⟩:=I.loc
 obtain⟨u,r,l⟩:=hl i x (.ref f) hN hi hv
 obtain rfl:u=Value.ref f:=r
 have fin:wpAny (model X.prog X.w) X.A (callWith pos (.ref f) [] (backTo pos (starEach (e::es) X.env)) []) (EP X pins σ Q) X.xe s:=by
  have h0:wpAny (model X.prog X.w) X.A (spliced (backTo pos (starEach (e::es) X.env))) (fun us s₁=>s₁.heap.get? f=some o∧wpAny (model X.prog X.w) X.A (call (.ref f) ([]++us)) (EP X pins σ Q) X.xe s₁) X.xe s:=by
   refine aK (ha pos pins s σ H _ I h) fun us s1 ⟨vs,H1,I1,r,q⟩=>⟨I1.bk _ _ ho,?_⟩
   exact AX (ds:=[]) (qk:=[]) F hr (Binds.all hb) .nil aN I1 r (by rw[List.append_nil];exact q)
  rw[he] at h0 ⊢
  refine PySem.W.callWith_of (P:=fun h=>h.get? f=some o) ?_ (fun h hf=>⟨.frame,.inl rfl,(PySem.W.Looks.ld (part:=none) hf).andThen ?_⟩) (Calls.evalArgs_plain h0)
  ·show((false||(backTo pos (starEach es X.env)).any (·.1))||false)=false
   rw[hpl];rfl
  ·rw[hof]
   exact .now
 rcases l with⟨hk,hm⟩ | ⟨hk,c,hc,hcell⟩
 ·exact wpAny_Call_Name_kw (wpAny_Name (wpAny_loadName_local I.ok.kind hk hn hm fin) hdb)
 ·rcases hk with hk | hk
  ·exact wpAny_Call_Name_kw (wpAny_Name (wpAny_loadName_cell I.ok.kind hk hc hcell fin) hdb)
  ·exact wpAny_Call_Name_kw (wpAny_Name (wpAny_loadName_free I.ok.kind hk hc hcell fin hcd) hdb)
end
def kq (f:Addr) (o:Obj):HO:=.ext fun h=>h.get? f=some o
def kr (c:Addr) (qual:Str):HO:=.ext fun h=>h.CodeRec (.ref c) qual
section
variable {P:Program} {w:World} {H:Hp} {h:Heap}
theorem qB {f:Addr} {o:Obj} (e:h.get? f=some o):bx P w H h f (kq f o):=
 ⟨e,⟨o,e⟩,fun h1 h2 q k=>k o q⟩
theorem Bq {c:Addr} {qual:Str} (e:h.CodeRec (.ref c) qual):bx P w H h c (kr c qual):=by
 refine⟨e,?_,fun h1 h2 q k=>?_⟩
 ·obtain⟨c',o,vs,t,e1,e2,_⟩:=e
  cases e1
  exact⟨o,e2⟩
 ·obtain⟨c',o,vs,t,e1,e2,r⟩:=q
  cases e1
  exact⟨c,o,vs,t,rfl,k o e2,r⟩
end
def Tab (H:Hp) (T:Addr) (L:List (Pos×Str)):Prop:=
 ∃ps:Array Value,H T=some (.dZ ps)∧TriplesOk ps.toList∧∀p∈L,codeAmong p.1 ps.toList=none∨∃c,codeAmong p.1 ps.toList=some (.ref c)∧H c=some (kr c p.2)
theorem Tab.same {H H':Hp} {T:Addr} {L:List (Pos×Str)} (x:Tab H T L) (s:Same H H'):Tab H' T L:=by
 obtain⟨ps,h1,h2,h3⟩:=x
 refine⟨ps,s _ _ h1,h2,fun p hp=>?_⟩
 rcases h3 p hp with z | ⟨c,z,q⟩
 ·exact .inl z
 ·exact .inr ⟨c,z,s _ _ q⟩
theorem zC {p q:Pos} {c:Value}:∀(l:List Value),TriplesOk l→∀d,codeAmong p (l++[rawInt q.line,rawInt q.col,c])=some d→codeAmong p l=some d∨(codeAmong p l=none∧p.line=q.line∧p.col=q.col∧d=c):=by
 intro l
 fun_induction TriplesOk l with
 | case1=>
  intro _ d h
  simp only[List.nil_append,codeAmong,rawInt] at h
  split at h
  ·rename_i hc
   simp at hc
   cases h
   exact .inr ⟨rfl,by omega,by omega,rfl⟩
  ·cases h
 | case2 a t b u x rest ih=>
  intro hl d h
  simp only[List.cons_append,codeAmong] at h ⊢
  split at h
  ·rename_i hc;rw[if_pos hc];exact .inl h
  ·rename_i hc;rw[if_neg hc];exact ih hl d h
 | case3 l h1 h2=>intro h;exact h.elim
def Apart (L:List (Pos×Str)):Prop:=∀p∈L,∀q∈L,p.1.line=q.1.line→p.1.col=q.1.col→p=q
theorem Tab.grown {H H':Hp} {T c':Addr} {L:List (Pos×Str)} {ps:Array Value} {q:Pos×Str} (hq:q∈L) (ap:Apart L) (h2:TriplesOk ps.toList) (h3:∀p∈L,codeAmong p.1 ps.toList=none∨∃c,codeAmong p.1 ps.toList=some (.ref c)∧H c=some (kr c p.2))
  (hT:H' T=some (.dZ (ps++ #[rawInt q.1.line,rawInt q.1.col,.ref c']))) (hc:H' c'=some (kr c' q.2)) (k:∀b φ,H b=some (.ext φ)→H' b=some (.ext φ)):Tab H' T L:=by
 have e:(ps++ #[rawInt q.1.line,rawInt q.1.col,.ref c']).toList=ps.toList++[rawInt q.1.line,rawInt q.1.col,.ref c']:=by simp
 refine⟨_,hT,by rw[e];exact TriplesOk_snoc _ _ _ _ h2,fun p hp=>?_⟩
 rw[e]
 cases z:codeAmong p.1 (ps.toList++[rawInt q.1.line,rawInt q.1.col,.ref c']) with
 | none=>exact .inl rfl
 | some d=>
  rcases zC _ h2 d z with y | ⟨_,y1,y2,y3⟩
  ·rcases h3 p hp with n | ⟨c,n,r⟩
   ·rw[n] at y;cases y
   ·rw[n] at y;cases y
    exact .inr ⟨c,rfl,k _ _ r⟩
  ·have:=ap p hp q hq y1 y2
   subst this
   subst y3
   exact .inr ⟨c',rfl,hc⟩
section
variable {X:Cx} {pos:Pos} {params:Arguments} {body:Expr} {scope:Scope} {c T:Addr} {clos:List (Str×Addr)} {L:List (Pos×Str)} {bm:Addr} {ob:Obj}
abbrev lamO (X:Cx) (params:Arguments) (body:Expr) (scope:Scope) (clos:List (Str×Addr)) (c':Addr) (ctv:Value):Obj:=PySem.W.kla_obj "<lambda>" (X.env.qual++"<lambda>") params body scope clos ((X.mg "__name__").getD .none) c' ctv
def Jd (X:Cx) (params:Arguments) (body:Expr) (scope:Scope) (clos:List (Str×Addr)) (T:Addr) (L:List (Pos×Str)):TE:=fun σ H Q=>
 Tab H T L∧∀f c' ctv H',H f=none→H' f=some (kq f (lamO X params body scope clos c' ctv))→H' c'=some (kr c' (X.env.qual++"<lambda>"))→Tab H' T L→KB T H H'→Q (.ref f) H'
def dY (mg:Str→Option Value) (base:Heap):Prop:=
 ∃bm o,mg "__builtins__"=some (.ref bm)∧bm≠builtinsNs∧base.get? bm=some o∧o.cls=.type "module"∧o.dict=some builtinsNs∧o.data=.plain
theorem Je (hcode:X.env.code=.ref c) (C:PySem.W.CodeHd X.base c T) (hB:dY X.mg X.base) (hcl:closureFor scope X.env=pure clos) (hdef:defaultsOf params X.env=([],[])) (hL:(pos,X.env.qual++"<lambda>")∈L) (ap:Apart L) (hfs:X.ex=[]):
  PE X (.Lambda params body scope pos) (Jd X params body scope clos T L):=by
 intro pins s σ H Q I ⟨⟨ps,hT,ht,htab⟩,h⟩
 refine PySem.W.kla_eval hdef ?_
 have qC:s.heap.get? T=some (PySem.W.tabObj ps):=I.hok T _ hT
 have hg:s.heap.Ns mainGlobals X.mg:=I.ok.mod.glob.keeps I.bk
 have Jf:mainGlobals≠T:=fun q=>by
  obtain⟨o,es,ep,e,hd,_⟩:=hg
  rw[q,qC] at e;cases e;cases hd
 have vS:s.heap.BuiltinsAt X.mg T:=by
  obtain⟨bm,o,h1,h2,h3,h4,h5,h6⟩:=hB
  refine⟨bm,o,h1,h2,fun q=>?_,fun q=>?_,I.bk _ _ h3,h4,h5,h6⟩
  ·obtain⟨o',es,ep,e,hd,_⟩:=I.ok.mod.glob
   rw[q,e] at h3;cases h3;rw[hd] at h6;cases h6
  ·have:=I.bk _ _ h3
   rw[q,qC] at this;cases this;cases h4
 have Br:=C.keeps I.bk
 rcases htab _ hL with hn | ⟨c',hc',Jg⟩
 ·refine PySem.W.kla_makeFunction (mg:=X.mg) hcl I.ok.glob hg hcode Br qC ht hn Jf vS fun c' ctv h' tk hx hge hlt hrec htb=>?_
  have nc:H c'=none:=I.hok.fresh hge
  have Bs:s.heap.objs.size≤h'.objs.size:=Nat.le_of_lt (Nat.lt_of_le_of_lt hge hlt)
  have nf:H h'.objs.size=none:=I.hok.fresh Bs
  have fc:h'.objs.size≠c':=Nat.ne_of_gt hlt
  have Tc:T≠c':=aq hT nc
  have Tf:T≠h'.objs.size:=aq hT nf
  have fT:=Ne.symm Tf
  have cT:=Ne.symm Tc
  have keep:∀b o,b≠T→s.heap.get? b=some o→(h'.push (lamO X params body scope clos c' ctv)).get? b=some o:=fun b o hb e=>Heap.get?_push_of_some _ (hx b o hb e)
  let H':Hp:=upd (upd (upd H T (.dZ (ps++ #[rawInt pos.line,rawInt pos.col,.ref c']))) c' (kr c' (X.env.qual++"<lambda>"))) h'.objs.size (kq h'.objs.size (lamO X params body scope clos c' ctv))
  have eT:H' T=some (.dZ (ps++ #[rawInt pos.line,rawInt pos.col,.ref c'])):=by show upd _ _ _ _=_;rw[ak Tf,ak Tc,af]
  have ec:H' c'=some (kr c' (X.env.qual++"<lambda>")):=by show upd _ _ _ _=_;rw[ak fc.symm,af]
  have ef:H' h'.objs.size=some (kq h'.objs.size (lamO X params body scope clos c' ctv)):=af
  have eo:∀b,b≠T→b≠c'→b≠h'.objs.size→H' b=H b:=fun b h1 h2 h3=>by show upd _ _ _ _=_;rw[ak h3,ak h2,ak h1]
  have kb:KB T H H':=fun b o e hb=>by rw[eo b hb (aq e nc) (aq e nf)];exact e
  have hnew:∀b o,s.heap.get? b=some o→b≠c'∧b≠h'.objs.size:=fun b o e=>⟨Nat.ne_of_lt (Nat.lt_of_lt_of_le (Heap.lt_size e) hge),Nat.ne_of_lt (Nat.lt_of_lt_of_le (Heap.lt_size e) Bs)⟩
  have Jh:=Tab.grown (H:=H) (H':=H') hL ap ht htab eT ec fun b φ e=>kb b _ e fun z=>by rw[z,hT] at e;cases e
  have hok':dc X.prog X.w H' (h'.push (lamO X params body scope clos c' ctv)):=fun b u e=>by
   by_cases b1:b=T
   ·subst b1
    rw[eT] at e;cases e
    exact Heap.get?_push_of_some _ htb
   by_cases b2:b=c'
   ·subst b2
    rw[ec] at e;cases e
    exact Bq (hrec.push _)
   by_cases b3:b=h'.objs.size
   ·subst b3
    rw[ef] at e;cases e
    exact qB (Heap.get?_push_size _ rfl)
   rw[eo b b1 b2 b3] at e
   refine(I.hok b u e).stay (fun d v hd q=>keep d v ?_ q) (fun d q=>kb d _ q ?_) fun d xs q=>kb d _ q ?_
   ·rintro rfl
    rcases hd with z | z
    ·exact b1 z.symm
    ·rw[hT] at z;cases z
   ·rintro rfl;rw[hT] at q;cases q
   ·rintro rfl;rw[hT] at q;cases q
  refine⟨.ref h'.objs.size,H',?_,rfl,h _ _ _ _ nf ef ec Jh kb⟩
  have ne_T:∀b,H b=none→b≠T:=fun b n z=>by rw[z,hT] at n;cases n
  refine I.un ⟨fun b o e n _ _=>keep b o (ne_T b n) e,fun b o e n _ _=>⟨o.slots,keep b o (ne_T b n) e⟩,fun b o e n _=>by rw[eo b (ne_T b n) (hnew b o e).1 (hnew b o e).2];exact n,fun b o e _=>?_,fun b xs e=>kb b _ e fun z=>?_,fun b o u e=>kb b _ e fun z=>?_,fun b qs e=>?_⟩ hok'
  ·by_cases hb:b=T
   ·subst hb;exact⟨_,Heap.get?_push_of_some _ htb⟩
   ·exact⟨o,keep b o hb e⟩
  ·rw[z,hT] at e;cases e
  ·rw[z,hT] at e;cases e
  ·by_cases hb:b=T
   ·subst hb
    rw[hT] at e;cases e
    exact⟨_,eT⟩
   ·exact⟨#[],by rw[kb b _ e hb];simp⟩
 ·refine PySem.W.kla_makeFunctionHit (mg:=X.mg) hcl I.ok.glob hg hcode Br qC ht hc' vS fun ctv h' tk hk hsz=>?_
  have nf:H h'.objs.size=none:=I.hok.fresh hsz
  have keep:∀b o,s.heap.get? b=some o→(h'.push (lamO X params body scope clos c' ctv)).get? b=some o:=fun b o e=>Heap.get?_push_of_some _ (hk b o e)
  have kb:Same H (upd H h'.objs.size (kq h'.objs.size (lamO X params body scope clos c' ctv))):=fun b o e=>by rw[ak (aq e nf)];exact e
  refine⟨.ref h'.objs.size,upd H h'.objs.size (kq h'.objs.size (lamO X params body scope clos c' ctv)),I.laid keep hsz (qB (Heap.get?_push_size _ rfl)),rfl,h _ c' ctv _ nf af (kb _ _ Jg) (Tab.same ⟨ps,hT,ht,htab⟩ kb) fun b o e _=>kb b o e⟩
end
def cL (D:List Addr) (H:Hp):Hp:=fun b=>if b∈D then none else H b
def fB (D:List Addr) (H H2:Hp):Hp:=fun b=>if b∈D then H b else H2 b
theorem lN {D:List Addr} {H:Hp} {b:Addr} (h:b∈D):cL D H b=none:=if_pos h
theorem eZ {D:List Addr} {H:Hp} {b:Addr} (h:b ∉ D):cL D H b=H b:=if_neg h
theorem yu {D:List Addr} {H H2:Hp} {b:Addr} (h:b∈D):fB D H H2 b=H b:=if_pos h
theorem dC {D:List Addr} {H H2:Hp} {b:Addr} (h:b ∉ D):fB D H H2 b=H2 b:=if_neg h
def wide (h:Heap) (H:Hp) (fs:List Addr):Heap:=PySem.W.hideAll (jO h H) fs
theorem Bt (h:Heap) (H:Hp) (fs:List Addr):(wide h H fs).objs.size=h.objs.size:=(PySem.W.hideAll_size _ _).trans (tu _ _)
theorem pO {h:Heap} {H:Hp} {fs:List Addr} {b:Addr} {o:Obj} (e:h.get? b=some o) (n:H b=none) (nf:b ∉ fs):(wide h H fs).get? b=some o:=PySem.W.hideAll_get _ (vg e n) nf
theorem G8 {h:Heap} {H:Hp} {fs:List Addr} {b:Addr} {o:Obj} (e:(wide h H fs).get? b=some o):h.get? b=some o∧H b=none:=xY (PySem.W.of_hideAll fs e)
theorem Bu {h:Heap} {H:Hp} {fs:List Addr} {b:Addr} (hb:b∈fs):(wide h H fs).get? b=none:=PySem.W.hideAll_none fs hb
theorem funFrames_base {h base base':Heap}:∀{l:List Env},h.FunFrames base l→(∀b∈frs l,base'.get? b=none)→h.FunFrames base' l
 | [],_,_=>trivial
 | env::r,⟨hk,⟨L,o,hf,hn,ho,hd⟩,hr⟩,k=>by
  have e:frs (env::r)=L::frs r:=by unfold frs;rw[List.filterMap_cons,hf]
  exact⟨hk,⟨L,o,hf,k L (by rw[e];exact List.mem_cons_self),ho,hd⟩,funFrames_base hr fun b hb=>k b (by rw[e];exact List.mem_cons_of_mem _ hb)⟩
structure Wide (X:Cx) (σ:St) (D:List Addr) (H:Hp) (base':Heap):Prop where
 sub:∀b o,X.base.get? b=some o→base'.get? b=some o
 mod:Mod X.K X.mg base'
 ext:∀a φ,a∈D→H a=some (.ext φ)→φ base'
 val:∀(i:Nat) (x:Str) (v:V),X.N[i]? =some x→σ[i]? =some (some v)→X.env.scope.names.lookup x=some .cell→∃c u,X.env.cells.lookup x=some c∧base'.IsCell c (some u)∧RelV v u
 cell:∀x c,X.env.cells.lookup x=some c→∃v,base'.IsCell c v
 inj:∀x y c,X.env.cells.lookup x=some c→X.env.cells.lookup y=some c→x=y
section
variable {X:Cx} {k:Nat} {f:Addr} {fd:FuncData} {ps:List Str} {sp:Sp} {pins:List (Addr×Obj)} {σ:St} {H:Hp} {s:Shared} {D:List Addr}
theorem yv (I:Inv X pins σ H s) (hfn:∀x,X.fn x=true) (hD:∀a∈D,∃φ,H a=some (.ext φ)):Wide X σ D H (wide s.heap (cL D H) (frs X.stack)):=by
 have nD:∀b,H b=none→b ∉ D:=fun b n z=>by obtain⟨φ,e⟩:=hD b z;rw[n] at e;cases e
 have SQ:∀b o,X.base.get? b=some o→b ∉ frs X.stack:=fun b o e z=>by
  rcases List.mem_cons.mp (I.nH b z) with q | q
  ·have:=Heap.lt_size e
   rw[q] at this
   exact absurd (Nat.lt_of_lt_of_le this (Nat.le_trans I.ok.nG I.ok.above)) (Nat.lt_irrefl _)
  ·exact I.ok.HV e q
 have sub:∀b o,X.base.get? b=some o→(wide s.heap (cL D H) (frs X.stack)).get? b=some o:=fun b o e=>
  pO (I.bs b o e).1 (by rw[eZ (nD b (I.bs b o e).2)];exact(I.bs b o e).2) (SQ b o e)
 have cellK:∀x c v,X.env.cells.lookup x=some c→s.heap.IsCell c v→(wide s.heap (cL D H) (frs X.stack)).IsCell c v:=fun x c v e ⟨o,ho,hd⟩=>by
  refine⟨o,pO ho (by rw[eZ (nD c (I.fO x c e))];exact I.fO x c e) fun z=>?_,hd⟩
  rcases List.mem_cons.mp (I.nH c z) with q | q
  ·exact I.tG x c e q
  ·obtain⟨_,o',ho',_⟩:=I.ok.g_.mem q
   exact absurd (Nat.lt_of_lt_of_le (Heap.lt_size ho') (I.ok.cab x c (hfn x) e)) (Nat.lt_irrefl _)
 refine⟨sub,⟨I.ok.mod.tE.keeps sub,I.ok.mod.glob.keeps sub,?_,I.ok.mod.nolimit.keeps sub⟩,fun a φ ha e=>?_,fun i x v h1 h2 h3=>?_,fun x c e=>?_,I.ok.inj⟩
 ·obtain⟨mb,h1,h2⟩:=I.ok.mod.blt
  exact⟨mb,h1.keeps sub,h2⟩
 ·obtain⟨p,⟨o,ho⟩,st⟩:=I.hok a _ e
  refine st _ _ p fun o' e'=>pO e' (lN ha) fun z=>?_
  rw[I.lE a z] at e;cases e
 ·obtain⟨m,_,hl⟩:=I.loc
  obtain⟨u,r,l⟩:=hl i x v h1 h2 (.inr (.inl h3))
  rcases l with⟨q,_⟩ | ⟨_,c,e,z⟩
  ·have q':X.env.scope.names.lookup x=some .local:=q
   rw[h3] at q';cases q'
  ·exact⟨c,u,e,cellK x c _ e z,r⟩
 ·obtain⟨v,z⟩:=I.cell x c e
  exact⟨v,cellK x c v e z⟩
theorem G9 {Q:VK} {us:List Value} {vs:List V} (I:Inv X pins σ H s) (hfn:∀x,X.fn x=true) (hD:∀a∈D,∃φ,H a=some (.ext φ)) (F:bf X.prog X.w X.K X.mg (wide s.heap (cL D H) (frs X.stack)) bT k f fd ps sp) (hr:aP k X.A)
  (hb:Binds X.K fd ps []) (r:Vals vs us) (h:sp vs (cL D H) (fun v H2=>(∀b∈D,H2 b=none)→Q v (fB D H H2)) E0):wpAny (model X.prog X.w) X.A (call (.ref f) us) (EP X pins σ Q) X.xe s:=by
 have W:=yv I hfn hD
 have hl:(us++[]).length=ps.length:=by rw[List.append_nil,←r.length];exact F.len _ _ _ _ h
 have qD:∀b u,H b=some u→(∀φ,u≠.ext φ)→cL D H b=some u:=fun b u e ne=>by
  rw[eZ fun z=>?_];exact e
  obtain⟨φ,q⟩:=hD b z
  rw[e] at q;cases q;exact ne φ rfl
 have uU:∀b u,cL D H b=some u→b ∉ D∧H b=some u:=fun b u e=>by
  by_cases hb:b∈D
  ·rw[lN hb] at e;cases e
  ·rw[eZ hb] at e;exact⟨hb,e⟩
 have PD:dc X.prog X.w (cL D H) s.heap:=fun b u e=>(I.hok b u (uU b u e).2).stay (fun _ _ _ q=>q) (fun d q=>qD d _ q fun φ z=>nomatch z) fun d xs q=>qD d _ q fun φ z=>nomatch z
 have nU:∀b,H b=none→cL D H b=none:=fun b n=>by
  by_cases hb:b∈D
  ·exact lN hb
  ·rw[eZ hb];exact n
 have e0:pH X.prog X.w X.K X.mg (wide s.heap (cL D H) (frs X.stack)) X.A X.stack s (cL D H):=
  ⟨I.ok.frames,W.mod,fun b o e=>G8 e,Nat.le_of_eq (Bt _ _ _),funFrames_base I.stack fun b hb=>Bu hb,fun b hb=>nU b (I.lE b hb),PD,I.bare⟩
 refine wpAny_call (codeAny_mono (F.run X.A X.stack s (cL D H) ⟨us,[]⟩ us vs _ _ hr e0 (by have:=hb s us I.g0 hl;rwa [List.append_nil] at this) r h) fun r s' hq=>?_)
 cases r with
 | error e=>exact hq.elim
 | ok fl=>
  cases fl with
  | next=>exact False.elim hq
  | brk=>exact False.elim hq
  | cont=>exact False.elim hq
  | ret u=>
   obtain⟨v,H2,os,bare,un,hok,r,q⟩:=hq
   have inD:∀b,b∈D→∃φ o,H b=some (.ext φ)∧s.heap.get? b=some o∧s'.heap.get? b=some o∧H2 b=none:=fun b hb=>by
    obtain⟨φ,e⟩:=hD b hb
    obtain⟨p,⟨o,ho⟩,st⟩:=I.hok b _ e
    refine⟨φ,o,e,ho,un.keep b o ho (lN hb) (fun z=>?_) (by simp),un.free b o ho (lN hb) (by simp)⟩
    rw[I.lE b z] at e;cases e
   have t8:∀b u,H2 b=some u→b ∉ D:=fun b u e z=>by obtain⟨_,_,_,_,_,n⟩:=inD b z;rw[n] at e;cases e
   have PF:dc X.prog X.w (fB D H H2) s'.heap:=fun b u e=>by
    by_cases hb:b∈D
    ·rw[yu hb] at e
     obtain⟨φ,o,e1,ho,ho',_⟩:=inD b hb
     rw[e1] at e;cases e
     obtain⟨p,_,st⟩:=I.hok b _ e1
     exact⟨st _ _ p fun o2 e2=>by rw[ho] at e2;cases e2;exact ho',⟨o,ho'⟩,st⟩
    ·rw[dC hb] at e
     exact(hok b u e).stay (fun _ _ _ q=>q) (fun d q=>by rw[dC (t8 d _ q)];exact q) fun d xs q=>by rw[dC (t8 d _ q)];exact q
   have SR:Un (frs X.stack) [] H (fB D H H2) s.heap s'.heap:=by
    have nD:∀b,H b=none→b ∉ D:=fun b n z=>by obtain⟨φ,e⟩:=hD b z;rw[n] at e;cases e
    refine⟨fun b o e n h1 h2=>un.keep b o e (nU b n) h1 h2,fun b o e n h1 h2=>un.slot b o e (nU b n) h1 h2,fun b o e n h2=>by rw[dC (nD b n)];exact un.free b o e (nU b n) h2,un.there,fun b xs e=>?_,fun b o u e=>?_,fun b qs e=>?_⟩
    ·have e1:=qD b _ e fun φ z=>nomatch z
     rw[dC (uU b _ e1).1];exact un.tups b xs e1
    ·have e1:=qD b _ e fun φ z=>nomatch z
     rw[dC (uU b _ e1).1];exact un.jM b o u e1
    ·have e1:=qD b _ e fun φ z=>nomatch z
     rw[dC (uU b _ e1).1];exact un.jN b qs e1
   exact I.after ⟨v,_,os,bare,SR,PF,r,q fun b hb=>by obtain⟨_,_,_,_,_,n⟩:=inD b hb;exact n⟩
end
section
variable {X:Cx} {x:Str} {p pos:Pos} {e:Expr} {es:List Expr} {t:TA} {k:Nat} {f:Addr} {fd:FuncData} {ps:List Str}
def Ji (X:Cx) (k:Nat) (f:Addr) (fd:FuncData) (ps:List Str) (t:TA):TE:=fun σ H Q=>t σ H fun vs H1=>∃D:List Addr,(∀a∈D,∃φ,H1 a=some (.ext φ))∧
 ∀base':Heap,Wide X σ D H1 base'→∃sp:Sp,bf X.prog X.w X.K X.mg base' bT k f fd ps sp∧sp vs (cL D H1) (fun v H2=>(∀b∈D,H2 b=none)→Q v (fB D H1 H2)) E0
theorem pP (hfn:∀x,X.fn x=true) (hr:aP k X.A) (hg:Gl X x) (hm:X.mg x=some (.ref f)) (hk:PySem.W.keepIn X.K (.ref f)=true) (hb:Binds X.K fd ps [])
  (ha:PA X (e::es) t) (hdb:(x == ("__debug__":Str))=false:=by decide) (he:starEach (e::es) X.env=(false,eval e X.env)::starEach es X.env:=by rfl) (hpl:(backTo pos (starEach es X.env)).any (·.1)=false:=by rfl):
  PE X (.Call (.Name x p) (e::es) [] pos) (Ji X k f fd ps t):=by
 intro pins s σ H Q I h
 refine wpAny_Call_Name_kw (x5 I hg hm ?_ hdb)
 refine PySem.W.callWith_K (h₀:=X.base) I.ok.mod.tE hk (aK (ha pos pins s σ H _ I h) fun us s1 ⟨vs,H1,I1,r,D,hD,q⟩=>⟨I1.g0,?_⟩) he hpl
 obtain⟨sp,F,hsp⟩:=q _ (yv I1 hfn hD)
 exact G9 I1 hfn hD F hr hb r hsp
end
def oX (ts:List Addr) (H:Hp):Prop:=(∀b,H b=none∨(∃o xs,H b=some (.iW o (.lst xs)))∨(b∈ts∧H b=some (.dZ #[])))∧∀b∈ts,H b=some (.dZ #[])
theorem oX.tab {ts:List Addr} {H:Hp} {T:Addr} {L:List (Pos×Str)} (x:oX ts H) (h:T∈ts):Tab H T L:=⟨#[],x.2 T h,trivial,fun p _=>.inl rfl⟩
theorem Bv {P:Program} {w:World} {K:PySem.W.Frag} {mg mb:Str→Option Value} {CX:pw} {k:Nat} {fa a:Addr} {fd:FuncData} {x:Str} {sp:Sp} {s₁:Shared} {vs:List Value} {ns:List Int} {ts:List Addr}
  (KX:K.In s₁.heap) (hns:s₁.heap.Ns mainGlobals mg) (hb:s₁.heap.Ns builtinsNs mb) (hbb:∀x:Str,x≠"__name__"→mb x=bootBuiltins x) (hlim:s₁.heap.NoLimit) (hg:s₁.gens= #[])
  (ha:s₁.heap.get? a=some {cls:=.type "list",data:=.seq vs.toArray}) (hi:IntsAre vs ns) (hl:ns.length≤sizeLine) (hr:aP k callerA)
  (hts:∀T∈ts,(∃c,PySem.W.CodeHd s₁.heap c T)∧s₁.heap.get? T=some (PySem.W.tabObj #[])∧K.lookup T=none) (vS:dY mg s₁.heap)
  (F:∀base:Heap,K.In base→base.Ns mainGlobals mg→dY mg base→bf P w K mg base CX k fa fd [x] sp) (hbind:∀(s:Shared) (u:Value),BindsTo s fd ⟨[u],[]⟩ [(x,u)])
  (hsp:∀H:Hp,oX ts H→br K H a (ns.map V.int)→sp [.ref a] H (fun v _=>v=.bl true) fun _ _ _=>False)
  (SU:∀H e s',CX [] H s₁ (fun _ _ _=>False) e s'→False):
  codeAny (model P w) callerA (.call (.ref fa) ⟨[.ref a],[]⟩) (fun r s'=>r=.ok (.ret (.bool true))∧OldK s₁.heap s'.heap∧s'.os=s₁.os∧AllBare s'.gens) s₁:=by
 have rv:=km hi
 have lenV:=hi.length
 have aT:a ∉ ts:=fun z=>by
  have:=(hts a z).2.1
  rw[ha] at this;cases this
 have core:∀H:Hp,oX ts H→br K H a (ns.map V.int)→dc P w H s₁.heap→(∀b,H b≠none→b=a∨b∈ts)→(H a≠none→K.lookup a=none)→
   codeAny (model P w) callerA (.call (.ref fa) ⟨[.ref a],[]⟩) (fun r s'=>r=.ok (.ret (.bool true))∧OldK s₁.heap s'.heap∧s'.os=s₁.os∧AllBare s'.gens) s₁:=by
  intro H hO hS hok hA hK
  have rM:∀{b:Addr} {o:Obj},s₁.heap.get? b=some o→H b=none→(jO s₁.heap H).get? b=some o:=fun e n=>vg e n
  have ki:∀{b:Addr} {o:Obj},s₁.heap.get? b=some o→o≠{cls:=.type "list",data:=.seq vs.toArray}→o≠PySem.W.tabObj #[]→H b=none:=fun {b o} e d1 d2=>by
   cases q:H b with
   | none=>rfl
   | some u=>
    rcases hA b (by rw[q];simp) with e' | e'
    ·subst e'
     rw[ha] at e;cases e
     exact absurd rfl d1
    ·have:=(hts b e').2.1
     rw[e] at this;cases this
     exact absurd rfl d2
  have Fv:∀{b:Addr} {m:Str→Option Value},s₁.heap.Ns b m→(jO s₁.heap H).Ns b m:=fun {b m} ⟨o,es,ep,e,d,r⟩=>⟨o,es,ep,rM e (ki e (fun z=>by rw[z] at d;cases d) fun z=>by rw[z] at d;cases d),d,r⟩
  have Nz:K.In (jO s₁.heap H):=fun b o e=>rM (KX b o e) (by
   cases q:H b with
   | none=>rfl
   | some u=>
    rcases hA b (by rw[q];simp) with e' | e'
    ·subst e'
     rw[hK (by rw[q];simp)] at e;cases e
    ·rw[(hts b e').2.2] at e;cases e)
  have SV:dY mg (jO s₁.heap H):=by
   obtain⟨bm,o,h1,h2,h3,h4,h5,h6⟩:=vS
   exact⟨bm,o,h1,h2,rM h3 (ki h3 (fun z=>by rw[z] at h4;exact absurd (Value.type.inj h4) (by decide)) fun z=>by rw[z] at h4;cases h4),h4,h5,h6⟩
  have hM:Mod K mg (jO s₁.heap H):=⟨Nz,Fv hns,⟨mb,Fv hb,hbb⟩,let ⟨mc,h1,h2⟩:=hlim;⟨mc,Fv h1,h2⟩⟩
  have e0:pH P w K mg (jO s₁.heap H) callerA [] s₁ H:=⟨rfl,hM,fun b o e=>xY e,Nat.le_of_eq (tu _ _),trivial,fun b hb=>absurd (show b∈([]:List Addr) from hb) (by simp),hok,.of_eq hg⟩
  refine codeAny_mono ((F _ Nz (Fv hns) SV).run callerA [] s₁ H ⟨[.ref a],[]⟩ [.ref a] [.ref a] _ _ hr e0 (hbind s₁ (.ref a)) (.cons rfl .nil) (hsp H hO hS)) fun r s' h=>?_
  cases r with
  | error e=>exact(SU H e s' h).elim
  | ok fl=>
   cases fl with
   | next=>exact False.elim h
   | brk=>exact False.elim h
   | cont=>exact False.elim h
   | ret u=>
    obtain⟨v,H',os,bare,un,hok',r',q⟩:=h
    have q':v=.bl true:=q
    subst q'
    obtain rfl:u=Value.bool true:=r'
    refine⟨rfl,⟨fun b o e=>?_,fun b o e=>un.there b o e (by simp)⟩,os,bare⟩
    cases q:H b with
    | none=>exact .inl (un.keep b o e q (by intro z;exact absurd (show b∈([]:List Addr) from z) (by simp)) (by simp))
    | some u=>
     rcases hO.1 b with z | ⟨ob,xs,z⟩ | ⟨hb,z⟩
     ·rw[q] at z;cases z
     ·have z2:=un.jM b ob _ z
      obtain⟨e1,_⟩:=hok b _ z
      obtain⟨e2,_⟩:=hok' b _ z2
      rw[e] at e1;cases e1
      exact .inl e2
     ·obtain⟨more,z2⟩:=un.jN b _ z
      have e2:s'.heap.get? b=some (PySem.W.tabObj (#[]++more)):=hok' b _ z2
      obtain⟨⟨c,hc⟩,e3,_⟩:=hts b hb
      have e4:o=PySem.W.tabObj #[]:=by rw[e] at e3;exact Option.some.inj e3
      subst e4
      exact .inr (.inl ⟨(hc.tab e3).isCodeTable,rfl, #[],more,rfl,e2⟩)
 have vT:∀T∈ts,T≠a:=fun T hT z=>aT (z▸hT)
 cases hk:K.lookup a with
 | some o=>
  have e:=KX a o hk
  rw[ha] at e
  cases e
  refine core (fun b=>if b∈ts then some (.dZ #[]) else none) ⟨fun b=>?_,fun b hb=>if_pos hb⟩ (.inr ⟨_,vs.toArray,_,hk,rfl,rfl,rfl,by rw[List.size_toArray,lenV];exact hl,by simpa using rv⟩) (fun b u z=>?_) (fun b z=>?_) fun z=>absurd (if_neg aT) z
  ·by_cases hb:b∈ts
   ·exact .inr (.inr ⟨hb,if_pos hb⟩)
   ·exact .inl (if_neg hb)
  ·by_cases hb:b∈ts
   ·have z':=(if_pos hb).symm.trans z
    cases z'
    exact(hts b hb).2.1
   ·have z':=(if_neg hb).symm.trans z
    cases z'
  ·by_cases hb:b∈ts
   ·exact .inr hb
   ·exact absurd (if_neg hb) z
 | none=>
  have eA:∀b,b=a→(if b∈ts then some (HO.dZ #[]) else if b=a then some (HO.iW {cls:=.type "list",data:=.seq vs.toArray} (.lst (ns.map V.int))) else none)=some (HO.iW {cls:=.type "list",data:=.seq vs.toArray} (.lst (ns.map V.int))):=fun b hb=>by
   rw[if_neg (hb▸aT),if_pos hb]
  have eN:∀b,b ∉ ts→b≠a→(if b∈ts then some (HO.dZ #[]) else if b=a then some (HO.iW {cls:=.type "list",data:=.seq vs.toArray} (.lst (ns.map V.int))) else none)=none:=fun b h1 h2=>by
   rw[if_neg h1,if_neg h2]
  refine core (fun b=>if b∈ts then some (.dZ #[]) else if b=a then some (.iW {cls:=.type "list",data:=.seq vs.toArray} (.lst (ns.map V.int))) else none) ⟨fun b=>?_,fun b hb=>if_pos hb⟩ (.inl (.inr ⟨{cls:=.type "list",data:=.seq vs.toArray},eA a rfl⟩)) (fun b u z=>?_) (fun b z=>?_) fun _=>hk
  ·by_cases hb:b∈ts
   ·exact .inr (.inr ⟨hb,if_pos hb⟩)
   by_cases hb2:b=a
   ·exact .inr (.inl ⟨_,_,eA b hb2⟩)
   ·exact .inl (eN b hb hb2)
  ·by_cases hb:b∈ts
   ·have z':=(if_pos hb).symm.trans z
    cases z'
    exact(hts b hb).2.1
   by_cases hb2:b=a
   ·have z':=(eA b hb2).symm.trans z
    cases z'
    subst hb2
    exact⟨ha,by rw[List.length_map];exact hl,vs,_,rv,ha⟩
   ·have z':=(eN b hb hb2).symm.trans z
    cases z'
  ·by_cases hb:b∈ts
   ·exact .inr hb
   by_cases hb2:b=a
   ·exact .inl hb2
   ·exact absurd (eN b hb hb2) z
theorem DT {l:PySem.W.OpenLaw} {n k:Nat} {q:Program} {loose:List Str} {XP:(Str→Option Value)→Heap→Prop} {YP:World→Heap→Prop} {d:DefRec} {K:Params→PySem.W.Frag} {sp:World→List Addr→Sp} {x:Str}
  (hn:l.most=some n) (hn2:n≤sizeLine) (hdf:d.params.defaults=[]) (hr:aP k callerA)
  (hY:∀(w:World) (h:Heap),YP w h→(K w.params).In h)
  (F:∀(w:World) (mg:Str→Option Value) (fa:Addr) (h:Heap),(K w.params).In h→h.Ns mainGlobals mg→mg d.name=some (.ref fa)→YP w h→
   ∃(fd:FuncData) (ts:List Addr),(∀T∈ts,(∃c,PySem.W.CodeHd h c T)∧h.get? T=some (PySem.W.tabObj #[])∧(K w.params).lookup T=none)∧(∀(s:Shared) (u:Value),BindsTo s fd ⟨[u],[]⟩ [(x,u)])∧
    ∀base:Heap,(K w.params).In base→base.Ns mainGlobals mg→dY mg base→bf l.prog w (K w.params) mg base bT k fa fd [x] (sp w ts))
  (hsp:∀(w:World) (H:Hp) (a:Addr) (ns:List Int) (ts:List Addr),ns.length≤n→oX ts H→br (K w.params) H a (ns.map V.int)→sp w ts [.ref a] H (fun v _=>v=.bl true) fun _ _ _=>False):
  PySem.W.WalkO q loose XP YP l.row.toRowW d [] (fun f vs=>PySem.call f vs):=by
 refine Nv.xy hn hdf fun w s₀ s₁ mg mb fa o pm cd doc a vs ns G Y ho hd hcd hmg hobj hints hlen hg=>?_
 have KX:=hY w _ Y
 obtain⟨fd,ts,h1,hb,hF⟩:=F w mg fa _ KX G.T.g hmg Y
 obtain⟨bm,ob,b1,b2,b3,b4⟩:=G.T.bmain
 exact Bv KX G.T.g G.T.b G.T.builtins G.T.nolimit hg hobj hints (Nat.le_trans hlen hn2) hr h1 ⟨bm,ob,b1,b2,b3,b4⟩ hF hb (fun H hO hS=>hsp w H a ns ts hlen hO hS) fun H e s'=>id
section
variable {X:Cx} {o e f:Expr} {apos cpos:Pos} {td ty tx:TE}
def Jj (tk tv:TE):TE:=fun σ H Q=>∀p,H p=none→tk σ (upd H p (.dT [])) fun x H1=>tv σ H1 fun y H2=>H2 p=some (.dT [])∧∃b ks,x=.ref b∧H2 b=some (.tup (ks.map kV))∧Q (.ref p) (upd H2 p (.dT [(ks,y)]))
theorem DU {pos:Pos} {k v:Expr} {tk tv:TE} (hu:X.A.units<cLine) (hk:PE X k tk) (hv:PE X v tv):PE X (.Dict [some k] [v] pos) (Jj tk tv):=by
 intro pins s σ H Q I q
 have hn:=I.hok.fresh (Nat.le_refl s.heap.objs.size)
 have I1:=I.laid (a:=s.heap.objs.size) (o:=.dT []) (h':=s.heap.push {cls:=.type "dict",data:=.dict #[]}) (t':=s.toks) (fun _ _ q=>Heap.get?_push_of_some _ q) (Nat.le_refl _) (DE s.heap I.big)
 have hall:([some k]:List (Option Expr)).all (·.isSome)=true:=rfl
 have hl:([some k]:List (Option Expr)).length=[v].length:=rfl
 rw[arm_eval_Dict,zip_pairTrees [some k] [v] X.env pos hall hl,dictDisplay_pairs _ (fun z=>by
  have:=pairTrees_length [some k] [v] X.env pos hall hl
  rw[z] at this;cases this) (by rw[pairTrees_length [some k] [v] X.env pos hall hl];show 1<17;decide)]
 refine wpAny_bind (wpAny_standAt (wpAny_bind ?_))
 unfold subDict
 refine wpAny_bind (wpAny_alloc ?_)
 refine wpAny_bind (wpAny_holding ?_)
 rw[if_pos (by rw[pairTrees_length [some k] [v] X.env pos hall hl];show 1≤15;decide)]
 have hp:Ba X pos [some k] [v] [(tk,tv)]:=mC hk hv yk
 refine wpAny_bind (aK (hp pins _ σ _ (fun ps H2=>match ps with | [(x,y)]=>H2 s.heap.objs.size=some (.dT [])∧∃b ks,x=.ref b∧H2 b=some (.tup (ks.map kV))∧Q (.ref s.heap.objs.size) (upd H2 s.heap.objs.size (.dT [(ks,y)])) | _=>False) I1 (q _ hn)) fun ws s2 ⟨ps,H2,I2,rel,q2⟩=>?_)
 cases rel with
 | nil=>exact False.elim q2
 | @cons p0 w0 ps' ws' r0 rt=>
  cases rt with
  | cons r1 WH=>exact False.elim q2
  | nil=>
   obtain⟨e,b,ks,eb,hb,q3⟩:=q2
   obtain⟨x0,y0⟩:=p0
   obtain⟨kv,vv⟩:=w0
   cases eb
   cases(show kv=Value.ref b from r0.1)
   obtain⟨z,hd,xs,rx,dd⟩:=Fm I2.hok e
   cases rx
   refine wpAny_holding (wpAny_bind ?_)
   rw[List.forIn_cons]
   refine wpAny_bind (wpAny_bind (wpAny_dictSet_heap (knd:=tupleKind (bY X.prog X.w)) (k:=ks) (xs:=[]) (show(tupleKind (bY X.prog X.w)).room X.A from hu) (nT I2.hok hb) dd (fun h' qq hs=>wpAny_pure ?_) (Nat.zero_le _)))
   dsimp only
   rw[List.forIn_nil]
   refine wpAny_pure (wpAny_pure (wpAny_pure (wpAny_pure ?_)))
   obtain⟨q',es,ep,hq,h2,h3,h4,_,h5⟩:=qq
   have new:bx X.prog X.w (upd H2 s.heap.objs.size (.dT [(ks,y0)])) h' s.heap.objs.size (.dT [(ks,y0)]):=by
    refine⟨by show 1≤sizeLine;decide,hd,_,(KT.put (.nil:KT H2 [] []) ks hb r0.2).keeps fun c ys ec=>?_,q',es,ep,hq,h2,h3,h4,h5⟩
    rw[ak (kg ec e (fun z=>nomatch z))]
    exact ec
   exact⟨.ref s.heap.objs.size,_,oS I2 (by rw[e];exact True.intro) hs ⟨q',hq⟩ new,rfl,q3⟩
end
theorem zD {K:PySem.W.Frag} {a:Addr} {xs:List V} {g:TG} {tt:TT} {te:TE} {D:Addr} {σ:St} {H:Hp} {R:Hp→Prop} (Pv:Nat→St→Hp→Prop) (h0:Pv 0 σ H) (hl:∀i σ H,i≤xs.length→Pv i σ H→bH K H a xs)
  (hs:∀i x p σ H,xs[i]? =some x→Pv i σ H→H p=none→g (.ref p) σ (upd H p (.tup [.int i,x])) fun σ2 H2=>tt σ2 H2 fun b H3=>if b=true then te σ2 H3 fun y H4=>∃ys,H4 D=some (.lst ys)∧ys.length<sizeLine∧Pv (i+1) σ2 (upd H4 D (.lst (ys++[y]))) else Pv (i+1) σ2 H3)
  (hd:∀σ H,Pv xs.length σ H→R H):ko (rH K a) g tt te D σ H R:=by
 refine⟨fun i m σ H=>m=xs.length-i∧i≤xs.length∧Pv i σ H,⟨xs.length,by simp,Nat.zero_le _,h0⟩,?_⟩
 rintro i m σ H ⟨rfl,hi,p⟩
 have q:=hl i σ H hi p
 by_cases hlt:i<xs.length
 ·refine .inr ⟨⟨xs,xs[i],q,by simp[hlt]⟩,Pv (i+1),fun σ' H' p'=>⟨xs.length-(i+1),by omega,rfl,hlt,p'⟩,fun x H' y=>?_⟩
  obtain⟨z,pa,hz,hn,rfl,rfl⟩:=y
  exact hs i z pa σ H (hz xs q) p hn
 ·have e:i=xs.length:=by omega
  subst e
  exact .inl ⟨⟨xs,q,Nat.le_refl _⟩,hd σ H p⟩
theorem Jk {c:TT} {tb:TS} {D:Ends} {σ:St} {H:Hp} (W:Nat→St→Hp→Prop) (h0:∃m,W m σ H)
  (hs:∀m σ H,W m σ H→c σ H fun b H1=>if b=true then tb {D with nx:=fun σ' H'=>∃m',m'<m∧W m' σ' H',ct:=fun σ' H'=>∃m',m'<m∧W m' σ' H',bk:=D.nx} σ H1 else D.nx σ H1)
  (mono:∀σ H Q Q',(∀b H1,Q b H1→Q' b H1)→c σ H Q→c σ H Q'):nO c tb D σ H:=by
 refine⟨W,h0,fun m σ H w=>mono σ H _ _ (fun b H1 q=>?_) (hs m σ H w)⟩
 cases b with
 | true=>exact⟨_,fun σ' H' p=>p,q⟩
 | false=>exact q
structure kZ (K:PySem.W.Frag) (x qual:Str) (st:Stmt) (f:Addr) (fd:FuncData) (cd:Value):Prop where
 ex:∃(oc:Value) (od:Option Addr) (dV kV doc pm:Value) (an:Option Addr) (ct:Value) (osl:Array (Option Value)),
  fd=PySem.W.fnOf x qual (aL st) (aH st) (aj st) dV kV doc pm an cd ct∧K.lookup f=some ⟨oc,od,.func fd,osl⟩∧PySem.W.codeIn K cd qual=true
 kp:PySem.W.keepIn K (.ref f)=true
section
variable {P:Program} {w:World} {K:PySem.W.Frag} {mg:Str→Option Value} {base:Heap}
theorem kZ.ok {x qual:Str} {st:Stmt} {f:Addr} {fd:FuncData} {cd:Value} {N ps:List Str} {k:Nat} {sp:Sp} (F:kZ K x qual st f fd cd) (S:aS N ps (aj st)) (len:∀vs H Q E,sp vs H Q E→vs.length=ps.length)
  (hbody:∀(A:Around) (outer:List Env) (s:Shared) (H:Hp) (vs:List V) (Q:VK) (E:XK),aP k (A.deeper (envOfC qual (aj st) s.heap.objs.size f cd))→sp vs H Q E→
   ∃t,jo (jQ bT P w K mg base N qual (aj st) f cd A outer s H E).pj (aH st) t∧t {nx:=fun _ H'=>Q .non H',rt:=Q} (start N vs) H):bf P w K mg base bT (k+1) f fd ps sp:=by
 obtain⟨oc,od,dV,kV,doc,pm,an,ct,osl,rfl,lk,hcd⟩:=F.ex
 refine Fi lk hcd S len fun A outer s H vs Q E hr hsp=>?_
 obtain⟨t,h,q⟩:=hbody A outer s H vs Q E hr hsp
 exact⟨t,h.pj,q⟩
theorem lO {x qual:Str} {st:Stmt} {f:Addr} {oc:Value} {od an:Option Addr} {osl:Array (Option Value)} {dV kV doc pm cd ct:Value} (l:K.lookup f=some ⟨oc,od,.func (PySem.W.fnOf x qual (aL st) (aH st) (aj st) dV kV doc pm an cd ct),osl⟩)
  (c:PySem.W.codeIn K cd qual=true) (k:PySem.W.keepIn K (.ref f)=true):kZ K x qual st f (PySem.W.fnOf x qual (aL st) (aH st) (aj st) dV kV doc pm an cd ct) cd:=⟨⟨oc,od,dV,kV,doc,pm,an,ct,osl,rfl,l,c⟩,k⟩
end
section
variable {X:Cx} {pos:Pos} {params:Arguments} {body:Expr} {scope:Scope} {c T:Addr} {clos:List (Str×Addr)} {L:List (Pos×Str)}
theorem yw (hcode:X.env.code=.ref c) (hC:PySem.W.codeHdIn X.K c T=true) (hB:dY X.mg X.base) (hcl:closureFor scope X.env=pure clos) (hdef:defaultsOf params X.env=([],[])) (hL:(pos,X.env.qual++"<lambda>")∈L) (ap:Apart L) (hfs:X.ex=[]):
  PE X (.Lambda params body scope pos) (Jd X params body scope clos T L):=fun pins s σ H Q I h=>Je hcode (PySem.W.codeHd_of_K I.ok.mod.tE hC) hB hcl hdef hL ap hfs pins s σ H Q I h
theorem t9 {K:PySem.W.Frag} {c T:Addr} {od:Option Addr} {vs:Array Value} {sl:Array (Option Value)} (lc:K.lookup c=some ⟨.type "code",od,.fields vs,sl⟩)
  (e:((match (vs[11]? :Option Value) with | some (.ref P')=>P' == T | _=>false)&&(match vs.getD 18 .none with | .str _ _=>true | _=>false)&&(match vs.getD 7 .none with | .int _ _=>true | _=>false)&&
   (match vs.getD 9 .none with | .bool _=>true | _=>false)&&(match vs.getD 10 .none with | .int _ _=>true | _=>false)&&c != T)=true):PySem.W.codeHdIn K c T=true:=by
 unfold PySem.W.codeHdIn
 rw[lc]
 exact e
end
def kvsOf {α κ:Type} (key:α→κ) (xs:List α):List (κ×V):=xs.zipIdx.map fun p=>(key p.1,V.int ((p.2:Nat):Int))
section
variable {α κ:Type} [DecidableEq κ] {key:α→κ}
theorem Bw (xs:List α):(kvsOf key xs).length=xs.length:=by unfold kvsOf;rw[List.length_map,List.length_zipIdx]
theorem qE (xs:List α) (x:α):kvsOf key (xs++[x])=kvsOf key xs++[(key x,V.int ((xs.length:Nat):Int))]:=by
 unfold kvsOf
 rw[List.zipIdx_append,List.map_append]
 simp
theorem oi:∀{kvs:List (κ×V)} {k:κ},(∀p∈kvs,p.1≠k)→cD kvs k=none
 | [],_,_=>rfl
 | p::r,k,h=>by rw[cE (h p List.mem_cons_self)];exact oi fun q hq=>h q (List.mem_cons_of_mem _ hq)
theorem mG (inj:∀a b,key a=key b→a=b) {xs:List α} {x:α} (h:x ∉ xs):cD (kvsOf key xs) (key x)=none:=by
 refine oi fun p hp e=>h ?_
 unfold kvsOf at hp
 obtain⟨q,hq,rfl⟩:=List.mem_map.mp hp
 obtain⟨y,i⟩:=q
 have:=(List.mem_zipIdx hq).2.2
 have e':=inj _ _ e
 rw[←e',this]
 exact List.getElem_mem ..
theorem pQ {kvs more:List (κ×V)} {k:κ} (h:cD kvs k=none):cD (kvs++more) k=cD more k:=by
 induction kvs with
 | nil=>rfl
 | cons p r ih=>
  by_cases e:p.1=k
  ·rw[dS e] at h;cases h
  ·rw[cE e] at h
   show cD (p::(r++more)) k=_
   rw[cE e];exact ih h
theorem pR {kvs more:List (κ×V)} {k:κ} {v:V} (h:cD kvs k=some v):cD (kvs++more) k=some v:=by
 induction kvs with
 | nil=>cases h
 | cons p r ih=>
  by_cases e:p.1=k
  ·rw[dS e] at h
   show cD (p::(r++more)) k=_
   rw[dS e];exact h
  ·rw[cE e] at h
   show cD (p::(r++more)) k=_
   rw[cE e];exact ih h
theorem qF (inj:∀a b,key a=key b→a=b):∀(n:Nat) {xs:List α} {i:Nat} {x:α},xs.length=n→xs.Nodup→xs[i]? =some x→cD (kvsOf key xs) (key x)=some (.int ((i:Nat):Int))
 | 0,xs,i,x,hl,_,h=>by
  have:=(List.getElem?_eq_some_iff.mp h).1
  omega
 | n+1,xs,i,x,hl,nd,h=>by
  rcases List.eq_nil_or_concat xs with rfl | ⟨ys,y,e⟩
  ·simp at hl
  rw[List.concat_eq_append] at e
  subst e
  rw[qE]
  have hy:y ∉ ys:=fun z=>((List.nodup_append.mp nd).2.2 y z y (List.mem_singleton.mpr rfl)) rfl
  by_cases hi:i<ys.length
  ·rw[List.getElem?_append_left hi] at h
   exact pR (qF inj n (by simpa using hl) (List.nodup_append.mp nd).1 h)
  ·have hb:=(List.getElem?_eq_some_iff.mp h).1
   rw[List.length_append] at hb
   have hi2:i=ys.length:=by simp at hb;omega
   subst hi2
   rw[List.getElem?_append_right (Nat.le_refl _),Nat.sub_self] at h
   have:=Option.some.inj h
   subst this
   rw[pQ (mG inj hy)]
   exact dS rfl
end
structure fS (α:Type) where
 Rep:α→V→Hp→Prop
 Num:Hp→Addr→List α→Prop
 same:∀{x:α} {v:V} {H H':Hp},Rep x v H→a_ H H'→Rep x v H'
 keep:∀{H H':Hp} {D:Addr} {xs:List α},Num H D xs→H' D=H D→Num H' D xs
 isD:∀{H:Hp} {D:Addr} {xs:List α},Num H D xs→∃o,H D=some o∧(∀l,o≠.lst l)∧(∀l,o≠.tup l)
 there:∀{H:Hp} {D:Addr} {xs:List α} {i:Nat} {x:α} {v:V},Num H D xs→Rep x v H→xs.Nodup→xs[i]? =some x→nV H D v (some (.int ((i:Nat):Int)))
 miss:∀{H:Hp} {D:Addr} {xs:List α} {x:α} {v:V},Num H D xs→Rep x v H→x ∉ xs→nV H D v none
 put:∀{H:Hp} {D:Addr} {xs:List α} {x:α} {v:V},Num H D xs→Rep x v H→x ∉ xs→xs.length<sizeLine→∃H',jc H D v (.int ((xs.length:Nat):Int)) H'∧KB D H H'∧Num H' D (xs++[x])
 DV:∀{X:Cx} {pos kpos cpos:Pos} {x:Str} {i j:Nat},X.A.units+1<cLine→PE X (.Name x kpos) (Dq i)→PE X (.Constant (.int 0) j cpos) (tC (.int 0))→PE X (.Dict [some (.Name x kpos)] [.Constant (.int 0) j cpos] pos)
  (fun σ H Q=>∃y v,σ[i]? =some (some v)∧Rep y v H∧∀D H',H D=none→Same H H'→Num H' D [y]→Q (.ref D) H')
theorem G' (a b:Nat) (h:(Sum.inl (a:Int):Key)=Sum.inl (b:Int)):a=b:=by injection h with h;omega
def k_ (l:List Nat):List Key:=l.map fun(x:Nat)=>(Sum.inl (x:Int):Key)
theorem pS (a b:List Nat) (h:k_ a=k_ b):a=b:=by
 unfold k_ at h
 induction a generalizing b with
 | nil=>cases b with
  | nil=>rfl
  | cons y b=>cases h
 | cons x a ih=>cases b with
  | nil=>cases h
  | cons y b=>
   rw[List.map_cons,List.map_cons] at h
   injection h with h1 h2
   rw[G' _ _ h1,ih b h2]
theorem oY (l:List Nat):(k_ l).map kV=(l.map fun(x:Nat)=>V.int (x:Int)):=by unfold k_;rw[List.map_map];rfl
def j0:fS (List Nat) where
 Rep:=fun x v H=>∃p,v=.ref p∧H p=some (.tup (x.map fun(z:Nat)=>V.int (z:Int)))
 Num:=fun H D xs=>H D=some (.dT (kvsOf k_ xs))
 same:=fun {x v H H'} ⟨p,e,h⟩ k=>⟨p,e,k _ _ h⟩
 keep:=fun h e=>e.trans h
 isD:=fun h=>⟨_,h,(fun l z=>by cases z),(fun l z=>by cases z)⟩
 there:=fun {H D xs i x v} h ⟨p,r,hp⟩ nd e=>by
  subst r
  exact .inr ⟨_,k_ x,p,.inl h,rfl,by rw[oY];exact hp,(qF pS _ rfl nd e).symm⟩
 miss:=fun {H D xs x v} h ⟨p,r,hp⟩ n=>by
  subst r
  exact .inr ⟨_,k_ x,p,.inl h,rfl,by rw[oY];exact hp,(mG pS n).symm⟩
 put:=fun {H D xs x v} h ⟨p,r,hp⟩ n hl=>by
  subst r
  refine⟨_,jc.t (k:=k_ x) h (by rw[oY];exact hp) (by rw[Bw];exact hl),KB.write,?_⟩
  rw[af,mB _ (mG pS n),qE]
 DV:=fun {X pos kpos cpos x i j} hu h1 h2 pins s σ H Q I q=>by
  obtain⟨y,v,hv,⟨p,rfl,hp⟩,q⟩:=q
  refine DU (Nat.lt_of_succ_lt hu) h1 h2 pins s σ H Q I fun D hD=>⟨_,hv,?_⟩
  have sD:=Same.new (o:=.dT []) hD
  refine⟨af,p,k_ y,rfl,by rw[oY];exact sD _ _ hp,q D _ hD (sD.kbn hD KB.write) ?_⟩
  rw[af];rfl
theorem gE.mk' {ps aF:List Str} {scope:Scope} (h1:scope.kind=.function) (h2:scope.isCoroutine=false) (h3:scope.isGenerator=false) (h4:∀x∈scope.names,x.2≠.cell) (h5:∀x∈ps,scope.names.lookup x=some .local) (h6:∀x∈aF,scope.names.lookup x=some .free)
  (h7:∀p∈scope.names,p.2=.free→p.1∈aF) (h8:(ps++aF).Nodup):gE ps aF scope:=⟨h1,h2,h3,h4,h5,h6,fun x e=>h7 (x,.free) (PySem.mem_of_lookup e) rfl,h8⟩
def FnAt (P:Program) (w:World) (K:PySem.W.Frag) (mg:Str→Option Value) (base:Heap) (k:Nat) (f:Addr) (n:Nat) (sp:Sp):Prop:=
 ∃(o:Obj) (fd:FuncData) (ps:List Str),base.get? f=some o∧o.data=.func fd∧ps.length=n∧(∀us:List Value,us.length=ps.length→bindArgs fd ⟨us,[]⟩=pure (ps.zip us))∧bf P w K mg base bT k f fd ps sp
theorem iZ {D:List Addr} {H1 H2:Hp} (s:Same (cL D H1) H2):Same H1 (fB D H1 H2):=fun b o e=>by
 by_cases hb:b∈D
 ·rw[yu hb];exact e
 ·rw[dC hb];exact s _ _ (by rw[eZ hb];exact e)
theorem gF {D:List Addr} {H:Hp} {b:Addr} {o:HO} (hD:∀a∈D,∃φ,H a=some (.ext φ)) (e:H b=some o) (hn:∀φ,o≠.ext φ):cL D H b=some o:=by
 rw[eZ fun z=>?_]
 ·exact e
 ·obtain⟨φ,q⟩:=hD b z
  rw[e] at q
  exact hn φ (Option.some.inj q)
def qG (c:Addr) (v:V):HO:=.ext fun h=>∃u,h.IsCell c (some u)∧RelV v u
theorem DW {P:Program} {w:World} {H:Hp} {h:Heap} {c:Addr} {v:V} {u:Value} (e:h.IsCell c (some u)) (r:RelV v u):bx P w H h c (qG c v):=
 ⟨⟨u,e,r⟩,(let ⟨o,ho,_⟩:=e;⟨o,ho⟩),fun h1 h2 ⟨u,⟨o,ho,hd⟩,r⟩ k=>⟨u,⟨o,k o ho,hd⟩,r⟩⟩
def j1 (cs:List (Addr×V)) (H:Hp):Hp:=fun b=>match cs.lookup b with
 | some v=>some (qG b v)
 | none=>H b
theorem yx {cs:List (Addr×V)} {H:Hp} {b:Addr} {v:V} (h:cs.lookup b=some v):j1 cs H b=some (qG b v):=by unfold j1;rw[h]
theorem pT {cs:List (Addr×V)} {H:Hp} {b:Addr} (h:cs.lookup b=none):j1 cs H b=H b:=by unfold j1;rw[h]
theorem oj {cs:List (Addr×V)} {H:Hp} (h:∀c v,cs.lookup c=some v→H c=none):Same H (j1 cs H):=fun b o e=>by
 cases q:cs.lookup b with
 | none=>rw[pT q];exact e
 | some v=>rw[h b v q] at e;cases e
def gM (X:Cx) (σ:St) (cs:List (Addr×V)):Prop:=∀c v,cs.lookup c=some v→∃(i:Nat) (x:Str),X.N[i]? =some x∧σ[i]? =some (some v)∧X.env.scope.names.lookup x=some .cell∧X.env.cells.lookup x=some c
section
variable {X:Cx} {pins:List (Addr×Obj)} {σ:St} {H:Hp} {s:Shared} {cs:List (Addr×V)}
theorem gM.free (C:gM X σ cs) (I:Inv X pins σ H s):∀c v,cs.lookup c=some v→H c=none:=fun c v e=>by
 obtain⟨i,x,_,_,_,h⟩:=C c v e
 exact I.fO x c h
theorem gM.hok (C:gM X σ cs) (I:Inv X pins σ H s):dc X.prog X.w (j1 cs H) s.heap:=fun b u e=>by
 have sm:=oj (C.free I)
 cases q:cs.lookup b with
 | some v=>
  rw[yx q] at e
  cases e
  obtain⟨i,x,h1,h2,h3,h4⟩:=C b v q
  obtain⟨m,_,hl⟩:=I.loc
  obtain⟨u,r,l⟩:=hl i x v h1 h2 (.inr (.inl h3))
  rcases l with⟨z,_⟩ | ⟨_,c,e,z⟩
  ·have z':X.env.scope.names.lookup x=some .local:=z
   rw[h3] at z';cases z'
  ·rw[h4] at e;cases e
   exact DW z r
 | none=>
  rw[pT q] at e
  exact(I.hok b u e).stay (fun _ _ _ z=>z) (fun d z=>sm _ _ z) fun d xs z=>sm _ _ z
theorem gM.un (C:gM X σ cs) (I:Inv X pins σ H s) (hfn:∀x,X.fn x=true) (hex:X.ex=[]):Un X.fs [] X.H₀ (j1 cs H) X.s₀.heap s.heap:=by
 have B:=I.base
 rw[hex] at B
 have sm:=oj (C.free I)
 refine⟨B.keep,B.slot,fun b o e n hx=>?_,B.there,fun b xs e=>sm _ _ (B.tups b xs e),fun b o xs e=>sm _ _ (B.jM b o xs e),fun b ps e=>?_⟩
 ·cases q:cs.lookup b with
  | none=>rw[pT q];exact B.free b o e n hx
  | some v=>
   obtain⟨i,x,_,_,_,h4⟩:=C b v q
   exact absurd (Nat.lt_of_lt_of_le (Heap.lt_size e) (I.ok.cab x b (hfn x) h4)) (Nat.lt_irrefl _)
 ·obtain⟨m,z⟩:=B.jN b ps e
  exact⟨m,sm _ _ z⟩
end
abbrev TB:=(St→V→Hp→Prop)→St→Hp→Prop
def SW (X:Cx) (pins:List (Addr×Obj)) (R:St→V→Hp→Prop) (f:Flow) (s':Shared):Prop:=
 match f with
 | .ret u=>∃v σ' H',Inv X pins σ' H' s'∧RelV v u∧R σ' v H'
 | _=>False
def mH (X:Cx) (st:List Stmt) (t:TB):Prop:=
 ∀(pins:List (Addr×Obj)) (s:Shared) (σ:St) (H:Hp) (R:St→V→Hp→Prop),Inv X pins σ H s→t R σ H→wpAny (model X.prog X.w) X.A (execs st X.env) (SW X pins R) X.xe s
section
variable {X:Cx} {st:Stmt} {rest:List Stmt} {t:TS} {u:TB} {e:Expr} {te:TE} {pos:Pos}
theorem Jl (he:PE X e te):mH X [.Return (some e) pos] (fun R σ H=>te σ H (R σ)):=by
 intro pins s σ H R I h
 refine wpAny_execs_cons (wpAny_Return_some (aK (he pins s σ H _ I h) fun v s1 ⟨x,H1,I1,r1,q1⟩=>?_))
 exact⟨x,σ,H1,I1,r1,q1⟩
theorem rN (h1:PS X st t) (h2:mH X rest u):mH X (st::rest) (fun R σ H=>t {nx:=u R,rt:=fun _ _=>False} σ H):=by
 intro pins s σ H R I h
 refine wpAny_execs_cons (aK (h1 pins s σ H {nx:=u R,rt:=fun _ _=>False} I h) fun f s1 q=>?_)
 cases f with
 | next=>
  obtain⟨σ',H',I',q⟩:=q
  exact h2 pins s1 σ' H' R I' q
 | ret v=>obtain⟨_,_,_,_,_,z⟩:=q;exact z.elim
 | brk=>obtain⟨_,_,_,z⟩:=q;exact z.elim
 | cont=>obtain⟨_,_,_,z⟩:=q;exact z.elim
theorem mH.pj {st:List Stmt} (h:mH X.pj st u):mH X st u:=fun pins s σ H R I hw=>
 wpAny_mono (h pins s σ H R (I.wish _) hw) (fun f s' q=>by
  cases f with
  | ret v=>obtain⟨x,σ',H',J,r,z⟩:=q;exact⟨x,σ',H',J.g6,r,z⟩
  | next=>exact q
  | brk=>exact q
  | cont=>exact q) fun _ _ z=>False.elim z
end
theorem kZ.okR {P:Program} {w:World} {K:PySem.W.Frag} {mg:Str→Option Value} {base:Heap} {x qual:Str} {st:Stmt} {f:Addr} {fd:FuncData} {cd:Value} {N ps:List Str} {k:Nat} {sp:Sp} (F:kZ K x qual st f fd cd) (S:aS N ps (aj st)) (len:∀vs H Q E,sp vs H Q E→vs.length=ps.length)
  (hbody:∀(A:Around) (outer:List Env) (s:Shared) (H:Hp) (vs:List V) (Q:VK) (E:XK),(∀x y c,(envOfC qual (aj st) s.heap.objs.size f cd).cells.lookup x=some c→(envOfC qual (aj st) s.heap.objs.size f cd).cells.lookup y=some c→x=y)→aP k (A.deeper (envOfC qual (aj st) s.heap.objs.size f cd))→sp vs H Q E→
   ∃t,mH (jQ bT P w K mg base N qual (aj st) f cd A outer s H E).pj (aH st) t∧t (fun σ v H2=>∃cs,gM (jQ bT P w K mg base N qual (aj st) f cd A outer s H E) σ cs∧((∀c v,cs.lookup c=some v→H2 c=none)→Q v (j1 cs H2))) (start N vs) H):bf P w K mg base bT (k+1) f fd ps sp:=by
 obtain⟨oc,od,dV,kV,doc,pm,an,ct,osl,rfl,lk,hcd⟩:=F.ex
 refine⟨len,fun A outer s H args us vs Q E hr e0 hb r hsp=>?_⟩
 have hl:=len _ _ _ _ hsp
 have KX:K.In s.heap:=e0.mod.tE.keeps fun b o e=>(e0.bs b o e).1
 have lim:s.heap.NoLimit:=e0.mod.nolimit.keeps fun b o e=>(e0.bs b o e).1
 have hkind:∀y∈ps.zip us,(aj st).names.lookup y.1=some .local∨((aj st).names.lookup y.1=some .cell∧((cellsFrom (s.heap.objs.size+1) (aj st).names []).lookup y.1).isSome=true):=fun⟨n,v⟩ hy=>by
  rcases S.par n (List.of_mem_zip hy).1 with q | q
  ·exact .inl q
  ·exact .inr ⟨q,PySem.W.cellsFrom_some _ _ _ (.inl q)⟩
 refine codeAny_call_function hr.depth (KX _ _ lk) rfl S.co S.gen rfl (PySem.W.codeRec_of KX hcd) (hb _ _ _ _ ?_)
 refine wpAny_newFunctionEnv_cells S.kind hkind fun env he s1 x=>?_
 subst he
 refine⟨lim.keeps x.toInCall.keep,codeAny_func ?_⟩
 have I:Inv (jQ bT P w K mg base N qual (aj st) f cd A outer s H E) [] (start N vs) H s1:=tO S hr.hd e0 hl r x
 obtain⟨t,ht,hq⟩:=hbody A outer s H vs Q E I.ok.inj (hr.deeper _) hsp
 refine wpAny_mono (ht.pj [] s1 (start N vs) H _ I hq) (fun fl s' hs=>?_) fun e s' hs=>hs
 cases fl with
 | ret u=>
  obtain⟨v,σ',H',J,rv,cs,C,q⟩:=hs
  exact⟨v,j1 cs H',J.os,J.bare,C.un J (fun _=>rfl) rfl,C.hok J,rv,q (C.free J)⟩
 | next=>exact False.elim hs
 | brk=>exact False.elim hs
 | cont=>exact False.elim hs
structure zE (K:PySem.W.Frag) (mg:Str→Option Value) (base:Heap) (D:List Addr) (H:Hp) (base':Heap):Prop where
 sub:∀b o,base.get? b=some o→base'.get? b=some o
 mod:Mod K mg base'
 ext:∀a φ,a∈D→H a=some (.ext φ)→φ base'
theorem Wide.b {X:Cx} {σ:St} {D:List Addr} {H:Hp} {base':Heap} (W:Wide X σ D H base'):zE X.K X.mg X.base D H base':=⟨W.sub,W.mod,W.ext⟩
def j3 (P:Program) (w:World) (K:PySem.W.Frag) (mg:Str→Option Value) (base:Heap) (H:Hp) (D:List Addr) (k:Nat) (f:Addr) (n:Nat) (sp:Sp):Prop:=∀base',zE K mg base D H base'→FnAt P w K mg base' k f n sp
theorem j3.same {P:Program} {w:World} {K:PySem.W.Frag} {mg:Str→Option Value} {base:Heap} {H H':Hp} {D:List Addr} {k:Nat} {f:Addr} {n:Nat} {sp:Sp} (F:j3 P w K mg base H D k f n sp) (k':∀b φ,b∈D→H b=some (.ext φ)→H' b=some (.ext φ)):j3 P w K mg base H' D k f n sp:=
 fun base' W=>F base' ⟨W.sub,W.mod,fun a φ ha e=>W.ext a φ ha (k' a φ ha e)⟩
theorem j3.lam {X:Cx} {D:List Addr} {H:Hp} {params:Arguments} {body:Expr} {scope:Scope} {clos:List (Str×Addr)} {c' f:Addr} {ctv:Value} {ps aF:List Str} {fvs:List V} {k:Nat} {sp:Sp}
  (hf:H f=some (kq f (lamO X params body scope clos c' ctv))) (Jm:f∈D) (hc:H c'=some (kr c' (X.env.qual++"<lambda>"))) (hcD:c'∈D) (S:gE ps aF scope) (PH:∀x y c,X.env.cells.lookup x=some c→X.env.cells.lookup y=some c→x=y) (sub:∀p∈clos,X.env.cells.lookup p.1=some p.2∧p.1∈aF)
  (vals:Paired (fun(x:Str) (v:V)=>∃c,clos.lookup x=X.env.cells.lookup x∧X.env.cells.lookup x=some c∧c∈D∧H c=some (qG c v)) aF fvs)
  (hb:∀(us:List Value),us.length=ps.length→bindArgs (PySem.W.kla_fn "<lambda>" (X.env.qual++"<lambda>") params body scope clos ((X.mg "__name__").getD .none) (.ref c') ctv) ⟨us,[]⟩=pure (ps.zip us)) (len:∀vs H Q E,sp vs H Q E→vs.length=ps.length)
  (hbody:∀(base':Heap),zE X.K X.mg X.base D H base'→∀(A:Around) (outer:List Env) (s:Shared) (H:Hp) (vs:List V) (Q:VK) (E:XK),aP k (A.deeper (PySem.W.envX (X.env.qual++"<lambda>") scope s.heap.objs.size f (.ref c') clos))→sp vs H Q E→
   ∃t,PE (Bp X.prog X.w X.K X.mg base' (ps++aF) (X.env.qual++"<lambda>") scope f (.ref c') clos A outer s H) body t∧t (vs.map some++fvs.map some) H Q):j3 X.prog X.w X.K X.mg X.base H D (k+1) f ps.length sp:=fun base' W=>by
 have ho:base'.get? f=some (lamO X params body scope clos c' ctv):=W.ext f _ Jm hf
 have oh:base'.CodeRec (.ref c') (X.env.qual++"<lambda>"):=W.ext c' _ hcD hc
 have vals':Paired (fun(x:Str) (v:V)=>∃c u,clos.lookup x=some c∧base'.IsCell c (some u)∧RelV v u) aF fvs:=Paired.pG vals fun x v ⟨c,h0,h1,h2,h3⟩=>by
  obtain⟨u,e,r⟩:=W.ext c _ h2 h3
  exact⟨c,u,h0.trans h1,e,r⟩
 have sub':∀x c,clos.lookup x=some c→X.env.cells.lookup x=some c∧x∈aF:=fun x c e=>sub (x,c) (PySem.mem_of_lookup e)
 have C:iw base' clos aF fvs:=by
  refine⟨fun x y c h1 h2=>PH x y c (sub' x c h1).1 (sub' y c h2).1,fun x c h=>?_,vals'⟩
  obtain⟨i,hi⟩:=List.getElem?_of_mem (sub' x c h).2
  obtain⟨v,_,c2,u,h1,h2,_⟩:=cZ vals' hi
  rw[h] at h1;cases h1
  exact⟨_,h2⟩
 exact⟨_,_,ps,ho,rfl,rfl,hb,Jb ho oh S C len (hbody base' W)⟩
section
variable {P:Program} {w:World} {A:Around} {E:Value→Shared→Prop}
theorem vU {its:List Value} {ss:List Str} {t:Str} {tt:Tok} {j:Nat} (r:Vals (ss.map V.str) its) (hj:ss[j]? =some t) (hlt:∀i,i<j→ss[i]? ≠some t) {s:Shared} {Q:Option PySem.Fin×Unit→Shared→Prop}
  (hQ:Q (some (Fin.done (Flow.ret (.int (j:Nat) s.toks))),()) {s with toks:=s.toks+1}):
  ∀k i,i+k=its.length→i≤j→wpAny (model P w) A (forIn (List.range' i k) (none,()) (fun(i:Nat) (__s:Option PySem.Fin×Unit)=>
   match its.toArray[i]? with
   | some y=>do
    let __do_lift ←eqBool y (Value.str t tt)
    if __do_lift=true then do
      let __do_lift ←retInt (i:Int)
      pure (ForInStep.done (some __do_lift,()))
     else pure (ForInStep.yield (none,()))
   | x=>pure (ForInStep.yield (none,())))) Q E s
 | 0,i,hk,hi=>by
  have h1:=(List.getElem?_eq_some_iff.mp hj).1
  have h2:=Vals.length r
  rw[List.length_map] at h2
  omega
 | k+1,i,hk,hi=>by
  rw[List.range'_succ,List.forIn_cons]
  have h2:=Vals.length r
  rw[List.length_map] at h2
  obtain⟨z,hz⟩:∃z,ss[i]? =some z:=⟨_,List.getElem?_eq_getElem (by omega)⟩
  obtain⟨y,hy,ry⟩:=Vals.get r (show(ss.map V.str)[i]? =some (.str z) by rw[List.getElem?_map,hz];rfl)
  obtain⟨ty,rfl⟩:=ry
  have hy':its.toArray[i]? =some (Value.str z ty):=by rw[List.getElem?_toArray];exact hy
  refine wpAny_bind ?_
  rw[hy']
  refine wpAny_bind (SeqAt.EqAt.str_str z ty t tt P w E _ ?_)
  by_cases e:i=j
  ·subst e
   have:z=t:=Option.some.inj (hz.symm.trans hj)
   subst this
   rw[show(z == z)=true from beq_self_eq_true z]
   refine wpAny_bind ?_
   unfold retInt
   refine wpAny_bind (wpAny_mkInt ?_)
   exact wpAny_pure (wpAny_pure (wpAny_pure hQ))
  ·have hne:z≠t:=fun q=>hlt i (by omega) (by rw[hz,q])
   rw[show(z == t)=false from beq_false_of_ne hne]
   refine wpAny_pure ?_
   exact vU r hj hlt hQ k (i+1) (by omega) (by omega)
end
section
variable {X:Cx}
def Ha (K:PySem.W.Frag):V→List V→Hp→VK→Prop:=fun x vs H Q=>∃(p:Addr) (ss:List Str) (t:Str) (j:Nat),x=.ref p∧vs=[.str t]∧bH K H p (ss.map V.str)∧ss[j]? =some t∧(∀i,i<j→ss[i]? ≠some t)∧Q (.int (j:Nat)) H
theorem ua (K:PySem.W.Frag) (hK:X.K=K:=by rfl):vz X "tuple.index" (Ha K):=by
 subst hK
 intro pins s σ H x vs v us Q I rx rv h
 obtain⟨p,ss,t,j,rfl,rfl,hq,hj,hlt,q⟩:=h
 cases rx
 obtain⟨u,rfl,ru⟩:=rv.one
 obtain⟨tt,rfl⟩:=ru
 obtain⟨its,r,pl,hz⟩:=I.tuple hq
 obtain⟨o,ho,hcl,n,hd⟩:=pl
 refine wpAny_call_entry F.slot_tuple_index ⟨o,ho,hcl⟩ F.entry_tuple_index ?_ (F.args_tuple_index_2 _ _)
 obtain⟨ocls,odict,odata,oslots⟩:=o
 simp only at hcl hd
 subst hcl hd
 unfold Builtin.«tuple.index» selfAndSome noKeywords Builtin.Tuple.tupleItemsOf
 simp only[Std.Legacy.Range.forIn_eq_forIn_range']
 wp_walk
 have hsz:[:min its.toArray.size its.toArray.size].size=its.length:=by simp[Std.Legacy.Range.size]
 rw[hsz]
 refine vU (P:=X.prog) (w:=X.w) (A:=X.A.in1) (E:=X.xe) (s:=s) (tt:=tt) r hj hlt ?_ its.length 0 (by omega) (Nat.zero_le _)
 exact wpAny_pure ⟨_,rfl,.int (j:Nat),H,I.tok _,⟨_,rfl⟩,q⟩
def Hb:List V→Hp→VK→Prop:=fun xs H Q=>∃(d:Addr) (kvs:List (Key×V)) (ss:List Int),xs=[.ref d]∧H d=some (.dK kvs)∧kvs.map (·.1)=ss.map Sum.inl∧ss.length<64∧
 ∀(p:Addr) (ss':List Int),H p=none→ss'.Perm ss→ss'.Pairwise (· ≤ ·)→Q (.ref p) (upd H p (.lst (ss'.map V.int)))
theorem mI:∀{vs:List Value} {ss:List Int},vs.length=ss.length→(∀(i:Nat) (v:Value) (x:Int),vs[i]? =some v→ss[i]? =some x→∃t,v=.int x t)→IntsAre vs ss
 | [],[],_,_=>.nil
 | [],_::_,h,_=>by cases h
 | _::_,[],h,_=>by cases h
 | v::vs,x::ss,h,k=>by
  obtain⟨t,rfl⟩:=k 0 v x rfl rfl
  exact .cons x t (mI (Nat.succ.inj h) fun i v y e1 e2=>k (i+1) v y e1 e2)
theorem xD (hc:X.calm=true):dh X (.builtin "sorted") Hb:=by
 intro pins s σ H xs us Q I r h
 obtain⟨d,kvs,ss,rfl,hd,hk,h64,q⟩:=h
 obtain⟨u,rfl,ru⟩:=vals1 r
 cases ru
 obtain⟨hz,lo,vs,rel,dd⟩:=zu I.hok hd
 obtain⟨ep,hat⟩:=dd.dictAt
 have hlk:kvs.length=ss.length:=by have:=congrArg List.length hk;simpa using this
 have WI:kvs.length=vs.length:=rel.length
 have hks:∀(i:Nat) (k:Key) (x:Value),vs[i]? =some (k,x)→∃y,ss[i]? =some y∧k=Sum.inl y:=fun i k x e=>by
  have h1:(vs.map (·.1))[i]? =some k:=by rw[List.getElem?_map,e];rfl
  have h2:vs.map (·.1)=ss.map Sum.inl:=by
   rw[←hk]
   have:∀{l:List (Key×V)} {m:List (Key×Value)},KV l m→m.map (·.1)=l.map (·.1):=fun {l m} q=>by
    unfold KV at q
    induction q with
    | nil=>rfl
    | cons a _ ih=>rw[List.map_cons,List.map_cons,ih,a.1]
   exact this rel
  rw[h2,List.getElem?_map] at h1
  cases es:ss[i]? with
  | none=>rw[es] at h1;cases h1
  | some y=>rw[es] at h1;exact⟨y,rfl,(Option.some.inj h1).symm⟩
 refine Calls.call_function_entry kind_sorted plain_sorted entry_sorted (args_sorted1 _) ?_
 unfold Builtin.«sorted»
 (refine wpAny_bind (m:=checkCount "sorted" 1 1 _) (wpAny_pure ?_))
 refine wpAny_bind (PySem.W.kdu_collect (A:=X.A.in1) (PySem.W.kdl_dict (knd:=bY X.prog X.w) (kvs:=vs) (ep:=ep) lo) (I.ok.hd hc) hat (by omega) fun h' tk acc k it=>?_)
 have hl:acc.toList.length=ss.length:=by rw[Array.length_toList,it.1];omega
 have hS:IntsAre acc.toList ss:=mI hl fun i v x e1 e2=>by
  obtain⟨kk,z,ek,ik⟩:=it.2 i v (by rw[←Array.getElem?_toList];exact e1)
  obtain⟨y,ey,rfl⟩:=hks i kk z ek
  rw[e2] at ey
  cases ey
  rw[zg] at ik
  rcases cC ik with⟨x',t,z,ev⟩ | ⟨_,_,z,_⟩
  ·cases z
   exact⟨t,ev⟩
  ·cases z
 refine wpAny_bind (wpAny_newList ?_ (by rw[hl];exact Nat.le_of_lt (Nat.lt_of_lt_of_le h64 (by decide))))
 have hoL:(h'.push (seqObj "list" acc.toList.toArray 0)).get? h'.objs.size=some (seqObj "list" acc.toList.toArray 0):=Heap.get?_push_size _ rfl
 refine wpAny_bind (wpAny_holding (wpAny_call_entry slot_list_sort ⟨_,hoL,rfl⟩ entry_list_sort (list_sort_tree hoL hS (by rw[hl];exact h64) fun out ss' a1 a2 a3=>⟨_,rfl,?_⟩) (args_list_sort _)))
 have I1:Inv X pins σ H {s with heap:=h',toks:=tk}:=I.kept k
 obtain⟨e,he⟩:=sortedHeap_at (out:=out) hoL
 have kp:∀b u,h'.get? b=some u→(sortedHeap (h'.push (seqObj "list" acc.toList.toArray 0)) h'.objs.size acc.toList (out)).get? b=some u:=fun b u eb=>by
  have lt:=Heap.lt_size eb
  rw[sortedHeap_old (Nat.ne_of_lt lt) (by rw[Heap.size_push];exact Nat.lt_succ_of_lt lt)]
  exact Heap.get?_push_of_some _ eb
 have I2:=I1.laid (a:=h'.objs.size) (o:=.lst (ss'.map V.int)) (t':=tk) kp (Nat.le_refl _) ⟨by rw[List.length_map,a2.length_eq];exact Nat.le_of_lt (Nat.lt_of_lt_of_le h64 (by decide)),(out).toList,e,km a1,he⟩
 exact wpAny_pure ⟨_,rfl,⟨.ref h'.objs.size,_,I2,rfl,q _ ss' (I1.hok.fresh (Nat.le_refl _)) a2 a3⟩⟩
end
section
variable {X:Cx} {o e:Expr} {es:List Expr} {apos cpos:Pos} {name:Str} {id:String} {r:V→List V→Hp→VK→Prop} {to:TE} {t:TA}
def PJ (r:V→List V→Hp→VK→Prop) (to:TE) (t:TA):TE:=fun σ H Q=>to σ H fun x H1=>(∃p xs,x=.ref p∧H1 p=some (.tup xs))∧t σ H1 fun vs H2=>r x vs H2 Q
theorem Bx (pa:PlainAttrs "tuple") (slot:Slot "tuple" name id) (hty:typeOf (.builtin id)=pure (.type "method_descriptor")) (hm:vz X id r) (ho:PE X o to) (ha:PA X (e::es) t)
  (hbase:attributeBase o name X.env (eval o X.env)=eval o X.env:=by rfl)
  (hfew:((backTo cpos (starEach (e::es) X.env)).all (fun x=> !x.1)&&(backToKw cpos (keywordEach [] X.env)).all (fun x=>x.1.isSome)
   &&decide ((e::es).length+([]:List Keyword).length+(if([]:List Keyword).isEmpty then 0 else 1)<30))=true:=by rfl)
  (hline:(apos.endLine == cpos.line)=true:=by rfl) (hs:starEach (e::es) X.env=(false,eval e X.env)::starEach es X.env:=by rfl) (hplain:(backTo cpos (starEach es X.env)).any (·.1)=false:=by rfl):
  PE X (.Call (.Attribute o name apos) (e::es) [] cpos) (PJ r to t):=by
 intro pins s σ H Q I h
 refine wpAny_Call_method_late hbase hfew hline rfl (aK (ho pins s σ H _ I h) fun v s1 ⟨x,H1,I1,r1,⟨p,xs,ex,ep⟩,q1⟩=>?_)
 subst ex
 obtain rfl:v=Value.ref p:=r1
 obtain⟨⟨_,o2,e2,d2⟩,its,_,ob,e1,c1,_⟩:=(show bx X.prog X.w H1 s1.heap p (.tup xs) from I1.hok p _ ep)
 have h1:s1.TypeIs (.ref p) "tuple":=⟨ob,e1,c1⟩
 have h2:∀a,Value.ref p=.ref a→∃ob,s1.heap.get? a=some ob∧ob.dict=none:=fun a ea=>by cases ea;exact⟨o2,e2,d2⟩
 refine⟨"tuple",id,pa,slot,hty,h1,h2,?_⟩
 have hA:=ha cpos pins s1 σ H1 _ I1 q1
 rw[hs] at hA ⊢
 refine Calls.callWith_builtin (by show(false||(backTo cpos (starEach es X.env)).any (·.1))=false;rw[hplain]<;>rfl) (Calls.evalArgs_plain ?_)
 exact aK hA fun us s2 ⟨vs,H2,I2,r2,q2⟩=>hm pins s2 σ H2 (.ref p) vs (.ref p) us Q I2 rfl r2 q2
end
theorem vV {α β:Type} [BEq α] [LawfulBEq α]:∀{l:List (α×β)} {a:α} {b:β},l.lookup a=some b→(a,b)∈l
 | (x,y)::l,a,b,h=>by
  rw[List.lookup_cons] at h
  by_cases e:a=x
  ·subst e
   rw[beq_self_eq_true] at h
   cases h
   exact List.mem_cons_self
  ·rw[show(a == x)=false from beq_false_of_ne e] at h
   exact List.mem_cons_of_mem _ (vV h)
structure vW (X:Cx) (σ:St) (l:List (Nat×Str×Addr×V)):Prop where
 at':∀q∈l,X.N[q.1]? =some q.2.1∧σ[q.1]? =some (some q.2.2.2)∧X.env.scope.names.lookup q.2.1=some .cell∧X.env.cells.lookup q.2.1=some q.2.2.1
 nd:(l.map (·.2.1)).Nodup
def om (l:List (Nat×Str×Addr×V)):List (Addr×V):=l.map fun q=>(q.2.2.1,q.2.2.2)
theorem vW.cells {X:Cx} {σ:St} {l:List (Nat×Str×Addr×V)} (C:vW X σ l):gM X σ (om l):=fun c v h=>by
 obtain⟨q,hq,e⟩:=List.mem_map.mp (show(c,v)∈om l from vV h)
 cases e
 obtain⟨h1,h2,h3,h4⟩:=C.at' q hq
 exact⟨q.1,q.2.1,h1,h2,h3,h4⟩
theorem lP {α β:Type} [BEq α] [LawfulBEq α]:∀{l:List (α×β)} {a:α} {b:β},(a,b)∈l→∃b',l.lookup a=some b'
 | (x,y)::l,a,b,h=>by
  rw[List.lookup_cons]
  by_cases e:a=x
  ·subst e;rw[beq_self_eq_true];exact⟨y,rfl⟩
  ·rw[show(a == x)=false from beq_false_of_ne e]
   rcases List.mem_cons.mp h with z | z
   ·cases z;exact absurd rfl e
   ·exact lP z
theorem yy:∀{l:List (Nat×Str×Addr×V)},(l.map (·.2.1)).Nodup→∀q∈l,∀p∈l,q.2.1=p.2.1→q=p
 | [],_=>fun _ h=>by cases h
 | x::l,nd=>fun q hq p hp e=>by
  rw[List.map_cons,List.nodup_cons] at nd
  rcases List.mem_cons.mp hq with z | z
  ·rcases List.mem_cons.mp hp with y | y
   ·rw[z,y]
   ·exact absurd (List.mem_map.mpr ⟨p,y,by rw[←e,z]⟩) nd.1
  ·rcases List.mem_cons.mp hp with y | y
   ·exact absurd (List.mem_map.mpr ⟨q,z,by rw[e,y]⟩) nd.1
   ·exact yy nd.2 q z p y e
theorem vW.look {X:Cx} {σ:St} {l:List (Nat×Str×Addr×V)} (C:vW X σ l) (inj:∀x y c,X.env.cells.lookup x=some c→X.env.cells.lookup y=some c→x=y) {q:Nat×Str×Addr×V} (hq:q∈l):(om l).lookup q.2.2.1=some q.2.2.2:=by
 obtain⟨v,hv⟩:=lP (l:=om l) (List.mem_map.mpr ⟨q,hq,rfl⟩)
 obtain⟨p,hp,e⟩:=List.mem_map.mp (show(q.2.2.1,v)∈om l from vV hv)
 injection e with e1 e2
 have:=yy C.nd q hq p hp (inj _ _ _ (C.at' q hq).2.2.2 (by rw[←e1];exact(C.at' p hp).2.2.2))
 rw[hv,←e2,this]
theorem vW.got {X:Cx} {σ:St} {l:List (Nat×Str×Addr×V)} (C:vW X σ l) (inj:∀x y c,X.env.cells.lookup x=some c→X.env.cells.lookup y=some c→x=y) (H:Hp) {q:Nat×Str×Addr×V} (hq:q∈l):j1 (om l) H q.2.2.1=some (qG q.2.2.1 q.2.2.2):=yx (C.look inj hq)
theorem apart1 (p:Pos×Str):Apart [p]:=fun a ha b hb _ _=>by rw[List.mem_singleton.mp ha,List.mem_singleton.mp hb]
section
variable {X:Cx}
def MV (K:PySem.W.Frag):List V→Hp→VK→Prop:=fun xs H Q=>∃(a:Addr) (ns:List Int),xs=[.ref a]∧br K H a (ns.map V.int)∧ns≠[]∧∀m:Int,m∈ns→(∀x∈ns,m≤x)→Q (.int m) H
theorem By (K:PySem.W.Frag) (hc:X.calm=true) (hK:X.K=K:=by rfl):dh X (.builtin "min") (MV K):=by
 subst hK
 intro pins s σ H xs us Q I r h
 obtain⟨a,ns,rfl,hq,hne,q⟩:=h
 obtain⟨u,rfl,ru⟩:=vals1 r
 cases ru
 obtain⟨its,rv,p,_⟩:=I.list hq
 have hi:IntsAre its ns:=intsAre_of rv
 obtain⟨xs,e⟩:=hi.allInts.items
 have hns:ns=xs.toList.map (·.1):=by rw[←hi.numsOf,←nums_intItems,←e]
 have hsz:0<xs.size:=by
  rcases Nat.eq_zero_or_pos xs.size with z | z
  ·have:xs.toList=[]:=List.eq_nil_of_length_eq_zero (by rw[Array.length_toList];exact z)
   exact absurd (by rw[hns,this];rfl) hne
  ·exact z
 have hl:=p.isList
 rw[e] at hl
 refine min_intList (I.ok.hd hc) hl hsz fun v h' tk hv hk=>?_
 obtain⟨t,rfl⟩:=intItems_at hv
 obtain⟨h1,h2⟩:=argBest_lt (numAt xs) (xs.size-1)
 have na:∀j,j<xs.size→ns[j]? =some (numAt xs j):=fun j hj=>by
  rw[hns,List.getElem?_map,Array.getElem?_toList,numAt,Array.getElem?_eq_getElem hj]
  rfl
 refine⟨.int _,H,I.kept hk,⟨t,rfl⟩,q _ (List.mem_of_getElem? (na _ (by omega))) fun x hx=>?_⟩
 obtain⟨i,hi'⟩:=List.getElem?_of_mem hx
 have hlt:i<xs.size:=by
  have:=(List.getElem?_eq_some_iff.mp hi').1
  rw[hns,List.length_map,Array.length_toList] at this
  exact this
 rw[na i hlt] at hi'
 have e3:=Option.some.inj hi'
 rw[←e3]
 exact h2 i (by omega)
end
abbrev cQ (h:Heap) (z TI TO:Addr) (f0:Value) (fl:Bool):Prop:=h.get? z=some {cls:=.type "zip",dict:=none,data:=.fields #[f0,.bool fl,.bool false,.ref TI,.ref TO],slots:= #[]}
section
variable {prog:Program} {w:World} {A:Around} {E:Value→Shared→Prop} {s:Shared}
theorem ub {z TI TO i1 i2 l1 l2:Addr} {k:Nat} {f0:Value} {fl:Bool} {xs ys:Array Value} {x y a b:Value} {Q:Value→Shared→Prop} (D:ZipApart z TI TO i1 i2 l1 l2) (gz:cQ s.heap z TI TO f0 fl) (hfree:∀Q':Bool→Shared→Prop,Q' true s→wpAny (model prog w) A (Builtin.SmallTypes.ownedTupleIsFree (.ref z)) Q' E s) (gI:IsPair s.heap TI (.ref i1) (.ref i2)) (gO:IsPair s.heap TO a b)
  (g1:s.heap.IsTupleIter i1 l1 k) (g2:s.heap.IsTupleIter i2 l2 k) (m1:s.heap.IsTuple l1 xs) (m2:s.heap.IsTuple l2 ys) (ex:xs[k]? =some x) (ey:ys[k]? =some y)
  (q:∀h',IsZip h' z TI TO (rawInt s.heap.objs.size)→IsPair h' TO x y→h'.IsTupleIter i1 l1 (k+1)→h'.IsTupleIter i2 l2 (k+1)→IsPair h' s.heap.objs.size x y→h'.objs.size=s.heap.objs.size+1→
   (∀c o,c≠z→c≠TO→c≠i1→c≠i2→s.heap.get? c=some o→h'.get? c=some o)→Q (.ref s.heap.objs.size) {s with heap:=h'}):
  wpAny (model prog w) A (Builtin.«zip.__next__» ⟨[.ref z],[]⟩) (fun fin s'=>∃v,fin=.done (.ret v)∧Q v s') E s:=by
 show wpAny _ _ (field (.ref z) 2 >>= _) _ _ _;refine wpAny_bind (wpAny_field gz rfl (x:=.bool false) rfl ?_)
 show wpAny _ _ (field (.ref z) 3 >>= _) _ _ _;refine wpAny_bind (wpAny_field gz rfl (x:=.ref TI) rfl ?_);refine wpAny_bind (wpAny_seqItems gI rfl ?_)
 show wpAny _ _ (Builtin.SmallTypes.ownedTupleIsFree (.ref z) >>= _) _ _ _;refine wpAny_bind (hfree _ ?_);simp only[if_true];refine wpAny_bind (wpAny_rule ?_)
 refine wpAny_bind (wpAny_field gz rfl (x:=.ref TO) rfl ?_);refine wpAny_bind (wpAny_setField_rec gz (by simp) fun h1 z1 s1=>?_)
 replace z1:cQ h1 z TI TO .ellipsis fl:=z1
 refine wpAny_bind ?_;simp only[List.zipIdx_cons,List.zipIdx_nil,List.forIn_cons,List.forIn_nil];refine wpAny_bind (wpAny_bind (wpAny_onRaise ?_))
 show wpAny _ _ (Builtin.SmallTypes.nextOf (.ref i1) >>= _) _ _ _;refine wpAny_bind (gk (bK g1 s1.extBut D.i1z) (dI m1 s1.extBut D.l1z) ex fun h2 Jn s2=>wpAny_pure ?_)
 have O2:IsPair h2 TO a b:=s2.extBut _ _ D.TOi1 (s1.extBut _ _ D.TOz gO)
 refine wpAny_bind (wpAny_seqItems O2 rfl ?_);refine wpAny_bind (wpAny_updateSeq_pair O2 fun h3 O3 s3=>?_)
 replace O3:IsPair h3 TO x b:=O3
 refine wpAny_bind (wpAny_letGo (wpAny_pure ?_));refine wpAny_bind (wpAny_bind (wpAny_onRaise ?_))
 show wpAny _ _ (Builtin.SmallTypes.nextOf (.ref i2) >>= _) _ _ _;refine wpAny_bind (gk (bK (bK (bK g2 s1.extBut D.i2z) s2.extBut D.i12.symm) s3.extBut D.TOi2.symm) (dI (dI (dI m2 s1.extBut D.l2z) s2.extBut D.l2i1) s3.extBut D.l2TO) ey fun h4 SX s4=>wpAny_pure ?_)
 have O4:IsPair h4 TO x b:=s4.extBut _ _ D.TOi2 O3
 refine wpAny_bind (wpAny_seqItems O4 rfl ?_);refine wpAny_bind (wpAny_updateSeq_pair O4 fun h5 O5 s5=>?_)
 replace O5:IsPair h5 TO x y:=O5
 refine wpAny_bind (wpAny_letGo (wpAny_pure (wpAny_pure ?_)));refine wpAny_bind (wpAny_seqItems O5 rfl ?_);refine wpAny_bind (wpAny_newTuple ?_)
 have sz:h5.objs.size=s.heap.objs.size:=by rw[s5.1,s4.1,s3.1,s2.1,s1.1]
 have z5:cQ h5 z TI TO .ellipsis fl:=s5.extBut _ _ D.TOz.symm (s4.extBut _ _ D.i2z.symm (s3.extBut _ _ D.TOz.symm (s2.extBut _ _ D.i1z.symm z1)))
 have k5:∀c o,c≠z→c≠TO→c≠i1→c≠i2→s.heap.get? c=some o→h5.get? c=some o:=fun c o c1 c2 c3 c4 e=>s5.extBut _ _ c2 (s4.extBut _ _ c4 (s3.extBut _ _ c2 (s2.extBut _ _ c3 (s1.extBut _ _ c1 e))))
 have a5:h5.IsTupleIter i1 l1 (k+1):=bK (bK (bK Jn s3.extBut D.TOi1.symm) s4.extBut D.i12) s5.extBut D.TOi1.symm
 have b5:h5.IsTupleIter i2 l2 (k+1):=bK SX s5.extBut D.TOi2.symm
 have NA:z<h5.objs.size:=Heap.lt_size z5
 show wpAny _ _ (Builtin.SmallTypes.ownedTupleHandOut (.ref z) (.ref h5.objs.size) >>= _) _ _ _
 refine wpAny_bind ?_;unfold Builtin.SmallTypes.ownedTupleHandOut
 have z6:cQ (h5.push {cls:=.type "tuple",data:=.seq #[x,y]}) z TI TO .ellipsis fl:=Heap.get?_push_of_some _ z5
 refine wpAny_bind (wpAny_setField_rec z6 (by simp) fun h7 z7 s7=>?_)
 replace z7:cQ h7 z TI TO (rawInt h5.objs.size) fl:=z7
 refine wpAny_setField_rec z7 (by simp) fun h8 z8 s8=>?_
 replace z8:IsZip h8 z TI TO (rawInt h5.objs.size):=z8
 have up:∀c o,c≠z→h5.get? c=some o→h8.get? c=some o:=fun c o c1 e=>s8.extBut _ _ c1 (s7.extBut _ _ c1 (Heap.get?_push_of_some _ e))
 have T8:IsPair h8 h5.objs.size x y:=s8.extBut _ _ (Nat.ne_of_gt NA) (s7.extBut _ _ (Nat.ne_of_gt NA) (Heap.get?_push_size _ rfl))
 have e8:h8.objs.size=h5.objs.size+1:=by rw[s8.1,s7.1,Heap.size_push]
 rw[sz] at z8 T8 e8
 refine wpAny_pure ⟨_,rfl,?_⟩;show Q (.ref h5.objs.size) _;rw[sz]
 exact q h8 z8 (up _ _ D.TOz O5) (let ⟨o,ho,r⟩:=a5;⟨o,up _ _ D.i1z ho,r⟩) (let ⟨o,ho,r⟩:=b5;⟨o,up _ _ D.i2z ho,r⟩) T8 e8 fun c o c1 c2 c3 c4 e=>up c o c1 (k5 c o c1 c2 c3 c4 e)
theorem qH {z TI TO i1 i2 l1 l2:Addr} {k:Nat} {f0:Value} {fl:Bool} {xs ys:Array Value} {a b:Value} {Q:Fin→Shared→Prop} (hh:A.handled=none) (D:ZipApart z TI TO i1 i2 l1 l2) (gz:cQ s.heap z TI TO f0 fl) (hfree:∀Q':Bool→Shared→Prop,Q' true s→wpAny (model prog w) A (Builtin.SmallTypes.ownedTupleIsFree (.ref z)) Q' E s) (gI:IsPair s.heap TI (.ref i1) (.ref i2)) (gO:IsPair s.heap TO a b)
  (g1:s.heap.IsTupleIter i1 l1 k) (g2:s.heap.IsTupleIter i2 l2 k) (m1:s.heap.IsTuple l1 xs) (m2:s.heap.IsTuple l2 ys) (ex:xs[k]? =none)
  (q:∀h' e,(∀c o,c≠z→c≠TO→c≠i1→c≠i2→s.heap.get? c=some o→h'.get? c=some o)→(∃o,h'.get? e=some o∧o.cls=.type "StopIteration")→E (.ref e) {s with heap:=h'}):
  wpAny (model prog w) A (Builtin.«zip.__next__» ⟨[.ref z],[]⟩) Q E s:=by
 show wpAny _ _ (field (.ref z) 2 >>= _) _ _ _;refine wpAny_bind (wpAny_field gz rfl (x:=.bool false) rfl ?_)
 show wpAny _ _ (field (.ref z) 3 >>= _) _ _ _;refine wpAny_bind (wpAny_field gz rfl (x:=.ref TI) rfl ?_);refine wpAny_bind (wpAny_seqItems gI rfl ?_)
 show wpAny _ _ (Builtin.SmallTypes.ownedTupleIsFree (.ref z) >>= _) _ _ _;refine wpAny_bind (hfree _ ?_);simp only[if_true];refine wpAny_bind (wpAny_rule ?_)
 refine wpAny_bind (wpAny_field gz rfl (x:=.ref TO) rfl ?_);refine wpAny_bind (wpAny_setField_rec gz (by simp) fun h1 z1 s1=>?_)
 replace z1:cQ h1 z TI TO .ellipsis fl:=z1
 refine wpAny_bind ?_;simp only[List.zipIdx_cons,List.zipIdx_nil,List.forIn_cons,List.forIn_nil];refine wpAny_bind (wpAny_bind (wpAny_onRaise ?_))
 show wpAny _ _ (Builtin.SmallTypes.nextOf (.ref i1) >>= _) _ _ _;refine wpAny_bind (iP hh (bK g1 s1.extBut D.i1z) (dI m1 s1.extBut D.l1z) ex fun h2 e s2 he=>?_)
 obtain⟨oe,hoe,hce⟩:=he
 have z2:cQ h2 z TI TO .ellipsis fl:=s2 _ _ D.i1z.symm z1
 have SY:e≠z:=fun x=>by subst x;rw[z2] at hoe;cases hoe;simp at hce
 refine wpAny_setField_rec z2 (by simp) fun h3 _ s3=>q h3 e (fun c o c1 _ c3 _ x=>s3.extBut _ _ c1 (s2 _ _ c3 (s1.extBut _ _ c1 x))) ⟨oe,s3.extBut _ _ SY hoe,hce⟩
theorem vX {z TI TO p:Addr} {fl:Bool} {op:Obj} (gz:cQ s.heap z TI TO (rawInt p) fl) (gp:s.heap.get? p=some op):
  wpAny (model prog w) A (Builtin.SmallTypes.ownedTupleIsFree (.ref z)) (fun r s'=>r=false∧∃h0,s'={s with heap:=h0}∧cQ h0 z TI TO (rawInt p) true∧Heap.SameBut z s.heap h0) E s:=by
 unfold Builtin.SmallTypes.ownedTupleIsFree
 refine wpAny_bind (wpAny_field gz rfl (x:=rawInt p) rfl ?_)
 show wpAny _ _ (loadIfAlive ((p:Int).toNat) >>= _) _ _ _
 rw[Int.toNat_natCast]
 refine wpAny_bind (PySem.W.kdx_alive gp ?_)
 simp only[Option.isNone_some,Bool.false_eq_true,if_false]
 refine wpAny_bind (wpAny_field gz rfl (x:=.bool fl) rfl ?_)
 cases fl with
 | true=>
  rw[if_neg (show ¬((Value.bool true != Value.bool true)=true) from Bool.false_ne_true)]
  exact wpAny_pure ⟨rfl,s.heap,rfl,gz,Heap.SameBut.refl _ _⟩
 | false=>
  rw[if_pos (show(Value.bool false != Value.bool true)=true from rfl)]
  refine wpAny_bind (wpAny_setField_rec gz (by simp) fun h₃ he₃ hs₃=>?_)
  exact wpAny_pure ⟨rfl,h₃,rfl,he₃,hs₃⟩
theorem vY {z TI TO p:Addr} {fl:Bool} (gz:cQ s.heap z TI TO (rawInt p) fl) (gp:s.heap.get? p=none) (Q':Bool→Shared→Prop) (h:Q' true s):wpAny (model prog w) A (Builtin.SmallTypes.ownedTupleIsFree (.ref z)) Q' E s:=by
 unfold Builtin.SmallTypes.ownedTupleIsFree
 refine wpAny_bind (wpAny_field gz rfl (x:=rawInt p) rfl ?_)
 show wpAny _ _ (loadIfAlive ((p:Int).toNat) >>= _) _ _ _
 rw[Int.toNat_natCast]
 refine wpAny_bind ?_
 have al:∀Q:Option Obj→Shared→Prop,Q none s→wpAny (model prog w) A (loadIfAlive p) Q E s:=fun Q h=>by
  have h':Q (s.heap.get? p) s:=by rw[gp];exact h
  exact fun _ _ _=>h'
 refine al _ ?_
 exact wpAny_pure h
theorem vZ {z TI TO:Addr} {fl:Bool} (gz:cQ s.heap z TI TO .none fl) (Q':Bool→Shared→Prop) (h:Q' true s):wpAny (model prog w) A (Builtin.SmallTypes.ownedTupleIsFree (.ref z)) Q' E s:=by
 unfold Builtin.SmallTypes.ownedTupleIsFree
 refine wpAny_bind (wpAny_field gz rfl (x:=.none) rfl (wpAny_pure h))
theorem Bz {z TI TO i1 i2 l1 l2 p:Addr} {k:Nat} {fl:Bool} {op:Obj} {xs ys:Array Value} {x y a b:Value} {Q:Value→Shared→Prop} (D:ZipApart z TI TO i1 i2 l1 l2) (gz:cQ s.heap z TI TO (rawInt p) fl) (gp:s.heap.get? p=some op) (gI:IsPair s.heap TI (.ref i1) (.ref i2)) (gO:IsPair s.heap TO a b)
  (g1:s.heap.IsTupleIter i1 l1 k) (g2:s.heap.IsTupleIter i2 l2 k) (m1:s.heap.IsTuple l1 xs) (m2:s.heap.IsTuple l2 ys) (ex:xs[k]? =some x) (ey:ys[k]? =some y)
  (q:∀h',cQ h' z TI TO (rawInt p) true→IsPair h' TO a b→h'.IsTupleIter i1 l1 (k+1)→h'.IsTupleIter i2 l2 (k+1)→IsPair h' s.heap.objs.size x y→h'.objs.size=s.heap.objs.size+1→
   (∀c o,c≠z→c≠TO→c≠i1→c≠i2→s.heap.get? c=some o→h'.get? c=some o)→Q (.ref s.heap.objs.size) {s with heap:=h'}):
  wpAny (model prog w) A (Builtin.«zip.__next__» ⟨[.ref z],[]⟩) (fun fin s'=>∃v,fin=.done (.ret v)∧Q v s') E s:=by
 show wpAny _ _ (field (.ref z) 2 >>= _) _ _ _;refine wpAny_bind (wpAny_field gz rfl (x:=.bool false) rfl ?_)
 show wpAny _ _ (field (.ref z) 3 >>= _) _ _ _;refine wpAny_bind (wpAny_field gz rfl (x:=.ref TI) rfl ?_);refine wpAny_bind (wpAny_seqItems gI rfl ?_)
 show wpAny _ _ (Builtin.SmallTypes.ownedTupleIsFree (.ref z) >>= _) _ _ _
 refine wpAny_bind (wpAny_mono (vX gz gp) (fun r s' h=>?_) fun _ _ h=>h)
 obtain⟨rfl,h0,rfl,z0,sb⟩:=h
 simp only[Bool.false_eq_true,if_false,List.forIn_toArray,List.forIn_cons,List.forIn_nil]
 refine wpAny_bind (wpAny_bind (wpAny_bind (wpAny_holding ?_)))
 show wpAny _ _ (Builtin.SmallTypes.nextOf (.ref i1) >>= _) _ _ _
 refine wpAny_bind (gk (bK g1 sb.extBut D.i1z) (dI m1 sb.extBut D.l1z) ex fun h2 Jn s2=>wpAny_pure (wpAny_pure ?_))
 refine wpAny_bind (wpAny_bind (wpAny_holding ?_))
 show wpAny _ _ (Builtin.SmallTypes.nextOf (.ref i2) >>= _) _ _ _
 refine wpAny_bind (gk (bK (bK g2 sb.extBut D.i2z) s2.extBut D.i12.symm) (dI (dI m2 sb.extBut D.l2z) s2.extBut D.l2i1) ey fun h3 S_ s3=>wpAny_pure (wpAny_pure (wpAny_pure ?_)))
 show wpAny _ _ (newTuple [x,y] >>= _) _ _ _
 refine wpAny_bind (wpAny_newTuple ?_)
 have sz:h3.objs.size=s.heap.objs.size:=by rw[s3.1,s2.1,sb.1]
 refine wpAny_pure ⟨_,rfl,?_⟩
 have up:∀c o,h3.get? c=some o→(h3.push {cls:=.type "tuple",data:=.seq #[x,y]}).get? c=some o:=fun c o e=>Heap.get?_push_of_some _ e
 show Q (.ref h3.objs.size) _
 have T8:IsPair (h3.push {cls:=.type "tuple",data:=.seq #[x,y]}) h3.objs.size x y:=Heap.get?_push_size _ rfl
 have a3:h3.IsTupleIter i1 l1 (k+1):=bK Jn s3.extBut D.i12
 rw[sz] at T8 ⊢
 exact q _ (up _ _ (s3.extBut _ _ D.i2z.symm (s2.extBut _ _ D.i1z.symm z0))) (up _ _ (s3.extBut _ _ D.TOi2 (s2.extBut _ _ D.TOi1 (sb.extBut _ _ D.TOz gO)))) (let ⟨o,ho,r⟩:=a3;⟨o,up _ _ ho,r⟩) (let ⟨o,ho,r⟩:=S_;⟨o,up _ _ ho,r⟩) T8 (by rw[Heap.size_push,sz]) fun c o c1 c2 c3 c4 e=>up _ _ (s3.extBut _ _ c4 (s2.extBut _ _ c3 (sb.extBut _ _ c1 e)))
theorem zF {z TI TO i1 i2 l1 l2 p:Addr} {k:Nat} {fl:Bool} {op:Obj} {xs ys:Array Value} {a b:Value} {Q:Fin→Shared→Prop} (hh:A.handled=none) (D:ZipApart z TI TO i1 i2 l1 l2) (gz:cQ s.heap z TI TO (rawInt p) fl) (gp:s.heap.get? p=some op) (gI:IsPair s.heap TI (.ref i1) (.ref i2))
  (g1:s.heap.IsTupleIter i1 l1 k) (m1:s.heap.IsTuple l1 xs) (ex:xs[k]? =none)
  (q:∀h' e,(∀c o,c≠z→c≠TO→c≠i1→c≠i2→s.heap.get? c=some o→h'.get? c=some o)→(∃o,h'.get? e=some o∧o.cls=.type "StopIteration")→E (.ref e) {s with heap:=h'}):
  wpAny (model prog w) A (Builtin.«zip.__next__» ⟨[.ref z],[]⟩) Q E s:=by
 show wpAny _ _ (field (.ref z) 2 >>= _) _ _ _;refine wpAny_bind (wpAny_field gz rfl (x:=.bool false) rfl ?_)
 show wpAny _ _ (field (.ref z) 3 >>= _) _ _ _;refine wpAny_bind (wpAny_field gz rfl (x:=.ref TI) rfl ?_);refine wpAny_bind (wpAny_seqItems gI rfl ?_)
 show wpAny _ _ (Builtin.SmallTypes.ownedTupleIsFree (.ref z) >>= _) _ _ _
 refine wpAny_bind (wpAny_mono (vX gz gp) (fun r s' h=>?_) fun _ _ h=>h)
 obtain⟨rfl,h0,rfl,z0,sb⟩:=h
 simp only[Bool.false_eq_true,if_false,List.forIn_toArray,List.forIn_cons,List.forIn_nil]
 refine wpAny_bind (wpAny_bind (wpAny_bind (wpAny_holding ?_)))
 show wpAny _ _ (Builtin.SmallTypes.nextOf (.ref i1) >>= _) _ _ _
 exact wpAny_bind (iP hh (bK g1 sb.extBut D.i1z) (dI m1 sb.extBut D.l1z) ex fun h2 e s2 he=>q h2 e (fun c o c1 _ c3 _ x=>s2 _ _ c3 (sb.extBut _ _ c1 x)) he)
theorem BA {z TI TO i1 i2 l1 l2:Addr} {k:Nat} {f0:Value} {fl:Bool} {xs ys:Array Value} {x y a b:Value} {Q:Option Value→Shared→Prop} (D:ZipApart z TI TO i1 i2 l1 l2) (gz:cQ s.heap z TI TO f0 fl) (hf:f0=.none∨∃p:Nat,f0=rawInt p) (gI:IsPair s.heap TI (.ref i1) (.ref i2)) (gO:IsPair s.heap TO a b)
  (g1:s.heap.IsTupleIter i1 l1 k) (g2:s.heap.IsTupleIter i2 l2 k) (m1:s.heap.IsTuple l1 xs) (m2:s.heap.IsTuple l2 ys) (ex:xs[k]? =some x) (ey:ys[k]? =some y)
  (q:∀h' f0' Jo a' b',cQ h' z TI TO f0' Jo→(∃p:Nat,f0'=rawInt p)→(f0=.none→f0'=rawInt s.heap.objs.size∧Jo=false)→IsPair h' TO a' b'→h'.IsTupleIter i1 l1 (k+1)→h'.IsTupleIter i2 l2 (k+1)→IsPair h' s.heap.objs.size x y→h'.objs.size=s.heap.objs.size+1→
   (∀c o,c≠z→c≠TO→c≠i1→c≠i2→s.heap.get? c=some o→h'.get? c=some o)→Q (some (.ref s.heap.objs.size)) {s with heap:=h'}):wpAny (model prog w) A (pyNext (.ref z)) Q E s:=by
 have ty:s.TypeIs (.ref z) "zip":=⟨_,gz,rfl⟩
 unfold pyNext
 refine wpAny_bind (wpAny_attempt (wpAny_callSpecial?_slot (name:=Str.ofString "__next__") ty PySem.F.slot_zip_next (wpAny_call_entry PySem.F.slot_zip_next ty PySem.F.entry_zip_next ?_ (PySem.F.args_zip_next_1 _))))
 rcases hf with rfl | ⟨p,rfl⟩
 ·exact ub D gz (vZ gz) gI gO g1 g2 m1 m2 ex ey fun h' a1 a2 a3 a4 a5 a6 a7=>wpAny_pure (q h' _ _ _ _ a1 ⟨_,rfl⟩ (fun _=>⟨rfl,rfl⟩) a2 a3 a4 a5 a6 a7)
 ·cases gp:s.heap.get? p with
  | none=>exact ub D gz (vY gz gp) gI gO g1 g2 m1 m2 ex ey fun h' a1 a2 a3 a4 a5 a6 a7=>wpAny_pure (q h' _ _ _ _ a1 ⟨_,rfl⟩ (fun z=>nomatch z) a2 a3 a4 a5 a6 a7)
  | some op=>exact Bz D gz gp gI gO g1 g2 m1 m2 ex ey fun h' a1 a2 a3 a4 a5 a6 a7=>wpAny_pure (q h' _ _ _ _ a1 ⟨_,rfl⟩ (fun z=>nomatch z) a2 a3 a4 a5 a6 a7)
theorem zG {z TI TO i1 i2 l1 l2:Addr} {k:Nat} {f0:Value} {fl:Bool} {xs ys:Array Value} {a b:Value} {Q:Option Value→Shared→Prop} (hh:A.handled=none) (D:ZipApart z TI TO i1 i2 l1 l2) (gz:cQ s.heap z TI TO f0 fl) (hf:f0=.none∨∃p:Nat,f0=rawInt p) (gI:IsPair s.heap TI (.ref i1) (.ref i2)) (gO:IsPair s.heap TO a b)
  (g1:s.heap.IsTupleIter i1 l1 k) (g2:s.heap.IsTupleIter i2 l2 k) (m1:s.heap.IsTuple l1 xs) (m2:s.heap.IsTuple l2 ys) (ex:xs[k]? =none)
  (q:∀h',(∀c o,c≠z→c≠TO→c≠i1→c≠i2→s.heap.get? c=some o→h'.get? c=some o)→Q none {s with heap:=h'}):wpAny (model prog w) A (pyNext (.ref z)) Q E s:=by
 have ty:s.TypeIs (.ref z) "zip":=⟨_,gz,rfl⟩
 unfold pyNext
 refine wpAny_bind (wpAny_attempt (wpAny_callSpecial?_slot (name:=Str.ofString "__next__") ty PySem.F.slot_zip_next (wpAny_call_entry PySem.F.slot_zip_next ty PySem.F.entry_zip_next ?_ (PySem.F.args_zip_next_1 _))))
 rcases hf with rfl | ⟨p,rfl⟩
 ·exact qH hh D gz (vZ gz) gI gO g1 g2 m1 m2 ex fun h' e hk he=>(by
   obtain⟨o,ho,hc⟩:=he
   exact wpAny_bind (wpAny_isInstance (T:="StopIteration") (b:=true) ⟨o,ho,hc⟩ isSubtype_stop (wpAny_pure (q _ hk))))
 ·cases gp:s.heap.get? p with
  | none=>exact qH hh D gz (vY gz gp) gI gO g1 g2 m1 m2 ex fun h' e hk he=>(by
    obtain⟨o,ho,hc⟩:=he
    exact wpAny_bind (wpAny_isInstance (T:="StopIteration") (b:=true) ⟨o,ho,hc⟩ isSubtype_stop (wpAny_pure (q _ hk))))
  | some op=>exact zF (ys:=ys) (a:=a) (b:=b) hh D gz gp gI g1 m1 ex fun h' e hk he=>(by
    obtain⟨o,ho,hc⟩:=he
    exact wpAny_bind (wpAny_isInstance (T:="StopIteration") (b:=true) ⟨o,ho,hc⟩ isSubtype_stop (wpAny_pure (q _ hk))))
abbrev BB (h:Heap) (l1 l2:Addr):Heap:=(h.push (yr l1)).push (yr l2)
abbrev Fw (h:Heap) (l1 l2:Addr):Heap:=(BB h l1 l2).push {cls:=.type "tuple",data:=.seq #[.ref h.objs.size,.ref (h.push (yr l1)).objs.size]}
abbrev BD (h:Heap) (l1 l2:Addr):Heap:=(Fw h l1 l2).push {cls:=.type "tuple",data:=.seq #[.none,.none]}
abbrev uc (h:Heap) (l1 l2:Addr):Heap:=(BD h l1 l2).push {cls:=.type "zip",data:=.fields #[.none,.bool false,.bool false,.ref (BB h l1 l2).objs.size,.ref (Fw h l1 l2).objs.size]}
theorem zH (l1 l2:Addr) (xs ys:Array Value):Meets (Builtin.«zip.__new__» ⟨[.type "zip",.ref l1,.ref l2],[]⟩) (fun _ R s=>s.heap.IsTuple l1 xs∧s.heap.IsTuple l2 ys∧R (.ok (.ret (.ref (BD s.heap l1 l2).objs.size))) {s with heap:=uc s.heap l1 l2}):=
 .of_wp fun prog w A R s h=>by
  obtain⟨hp,g,d,tk,os⟩:=s;obtain⟨m1,m2,h⟩:=h
  have hsub:=PySem.sub_zip
  have L1:Heap.IsTuple (Shared.heap ⟨hp,g,d,tk,os⟩) l1 xs:=m1
  have L2:Heap.IsTuple (Shared.heap ⟨hp.push (yr l1),g,d,tk,os⟩) l2 ys:=let ⟨o,ho,r⟩:=m2;⟨o,Heap.get?_push_of_some _ ho,r⟩
  wp_walk using wpAny_pyIter_tuple L1,wpAny_pyIter_tuple L2
  exact⟨_,rfl,h⟩
theorem BE {l1 l2:Addr} {xs ys:Array Value} {Q:Value→Shared→Prop} (m1:s.heap.IsTuple l1 xs) (m2:s.heap.IsTuple l2 ys)
  (q:∀h',IsZip h' (s.heap.objs.size+4) (s.heap.objs.size+2) (s.heap.objs.size+3) .none→IsPair h' (s.heap.objs.size+2) (.ref s.heap.objs.size) (.ref (s.heap.objs.size+1))→
   IsPair h' (s.heap.objs.size+3) .none .none→h'.IsTupleIter s.heap.objs.size l1 0→h'.IsTupleIter (s.heap.objs.size+1) l2 0→
   (∀c o,s.heap.get? c=some o→h'.get? c=some o)→Q (.ref (s.heap.objs.size+4)) {s with heap:=h'}):wpAny (model prog w) A (call (.type "zip") [.ref l1,.ref l2]) Q E s:=by
 refine callType_new PySem.F.called_zip (by decide) (PySem.F.typeCall_zip_2 _ _) (PySem.F.newCall_zip_2 _ _) (fun obj=>PySem.F.args_object_init_3 obj _ _) PySem.F.entry_zip_new (zH l1 l2 xs ys) ⟨m1,m2,?_⟩
 have e1:(s.heap.push (yr l1)).objs.size=s.heap.objs.size+1:=Heap.size_push ..
 have e2:(BB s.heap l1 l2).objs.size=s.heap.objs.size+2:=by rw[Heap.size_push,e1]
 have e3:(Fw s.heap l1 l2).objs.size=s.heap.objs.size+3:=by rw[Heap.size_push,e2]
 have e4:(BD s.heap l1 l2).objs.size=s.heap.objs.size+4:=by rw[Heap.size_push,e3]
 have p5:(uc s.heap l1 l2).get? (BD s.heap l1 l2).objs.size=some _:=Heap.get?_push_size _ rfl
 have up:∀{c:Addr} {o:Obj},(BD s.heap l1 l2).get? c=some o→(uc s.heap l1 l2).get? c=some o:=fun x=>Heap.get?_push_of_some _ x
 have p4:(uc s.heap l1 l2).get? (Fw s.heap l1 l2).objs.size=some _:=up (Heap.get?_push_size _ rfl)
 have p3:(uc s.heap l1 l2).get? (BB s.heap l1 l2).objs.size=some _:=up (Heap.get?_push_of_some _ (Heap.get?_push_size _ rfl))
 have Jp:∀{c:Addr} {o:Obj},(BB s.heap l1 l2).get? c=some o→(uc s.heap l1 l2).get? c=some o:=fun x=>up (Heap.get?_push_of_some _ (Heap.get?_push_of_some _ x))
 have p2:(uc s.heap l1 l2).get? (s.heap.push (yr l1)).objs.size=some _:=Jp (Heap.get?_push_size _ rfl)
 have p1:(uc s.heap l1 l2).get? s.heap.objs.size=some _:=Jp (Heap.get?_push_of_some _ (Heap.get?_push_size _ rfl))
 show _∧_
 rw[e2,e3,e4] at p5
 rw[e1,e2] at p3
 rw[e3] at p4
 rw[e1] at p2
 rw[e4]
 exact⟨⟨_,p5,rfl⟩,q _ p5 p3 p4 ⟨_,p1,rfl,rfl⟩ ⟨_,p2,rfl,rfl⟩ fun c o x=>Jp (Heap.get?_push_of_some _ (Heap.get?_push_of_some _ x))⟩
end
def DX (K:PySem.W.Frag) (a b:Addr):It:=
 ⟨fun i H=>∃xs ys x y,bH K H a xs∧bH K H b ys∧xs[i]? =some x∧ys[i]? =some y,
  fun i H v H'=>∃x y p,(∀xs,bH K H a xs→xs[i]? =some x)∧(∀ys,bH K H b ys→ys[i]? =some y)∧H p=none∧v=.ref p∧H'=upd H p (.tup [x,y]),
  fun i H=>∃xs ys,bH K H a xs∧bH K H b ys∧xs.length≤i⟩
theorem BF {P:Program} {w:World} {K:PySem.W.Frag} {elts:List Expr} {x1} {tpos:Pos} (a b z TI TO i1 i2:Addr) (D:ZipApart z TI TO i1 i2 a b):
  Turn P w K (.Tuple elts x1 tpos) (DX K a b) [z,TO,i1,i2,TI] z (fun i h=>IsZip h z TI TO .none∧IsPair h TI (.ref i1) (.ref i2)∧(∃x y,IsPair h TO x y)∧h.IsTupleIter i1 a i∧h.IsTupleIter i2 b i) where
 mem:=by simp
 obj:=fun i h st c hc=>by
  obtain⟨hz,hTI,⟨x,y,hTO⟩,h1,h2⟩:=st
  have hc':c=z∨c=TO∨c=i1∨c=i2∨c=TI:=by simpa using hc
  rcases hc' with q | q | q | q | q
  ·subst q;exact⟨_,hz,fun v e=>nomatch e⟩
  ·subst q;exact⟨_,hTO,fun v e=>nomatch e⟩
  ·subst q
   obtain⟨o,e,_,d⟩:=h1
   exact⟨o,e,fun v q=>by rw[d] at q;cases q⟩
  ·subst q
   obtain⟨o,e,_,d⟩:=h2
   exact⟨o,e,fun v q=>by rw[d] at q;cases q⟩
  ·subst q;exact⟨_,hTI,fun v e=>nomatch e⟩
 keep:=fun i h h' st k=>by
  obtain⟨hz,hTI,⟨x,y,hTO⟩,h1,h2⟩:=st
  exact⟨k z (by simp) _ hz,k TI (by simp) _ hTI,⟨x,y,k TO (by simp) _ hTO⟩,let ⟨o,ho,r⟩:=h1;⟨o,k i1 (by simp) o ho,r⟩,let ⟨o,ho,r⟩:=h2;⟨o,k i2 (by simp) o ho,r⟩⟩
 item:=by
  intro X hP hw hK hc i pins s σ H E I hf st hg
  subst hP hw hK
  obtain⟨hz,hTI,⟨u1,u2,hTO⟩,h1,h2⟩:=st
  obtain⟨xs,ys,x,y,hq,hq2,hx,hy⟩:=hg
  obtain⟨its,rv,p,_⟩:=I.tuple hq
  obtain⟨its2,tW,p2,_⟩:=I.tuple hq2
  obtain⟨u,hu,ru⟩:=rv.get hx
  obtain⟨v,hv,rv'⟩:=tW.get hy
  refine BA D hz (.inl rfl) hTI hTO h1 h2 (show s.heap.IsTuple a its.toArray from p) (show s.heap.IsTuple b its2.toArray from p2) (x:=u) (y:=v) (by simpa using hu) (by simpa using hv) fun h1' f0' Jo a' b' a1 _ aw a2 a3 a4 a5 a6 kk=>?_
  obtain⟨rfl,rfl⟩:=aw rfl
  have nn:H s.heap.objs.size=none:=I.hok.fresh (Nat.le_refl _)
  have vQ:∀c∈[z,TO,i1,i2],gf X pins H c:=fun c hc=>hf c (by
   have hc':c=z∨c=TO∨c=i1∨c=i2:=by simpa using hc
   rcases hc' with q | q | q | q<;>simp[q])
  have I1:Inv X pins σ (upd H s.heap.objs.size (.tup [x,y])) {s with heap:=h1',toks:=s.toks}:=
   I.mD (ch:=[z,TO,i1,i2]) vQ (fun c o hc q=>kk c o (fun e=>hc (by simp[e])) (fun e=>hc (by simp[e])) (fun e=>hc (by simp[e])) (fun e=>hc (by simp[e])) q) (Nat.le_refl _)
    ⟨⟨by show 2≤sizeLine;decide,_,a5,rfl⟩,[u,v],.cons ru (.cons rv' .nil),⟨_,a5,rfl,_,rfl⟩⟩
  have lz:z<s.heap.objs.size:=Heap.lt_size hz
  have IW:TI<s.heap.objs.size:=Heap.lt_size hTI
  have IX:TO<s.heap.objs.size:=Heap.lt_size hTO
  have l1:i1<s.heap.objs.size:=by obtain⟨o,q,_⟩:=id h1;exact Heap.lt_size q
  have l2:i2<s.heap.objs.size:=by obtain⟨o,q,_⟩:=id h2;exact Heap.lt_size q
  refine⟨_,rfl,wpAny_letOwnedTupleGo_zip a1 fun h2' e2 sb=>?_⟩
  obtain⟨f0,f1,f2,f3,f4,f5⟩:=hf z (by simp)
  have I2:=I1.turned (h':=h2') (t':=s.toks) (it:=z) (fun c o hc q=>(sb.2 c hc).trans q) (by rw[ak (Nat.ne_of_lt lz)];exact f0) f1 f3 f4 f5
  refine⟨.ref s.heap.objs.size,_,I2,rfl,⟨x,y,s.heap.objs.size,fun zs hy=>by rw[I.iX hy hq];exact hx,fun zs hz'=>by rw[I.iX hz' hq2];exact hy,nn,rfl,rfl⟩,
   ⟨e2,(sb.2 TI D.TIz).trans (kk _ _ D.TIz D.TITO D.TIi1 D.TIi2 hTI),⟨_,_,(sb.2 TO D.TOz).trans a2⟩,let ⟨o,ho,r⟩:=a3;⟨o,(sb.2 i1 D.i1z).trans ho,r⟩,let ⟨o,ho,r⟩:=a4;⟨o,(sb.2 i2 D.i2z).trans ho,r⟩⟩,fun c hc=>?_⟩
  have hlt:c<s.heap.objs.size:=by
   have hc':c=z∨c=TO∨c=i1∨c=i2∨c=TI:=by simpa using hc
   rcases hc' with q | q | q | q | q
   ·rw[q];exact lz
   ·rw[q];exact IX
   ·rw[q];exact l1
   ·rw[q];exact l2
   ·rw[q];exact IW
  rw[ak (Nat.ne_of_lt hlt)]
  exact(hf c hc).1
 done:=by
  intro X hP hw hK hc i pins s σ H E I hf st hg
  subst hP hw hK
  obtain⟨hz,hTI,⟨u1,u2,hTO⟩,h1,h2⟩:=st
  obtain⟨xs,ys,hq,hq2,hx⟩:=hg
  obtain⟨its,rv,p,_⟩:=I.tuple hq
  obtain⟨its2,tW,p2,_⟩:=I.tuple hq2
  have hl:=rv.length
  have vQ:∀c∈[z,TO,i1,i2],gf X pins H c:=fun c hc=>hf c (by
   have hc':c=z∨c=TO∨c=i1∨c=i2:=by simpa using hc
   rcases hc' with q | q | q | q<;>simp[q])
  exact zG (I.ok.hd hc) D hz (.inl rfl) hTI hTO h1 h2 (show s.heap.IsTuple a its.toArray from p) (show s.heap.IsTuple b its2.toArray from p2) (by simp;omega) fun h' kk=>
   ⟨rfl,I.yp (t':=s.toks) (ch:=[z,TO,i1,i2]) vQ (fun c o hc q=>kk c o (fun e=>hc (by simp[e])) (fun e=>hc (by simp[e])) (fun e=>hc (by simp[e])) (fun e=>hc (by simp[e])) q)⟩
 self:=fun _ _ _ _ _ st h=>wpAny_pyIter_zip st.1 h
def Fx (K:PySem.W.Frag) (ta:TA):TI:=fun σ H R=>ta σ H fun vs H1=>∃a b,vs=[.ref a,.ref b]∧(∃xs,bH K H1 a xs)∧(∃ys,bH K H1 b ys)∧R (DX K a b) H1
theorem Hc {X:Cx} {elts:List Expr} {x1} {tpos:Pos} {a b:Expr} {ta:TA} {p pos:Pos} (hg:Gl X "zip") (hm:X.mg "zip"=none) (ha:PA X [a,b] ta)
  (hs:starEach [a,b] X.env=[(false,eval a X.env),(false,eval b X.env)]:=by rfl) (hs2:starEach [b] X.env=[(false,eval b X.env)]:=by rfl):
  PI X (.Tuple elts x1 tpos) (.Call (.Name "zip" p) [a,b] [] pos) (Fx X.K ta):=by
 intro pins s σ H R I h
 refine Call_ (g5 I hg hm boot_zip (PyProof.Rows.callWith_type1 (aK (ha pos pins s σ H _ I h) fun us s1 ⟨vs,H1,I1,r1,q1⟩=>?_) (by rw[hs,hs2]) (by rw[hs2];rfl)))
 obtain⟨l1,l2,e,⟨xs,hq⟩,⟨ys,hq2⟩,q⟩:=q1
 subst e
 cases r1 with
 | cons r rr=>
  cases rr with
  | cons r' rr=>
   cases rr
   cases r
   cases r'
   obtain⟨its,rv,pl,_⟩:=I1.tuple hq
   obtain⟨its2,tW,Bj,_⟩:=I1.tuple hq2
   have a1:l1<s1.heap.objs.size:=by obtain⟨_,e,_⟩:=(show s1.heap.IsTuple l1 its.toArray from pl);exact Heap.lt_size e
   have a2:l2<s1.heap.objs.size:=by obtain⟨_,e,_⟩:=(show s1.heap.IsTuple l2 its2.toArray from Bj);exact Heap.lt_size e
   refine BE (show s1.heap.IsTuple l1 its.toArray from pl) (show s1.heap.IsTuple l2 its2.toArray from Bj) fun h' hz hTI hTO hi1 hi2 kk=>?_
   have I2:Inv X pins σ H1 {s1 with heap:=h'}:=I1.kept (t':=s1.toks) kk
   refine wpAny_pyIter_zip hz ?_
   refine⟨s1.heap.objs.size+4,[s1.heap.objs.size+4,s1.heap.objs.size+3,s1.heap.objs.size,s1.heap.objs.size+1,s1.heap.objs.size+2],_,_,H1,rfl,I2,BF l1 l2 _ _ _ _ _ (zipApart_new a1 a2),⟨hz,hTI,⟨_,_,hTO⟩,hi1,hi2⟩,fun c hc=>?_,q⟩
   have hle:s1.heap.objs.size≤c:=by
    have hc':c=s1.heap.objs.size+4∨c=s1.heap.objs.size+3∨c=s1.heap.objs.size∨c=s1.heap.objs.size+1∨c=s1.heap.objs.size+2:=by simpa using hc
    rcases hc' with q | q | q | q | q<;>(rw[q];first | exact Nat.le_add_right _ _ | exact Nat.le_refl _)
   exact I1.jb hle (I1.hok.fresh hle)
theorem BG {K:PySem.W.Frag} {a b:Addr} {xs ys:List V} {g:TG} {tt:TT} {te:TE} {D:Addr} {σ:St} {H:Hp} {R:Hp→Prop} (Pv:Nat→St→Hp→Prop) (hlen:xs.length=ys.length) (h0:Pv 0 σ H) (hl:∀i σ H,i≤xs.length→Pv i σ H→bH K H a xs∧bH K H b ys)
  (hs:∀i x y p σ H,xs[i]? =some x→ys[i]? =some y→Pv i σ H→H p=none→g (.ref p) σ (upd H p (.tup [x,y])) fun σ2 H2=>tt σ2 H2 fun b H3=>if b=true then te σ2 H3 fun y H4=>∃ys,H4 D=some (.lst ys)∧ys.length<sizeLine∧Pv (i+1) σ2 (upd H4 D (.lst (ys++[y]))) else Pv (i+1) σ2 H3)
  (hd:∀σ H,Pv xs.length σ H→R H):ko (DX K a b) g tt te D σ H R:=by
 refine⟨fun i m σ H=>m=xs.length-i∧i≤xs.length∧Pv i σ H,⟨xs.length,by simp,Nat.zero_le _,h0⟩,?_⟩
 rintro i m σ H ⟨rfl,hi,p⟩
 obtain⟨q1,q2⟩:=hl i σ H hi p
 by_cases hlt:i<xs.length
 ·refine .inr ⟨⟨xs,ys,xs[i],ys[i]'(by omega),q1,q2,by simp[hlt],by simp[hlen▸hlt]⟩,Pv (i+1),fun σ' H' p'=>⟨xs.length-(i+1),by omega,rfl,hlt,p'⟩,fun v H' y=>?_⟩
  obtain⟨x,y,p',e1,e2,e3,rfl,rfl⟩:=y
  exact hs i x y p' σ H (e1 xs q1) (e2 ys q2) p e3
 ·have e:i=xs.length:=by omega
  subst e
  exact .inl ⟨⟨xs,ys,q1,q2,Nat.le_refl _⟩,hd σ H p⟩
theorem ax {t u:TS} {D:Ends} {σ:St} {H:Hp} (h:∀R:St→Hp→Prop,R=u D→t {D with nx:=R} σ H):nK t u D σ H:=h _ rfl
theorem gN {t u:TS} {D:Ends} {σ:St} {H:Hp} (Pv:St→Hp→Prop) (h1:∀σ H,Pv σ H→u D σ H) (h2:∀R:St→Hp→Prop,(∀σ H,Pv σ H→R σ H)→t {D with nx:=R} σ H):nK t u D σ H:=h2 _ h1
def zI (J:It) (g:TG) (tb:TS) (D:Ends) (σ:St) (H:Hp):Prop:=∃W:Nat→Nat→St→Hp→Prop,(∃m,W 0 m σ H)∧∀i m σ H,W i m σ H→
 (J.stop i H∧D.nx σ H)∨(J.go i H∧∃N:St→Hp→Prop,(∀σ' H',N σ' H'→∃m',m'<m∧W (i+1) m' σ' H')∧∀x H',J.pq i H x H'→g x σ H' fun σ2 H2=>tb {D with nx:=N,ct:=N,bk:=D.nx} σ2 H2)
theorem i_ {K:PySem.W.Frag} {a:Addr} {xs:List V} {g:TG} {tb:TS} {D:Ends} {σ:St} {H:Hp} (Pv:Nat→St→Hp→Prop) (h0:Pv 0 σ H) (hl:∀i σ H,i≤xs.length→Pv i σ H→br K H a xs)
  (hs:∀i x σ H (N:St→Hp→Prop),(∀σ H,Pv (i+1) σ H→N σ H)→xs[i]? =some x→Pv i σ H→g x σ H fun σ2 H2=>tb {D with nx:=N,ct:=N,bk:=D.nx} σ2 H2) (hd:∀σ H,Pv xs.length σ H→D.nx σ H):zI (vm K a) g tb D σ H:=
 iq Pv h0 hl (fun i x σ H e p=>hs i x σ H _ (fun _ _ z=>z) e p) hd
theorem mJ {K:PySem.W.Frag} {a:Addr} {xs:List V} {g:TG} {tb:TS} {D:Ends} {σ:St} {H:Hp} (Pv:Nat→St→Hp→Prop) (h0:Pv 0 σ H) (hl:∀i σ H,i≤xs.length→Pv i σ H→bH K H a xs)
  (hs:∀i x σ H (N:St→Hp→Prop),(∀σ H,Pv (i+1) σ H→N σ H)→xs[i]? =some x→Pv i σ H→g x σ H fun σ2 H2=>tb {D with nx:=N,ct:=N,bk:=D.nx} σ2 H2) (hd:∀σ H,Pv xs.length σ H→D.nx σ H):zI (vn K a) g tb D σ H:=
 x8 Pv h0 hl (fun i x σ H e p=>hs i x σ H _ (fun _ _ z=>z) e p) hd
theorem dw {lo:Int} {n:Nat} {g:TG} {tb:TS} {D:Ends} {σ:St} {H:Hp} (Pv:Nat→St→Hp→Prop) (h0:Pv 0 σ H)
  (hs:∀i σ H (N:St→Hp→Prop),(∀σ H,Pv (i+1) σ H→N σ H)→i<n→Pv i σ H→g (.int (lo+i)) σ H fun σ2 H2=>tb {D with nx:=N,ct:=N,bk:=D.nx} σ2 H2) (hd:∀σ H,Pv n σ H→D.nx σ H):zI (qf lo n) g tb D σ H:=
 kh (lo:=lo) Pv h0 (fun i σ H e p=>hs i σ H _ (fun _ _ z=>z) e p) hd
theorem oZ {c:TT} {tb:TS} {D:Ends} {σ:St} {H:Hp} (W:Nat→St→Hp→Prop) (h0:∃m,W m σ H)
  (hs:∀m σ H (N:St→Hp→Prop),(∀σ' H' m',m'<m→W m' σ' H'→N σ' H')→W m σ H→c σ H fun b H1=>if b=true then tb {D with nx:=N,ct:=N,bk:=D.nx} σ H1 else D.nx σ H1)
  (mono:∀σ H Q Q',(∀b H1,Q b H1→Q' b H1)→c σ H Q→c σ H Q'):nO c tb D σ H:=Jk W h0 (fun m σ H w=>hs m σ H _ (fun _ _ m' h w'=>⟨m',h,w'⟩) w) mono
section
variable {X:Cx} {pins:List (Addr×Obj)} {σ:St} {H:Hp} {s:Shared}
theorem DY (I:Inv X pins σ H s) {T:Addr} {ps:Array Value} {L:List (Pos×Str)} {q:Pos×Str} (hT:H T=some (.dZ ps)) (ht:TriplesOk ps.toList) (htab:∀p∈L,codeAmong p.1 ps.toList=none∨∃c,codeAmong p.1 ps.toList=some (.ref c)∧H c=some (kr c p.2)) (hL:q∈L) (ap:Apart L)
  {c':Addr} {h':Heap} {tk:Tok} (o:Obj) (ho:o.isFreed=false) (hx:Heap.ExtBut T s.heap h') (hge:s.heap.objs.size≤c') (hlt:c'<h'.objs.size) (hrec:h'.CodeRec (.ref c') q.2) (htb:h'.get? T=some (PySem.W.tabObj (ps++ #[rawInt q.1.line,rawInt q.1.col,.ref c']))):
  ∃H',Inv X pins σ H' {s with heap:=h'.push o,toks:=tk}∧H h'.objs.size=none∧H' h'.objs.size=some (kq h'.objs.size o)∧H' c'=some (kr c' q.2)∧Tab H' T L∧KB T H H':=by
 have nc:H c'=none:=I.hok.fresh hge
 have Bs:s.heap.objs.size≤h'.objs.size:=Nat.le_of_lt (Nat.lt_of_le_of_lt hge hlt)
 have nf:H h'.objs.size=none:=I.hok.fresh Bs
 have fc:h'.objs.size≠c':=Nat.ne_of_gt hlt
 have Tc:T≠c':=aq hT nc
 have Tf:T≠h'.objs.size:=aq hT nf
 have keep:∀b u,b≠T→s.heap.get? b=some u→(h'.push o).get? b=some u:=fun b u hb e=>Heap.get?_push_of_some _ (hx b u hb e)
 obtain⟨H',hH⟩:∃H':Hp,H'=upd (upd (upd H T (.dZ (ps++ #[rawInt q.1.line,rawInt q.1.col,.ref c']))) c' (kr c' q.2)) h'.objs.size (kq h'.objs.size o):=⟨_,rfl⟩
 have eT:H' T=some (.dZ (ps++ #[rawInt q.1.line,rawInt q.1.col,.ref c'])):=by rw[hH,ak Tf,ak Tc,af]
 have ec:H' c'=some (kr c' q.2):=by rw[hH,ak fc.symm,af]
 have ef:H' h'.objs.size=some (kq h'.objs.size o):=by rw[hH,af]
 have eo:∀b,b≠T→b≠c'→b≠h'.objs.size→H' b=H b:=fun b h1 h2 h3=>by rw[hH,ak h3,ak h2,ak h1]
 have kb:KB T H H':=fun b u e hb=>by rw[eo b hb (aq e nc) (aq e nf)];exact e
 have hnew:∀b u,s.heap.get? b=some u→b≠c'∧b≠h'.objs.size:=fun b u e=>⟨Nat.ne_of_lt (Nat.lt_of_lt_of_le (Heap.lt_size e) hge),Nat.ne_of_lt (Nat.lt_of_lt_of_le (Heap.lt_size e) Bs)⟩
 have DZ:=Tab.grown (H:=H) (H':=H') hL ap ht htab eT ec fun b φ e=>kb b _ e fun z=>by rw[z,hT] at e;cases e
 have hok':dc X.prog X.w H' (h'.push o):=fun b u e=>by
  by_cases b1:b=T
  ·subst b1
   rw[eT] at e;cases e
   exact Heap.get?_push_of_some _ htb
  by_cases b2:b=c'
  ·subst b2
   rw[ec] at e;cases e
   exact Bq (hrec.push _)
  by_cases b3:b=h'.objs.size
  ·subst b3
   rw[ef] at e;cases e
   exact qB (Heap.get?_push_size _ ho)
  rw[eo b b1 b2 b3] at e
  refine(I.hok b u e).stay (fun d v hd z=>keep d v ?_ z) (fun d z=>kb d _ z ?_) fun d xs z=>kb d _ z ?_
  ·rintro rfl
   rcases hd with z' | z'
   ·exact b1 z'.symm
   ·rw[hT] at z';cases z'
  ·rintro rfl;rw[hT] at z;cases z
  ·rintro rfl;rw[hT] at z;cases z
 have neT:∀b,H b=none→b≠T:=fun b n z=>by rw[z,hT] at n;cases n
 refine⟨H',I.un ⟨fun b u e n _ _=>keep b u (neT b n) e,fun b u e n _ _=>⟨u.slots,keep b u (neT b n) e⟩,fun b u e n _=>by rw[eo b (neT b n) (hnew b u e).1 (hnew b u e).2];exact n,fun b u e _=>?_,fun b xs e=>kb b _ e fun z=>?_,fun b u v e=>kb b _ e fun z=>?_,fun b qs e=>?_⟩ hok',nf,ef,ec,DZ,kb⟩
 ·by_cases hb:b=T
  ·subst hb;exact⟨_,Heap.get?_push_of_some _ htb⟩
  ·exact⟨u,keep b u hb e⟩
 ·rw[z,hT] at e;cases e
 ·rw[z,hT] at e;cases e
 ·by_cases hb:b=T
  ·subst hb
   rw[hT] at e;cases e
   exact⟨_,eT⟩
  ·exact⟨#[],by rw[kb b _ e hb];simp⟩
end
section
variable {X:Cx} {pos:Pos} {name:Str} {params:Arguments} {body:List Stmt} {scope:Scope} {c T:Addr} {clos:List (Str×Addr)} {L:List (Pos×Str)}
abbrev pU (X:Cx) (name:Str) (params:Arguments) (body:List Stmt) (scope:Scope) (clos:List (Str×Addr)) (doc:Value) (c':Addr) (ctv:Value):Obj:=PySem.W.fnMade name (qualnameIn X.env name name) params body scope clos doc ((X.mg "__name__").getD .none) c' ctv
def Jq (X:Cx) (name:Str) (params:Arguments) (body:List Stmt) (scope:Scope) (clos:List (Str×Addr)) (T:Addr) (L:List (Pos×Str)) (i:Nat):TS:=fun D σ H=>
 Tab H T L∧∀f c' ctv doc H',H f=none→H' f=some (kq f (pU X name params body scope clos doc c' ctv))→H' c'=some (kr c' (qualnameIn X.env name name))→Tab H' T L→KB T H H'→D.nx (σ.set i (some (.ref f))) H'
theorem Jr {i:Nat} (hN:X.N.Nodup) (hi:X.N[i]? =some name) (hx:Loc X.env.scope name) (hcode:X.env.code=.ref c) (C:PySem.W.CodeHd X.base c T) (hB:dY X.mg X.base) (hcl:closureFor scope X.env=pure clos) (hd0:params.defaults=[]) (hk0:params.kw_defaults=[]) (ha:annTrees params none X.env=[])
  (hL:(pos,qualnameIn X.env name name)∈L) (ap:Apart L) (hf:X.fn name=true∨X.env.scope.names.lookup name=some .local:=by first | exact .inl rfl | exact .inr rfl | assumption):
  PS X (.FunctionDef name params body [] none [] scope none name pos) (Jq X name params body scope clos T L i):=by
 intro pins s σ H D I ⟨⟨ps,hT,ht,htab⟩,h⟩
 refine PySem.W.nestDef_K hd0 hk0 ha ?_
 have qC:s.heap.get? T=some (PySem.W.tabObj ps):=I.hok T _ hT
 have hg:s.heap.Ns mainGlobals X.mg:=I.ok.mod.glob.keeps I.bk
 have Jf:mainGlobals≠T:=fun q=>by
  obtain⟨o,es,ep,e,hd,_⟩:=hg
  rw[q,qC] at e;cases e;cases hd
 have vS:s.heap.BuiltinsAt X.mg T:=by
  obtain⟨bm,o,h1,h2,h3,h4,h5,h6⟩:=hB
  refine⟨bm,o,h1,h2,fun q=>?_,fun q=>?_,I.bk _ _ h3,h4,h5,h6⟩
  ·obtain⟨o',es,ep,e,hd,_⟩:=I.ok.mod.glob
   rw[q,e] at h3;cases h3;rw[hd] at h6;cases h6
  ·have:=I.bk _ _ h3
   rw[q,qC] at this;cases this;cases h4
 have Br:=C.keeps I.bk
 rcases htab _ hL with hn | ⟨c',hc',Jg⟩
 ·refine PySem.W.makeFunction_K (mg:=X.mg) hcl I.ok.glob hg hcode Br qC ht hn Jf vS fun c' ctv doc h' tk hx' hge hlt hrec htb=>?_
  obtain⟨H',I',nf,ef,ec,DZ,kb⟩:=DY (tk:=tk) I hT ht htab hL ap (pU X name params body scope clos doc c' ctv) rfl hx' hge hlt hrec htb
  exact mq I' hN hi hx (v:=.ref h'.objs.size) rfl (fun s' Js=>⟨_,H',Js,h _ _ _ _ _ nf ef ec DZ kb⟩) hf
 ·refine PySem.W.makeFunction_hit (mg:=X.mg) hcl I.ok.glob hg hcode Br qC ht hc' vS fun ctv doc h' tk hk hsz=>?_
  have nf:H h'.objs.size=none:=I.hok.fresh hsz
  have keep:∀b o,s.heap.get? b=some o→(h'.push (pU X name params body scope clos doc c' ctv)).get? b=some o:=fun b o e=>Heap.get?_push_of_some _ (hk b o e)
  have kb:Same H (upd H h'.objs.size (kq h'.objs.size (pU X name params body scope clos doc c' ctv))):=fun b o e=>by rw[ak (aq e nf)];exact e
  have I':=I.laid (t':=tk) keep hsz (qB (P:=X.prog) (w:=X.w) (H:=upd H h'.objs.size (kq h'.objs.size (pU X name params body scope clos doc c' ctv))) (Heap.get?_push_size _ rfl))
  exact mq I' hN hi hx (v:=.ref h'.objs.size) rfl (fun s' Js=>⟨_,_,Js,h _ c' ctv doc _ nf af (kb _ _ Jg) (Tab.same ⟨ps,hT,ht,htab⟩ kb) fun b o e _=>kb b o e⟩) hf
end
theorem pV (xs:Array Nat) (j:Nat) (mono:∀i k,i<k→k<xs.size→xs.getD i j<xs.getD k j):∀(fuel lo hi:Nat),hi-lo≤fuel→lo≤hi→hi≤xs.size→(∀i,i<lo→xs.getD i j<j)→(∀i,hi≤i→i<xs.size→j≤xs.getD i j)→
  SetTable.below.go xs j fuel lo hi≤xs.size∧(∀i,i<SetTable.below.go xs j fuel lo hi→xs.getD i j<j)∧(∀i,SetTable.below.go xs j fuel lo hi≤i→i<xs.size→j≤xs.getD i j)
 | 0,lo,hi,hf,h1,h2,h3,h4=>by
  have:lo=hi:=by omega
  subst this
  unfold SetTable.below.go
  exact⟨h2,h3,h4⟩
 | fuel+1,lo,hi,hf,h1,h2,h3,h4=>by
  unfold SetTable.below.go
  by_cases lt:lo<hi
  ·rw[if_pos lt]
   dsimp only
   by_cases q:xs.getD ((lo+hi) / 2) j<j
   ·rw[if_pos q]
    refine pV xs j mono fuel _ hi (by omega) (by omega) h2 (fun i hi'=>?_) h4
    by_cases z:i=(lo+hi) / 2
    ·rw[z];exact q
    ·exact Nat.lt_trans (mono i ((lo+hi) / 2) (by omega) (by omega)) q
   ·rw[if_neg q]
    refine pV xs j mono fuel lo _ (by omega) (by omega) (by omega) h3 fun i hi' hs=>?_
    by_cases z:i=(lo+hi) / 2
    ·rw[z];omega
    ·have:=mono ((lo+hi) / 2) i (by omega) hs
     omega
  ·rw[if_neg lt]
   have:lo=hi:=by omega
   subst this
   exact⟨h2,h3,h4⟩
def Up (xs:Array Nat):Prop:=xs.toList.Pairwise (· < ·)
theorem Up.at {xs:Array Nat} (h:Up xs) {d i k:Nat} (lt:i<k) (hk:k<xs.size):xs.getD i d<xs.getD k d:=by
 rw[Array.getD_eq_getD_getElem?,Array.getD_eq_getD_getElem?,Array.getElem?_eq_getElem (by omega),Array.getElem?_eq_getElem hk]
 have:=List.pairwise_iff_getElem.mp h i k (by simp;omega) (by simp;omega) lt
 simpa using this
theorem Up.below {xs:Array Nat} (h:Up xs) (j:Nat):SetTable.below xs j≤xs.size∧(∀i,i<SetTable.below xs j→xs.getD i j<j)∧(∀i,SetTable.below xs j≤i→i<xs.size→j≤xs.getD i j):=
 pV xs j (fun i k lt hk=>h.at lt hk) xs.size 0 xs.size (by omega) (Nat.zero_le _) (Nat.le_refl _) (fun i hi=>absurd hi (Nat.not_lt_zero _)) fun i h1 h2=>by omega
theorem Up.D_ {xs:Array Nat} (h:Up xs) {j i:Nat} (hi:i≤xs.size) (lo:∀k,k<i→xs.getD k j<j) (up:∀k,i≤k→k<xs.size→j≤xs.getD k j):SetTable.below xs j=i:=by
 obtain⟨h1,h2,h3⟩:=h.below j
 by_cases z:SetTable.below xs j<i
 ·have a:=lo _ z
  have b:=h3 _ (Nat.le_refl _) (by omega)
  omega
 ·by_cases y:i<SetTable.below xs j
  ·have a:=h2 _ y
   have b:=up _ (Nat.le_refl _) (by omega)
   omega
  ·omega
structure hV (t:SetTable):Prop where
 up:Up t.place
 dm:t.dummies= #[]
theorem zJ (f m:Nat) (l:Bool):hV (SetTable.fresh f m l):=⟨.nil,rfl⟩
theorem ju (t:SetTable) (n:Nat):hV (t.standIn n):=by
 refine⟨?_,rfl⟩
 show((Array.range n).toList).Pairwise (· < ·)
 rw[Array.toList_range]
 exact List.pairwise_lt_range
theorem yz (j:Nat):SetTable.has #[] j=false:=by
 unfold SetTable.has
 rw[Array.getElem?_eq_none (by simp)];rfl
theorem ud {t:SetTable} (h:hV t) {x:Int}:∀(fuel:Nat) (p:SetTable.Probe) (j:Nat) (d:Option Nat),p.dummy=none→SetTable.probe.go t (fun _=>x+1) x fuel p=some (.empty j d)→d=none∧t.place[SetTable.below t.place j]? ≠some j
 | 0,p,j,d,_,e=>by unfold SetTable.probe.go at e;cases e
 | fuel+1,p,j,d,hp,e=>by
  unfold SetTable.probe.go at e
  have hs:t.slot p.j=if(t.place[SetTable.below t.place p.j]? == some p.j)=true then .live (SetTable.below t.place p.j) else .empty:=by
   unfold SetTable.slot
   dsimp only
   rw[h.dm,yz]
   rfl
  rw[hs] at e
  by_cases z:(t.place[SetTable.below t.place p.j]? == some p.j)=true
  ·rw[if_pos z] at e
   dsimp only at e
   rw[if_neg (by rw[beq_iff_eq];omega)] at e
   refine ud h fuel _ j d ?_ e
   unfold SetTable.advance
   split<;>exact hp
  ·rw[if_neg z] at e
   dsimp only at e
   injection e with e1
   injection e1 with e2 e3
   subst e2
   exact⟨by rw[←e3];exact hp,fun y=>z (by rw[y];exact beq_self_eq_true _)⟩
theorem toList_insertAt {α:Type} (xs:Array α) (p:Nat) (x:α) (h:p≤xs.size):(SetTable.insertAt xs p x).toList=xs.toList.take p++x::xs.toList.drop p:=by
 unfold SetTable.insertAt
 rw[Array.toList_append,Array.toList_push,Array.toList_extract,Array.toList_extract]
 simp[List.extract_eq_take_drop]
 rw[List.take_of_length_le (by simp)]
theorem D1 {t:SetTable} (h:hV t) {j:Nat} (hj:t.place[SetTable.below t.place j]? ≠some j):hV (t.put j).1:=by
 obtain⟨h1,h2,h3⟩:=h.up.below j
 unfold SetTable.put
 dsimp only
 refine⟨?_,?_⟩
 ·show((SetTable.insertAt t.place (SetTable.below t.place j) j).toList).Pairwise (· < ·)
  rw[toList_insertAt _ _ _ h1,List.pairwise_append]
  have at':∀{i:Nat} {a:Nat},t.place.toList[i]? =some a→t.place.getD i j=a∧i<t.place.size:=fun {i a} e=>by
   rw[Array.getElem?_toList] at e
   refine⟨by rw[Array.getD_eq_getD_getElem?,e];rfl,?_⟩
   exact(Array.getElem?_eq_some_iff.mp e).1
  have lo:∀a∈t.place.toList.take (SetTable.below t.place j),a<j:=fun a ha=>by
   obtain⟨i,hi⟩:=List.mem_iff_getElem?.mp ha
   rw[List.getElem?_take] at hi
   split at hi
   ·rename_i lt
    obtain⟨e,_⟩:=at' hi
    rw[←e];exact h2 i lt
   ·cases hi
  have hi:∀a∈t.place.toList.drop (SetTable.below t.place j),j<a:=fun a ha=>by
   obtain⟨i,hi⟩:=List.mem_iff_getElem?.mp ha
   rw[List.getElem?_drop] at hi
   obtain⟨e,hs⟩:=at' hi
   have h0:=h3 (SetTable.below t.place j) (Nat.le_refl _) (by omega)
   have n0:t.place.getD (SetTable.below t.place j) j≠j:=fun z=>hj (by
    rw[Array.getElem?_eq_getElem (by omega)]
    rw[Array.getD_eq_getD_getElem?,Array.getElem?_eq_getElem (by omega)] at z
    exact congrArg some z)
   by_cases z:i=0
   ·subst z
    rw[Nat.add_zero] at e
    omega
   ·have:=h.up.at (d:=j) (show SetTable.below t.place j<SetTable.below t.place j+i by omega) hs
    omega
  refine⟨List.Pairwise.sublist (List.take_sublist _ _) h.up,List.pairwise_cons.mpr ⟨hi,List.Pairwise.sublist (List.drop_sublist _ _) h.up⟩,fun a ha b hb=>?_⟩
  have a1:=lo a ha
  rcases List.mem_cons.mp hb with z | z
  ·rw[z];exact a1
  ·have:=hi b z;omega
 ·rw[h.dm,yz];rfl
theorem Hd {t:SetTable} (h:hV t) (n:Nat):hV (t.orStandIn n):=by
 unfold SetTable.orStandIn
 split
 ·exact h
 ·exact ju _ _
theorem D2 {t:SetTable} (r:hV t) (es:Array (Int×Value)) (h:Int) (x:Value):hV (layNew t es h x).2.1:=by
 unfold layNew
 cases e:t.freeSlot h with
 | none=>exact ju _ _
 | some q=>
  obtain⟨sl,wd⟩:=q
  dsimp only
  refine Hd ?_ _
  unfold SetTable.freeSlot SetTable.probe at e
  split at e
  ·rename_i j d e1
   obtain⟨rfl,hj⟩:=ud r _ _ j d rfl e1
   injection e with e2
   injection e2 with e3 e4
   subst e3
   exact D1 r hj
  ·cases e
theorem He {α:Type} (f:Nat→Option α) (l:List Nat) (hl:l.Pairwise (· < ·)):(((l.filterMap fun j=>(f j).map (j, ·)).map (·.1))).Pairwise (· < ·):=by
 refine List.Pairwise.sublist ?_ hl
 induction l with
 | nil=>exact .slnil
 | cons a l ih=>
  rw[List.filterMap_cons]
  cases f a with
  | none=>exact .cons _ (ih (List.pairwise_cons.mp hl).2)
  | some v=>exact .cons_cons _ (ih (List.pairwise_cons.mp hl).2)
theorem zK (t:SetTable) (es:Array (Int×Value)) (n:Nat):hV (relayAll t es n).2.1:=by
 unfold relayAll
 split
 ·rename_i q r e
  dsimp only
  split
  ·unfold SetTable.relaid SetTable.laid at e
   simp only[Option.bind_eq_bind,Option.bind_eq_some_iff,Option.pure_def,Option.some.injEq,Prod.mk.injEq] at e
   obtain⟨ow,_,e1,_⟩:=e
   rw[←e1]
   refine⟨?_,rfl⟩
   show List.Pairwise (· < ·) (_:List Nat)
   exact He (fun j=>ow.getD j none) _ List.pairwise_lt_range
  ·exact ju _ _
 ·exact ju _ _
structure cM (P:Program) (w:World) (h:Heap) (a:Addr) (es:Array (Int×Value)) (ep:Nat) (t:SetTable) (ks:List Int):Prop where
 obj:∃o,h.get? a=some o∧o.ExactSet∧o.data=.set es ep t
 elems:ElemsOf (intKind P w) es.toList
 small:es.size<scanBound
 fits:t.fits es.size=true
 led:t.led= !w.params.followText "set-order"
 rise:hV t
 vals:IntsAre (es.toList.map (·.2)) ks
 once:ks.Nodup
theorem cM.at {P:Program} {w:World} {h h':Heap} {a:Addr} {es:Array (Int×Value)} {ep:Nat} {t:SetTable} {ks:List Int} (s:cM P w h a es ep t ks) (k:∀o,h.get? a=some o→h'.get? a=some o):cM P w h' a es ep t ks:=by
 obtain⟨o,e,r⟩:=s.obj
 exact⟨⟨o,k o e,r⟩,s.elems,s.small,s.fits,s.led,s.rise,s.vals,s.once⟩
theorem cM.len {P:Program} {w:World} {h:Heap} {a:Addr} {es:Array (Int×Value)} {ep:Nat} {t:SetTable} {ks:List Int} (s:cM P w h a es ep t ks):es.size=ks.length:=by
 have:=s.vals.length
 rw[List.length_map,Array.length_toList] at this
 exact this
theorem ku {vs us:List Value} (p:vs.Perm us):∀{ks:List Int},IntsAre us ks→∃ks',IntsAre vs ks'∧ks'.Perm ks:=by
 induction p with
 | nil=>intro ks h;cases h;exact⟨[],.nil,.refl _⟩
 | cons x _ ih=>
  intro ks h
  cases h with
  | cons y tk r=>
   obtain⟨k',a,b⟩:=ih r
   exact⟨y::k',.cons y tk a,b.cons y⟩
 | swap x y l=>
  intro ks h
  cases h with
  | cons a ta r=>
   cases r with
   | cons b tb r=>exact⟨b::a::_,.cons b tb (.cons a ta r),.swap a b _⟩
 | trans _ _ ih1 ih2=>
  intro ks h
  obtain⟨k1,a1,b1⟩:=ih2 h
  obtain⟨k2,a2,b2⟩:=ih1 a1
  exact⟨k2,a2,b2.trans b1⟩
theorem ints_app {us vs:List Value} {ks ls:List Int} (h1:IntsAre us ks) (h2:IntsAre vs ls):IntsAre (us++vs) (ks++ls):=by
 induction h1 with
 | nil=>exact h2
 | cons x tk _ ih=>exact .cons x tk ih
theorem D3 {us:List Value} {ks:List Int} (h:IntsAre us ks) {x:Int}:x∈ks↔∃tk,Value.int x tk∈us:=by
 induction h with
 | nil=>simp
 | cons y tk _ ih=>
  constructor
  ·intro m
   rcases List.mem_cons.mp m with e | m
   ·exact⟨tk,by rw[e];exact List.mem_cons_self⟩
   ·obtain⟨t',m'⟩:=ih.mp m
    exact⟨t',List.mem_cons_of_mem _ m'⟩
  ·rintro⟨t',m⟩
   rcases List.mem_cons.mp m with e | m
   ·injection e with e1 _
    rw[e1];exact List.mem_cons_self
   ·exact List.mem_cons_of_mem _ (ih.mpr ⟨t',m⟩)
section
variable {P:Program} {w:World} {A:Around} {E:Value→Shared→Prop} {s:Shared}
theorem D4 {a:Addr} {es:Array (Int×Value)} {ep:Nat} {t:SetTable} {ks:List Int} {x:Int} {tk:Tok} {Q:Bool→Shared→Prop} (S:cM P w s.heap a es ep t ks) (room:ks.length+1<scanBound)
  (hold:x∈ks→Q false s)
  (hnew:x ∉ ks→∀h' es' ep' t' ks',Heap.SameBut a s.heap h'→cM P w h' a es' ep' t' ks'→(∀y,y∈ks'↔y∈ks∨y=x)→ks'.length=ks.length+1→Q true {s with heap:=h'}):
  wpAny (model P w) A (setAddHashed a (.int x tk) (hashInt x)) Q E s:=by
 obtain⟨o,ho,hex,hd⟩:=S.obj
 have NB:=S.len
 have NC:(intKind P w).is x (.int x tk)=true:=intKind_is P w x tk
 have Jt:(Value.int x tk).scannable=true:=rfl
 have hhash:hashInt x=(intKind P w).hash x:=rfl
 rw[hhash]
 unfold setAddHashed setAddHashedIn
 refine wpAny_holding (wpAny_bind (wpAny_setState_of ho hd S.fits ?_))
 dsimp only
 rw[byScan_of Jt S.small S.elems,if_pos rfl]
 unfold setAddByScan
 refine wpAny_bind (wpAny_bind (wpAny_rule (wpAny_bind (wpAny_setScan_of NC ho hd S.fits S.elems ?_))))
 have Ju:x∈ks↔∃e∈es.toList,(intKind P w).is x e.2=true:=by
  rw[D3 S.vals]
  constructor
  ·rintro⟨t',m⟩
   obtain⟨e,he,e2⟩:=List.mem_map.mp m
   exact⟨e,he,by rw[e2];exact intKind_is P w x t'⟩
  ·rintro⟨e,he,hi⟩
   obtain⟨t',e2⟩:=Value.isInt_shape (k:=x) (v:=e.2) hi
   exact⟨t',by rw[←e2];exact List.mem_map.mpr ⟨e,he,rfl⟩⟩
 cases hr:List.findIdx? (fun e=>(intKind P w).is x e.2) es.toList with
 | some j=>
  dsimp only
  obtain⟨hj,hpj,_⟩:=List.findIdx?_eq_some_iff_getElem.mp hr
  exact wpAny_pure (wpAny_pure (hold (Ju.mpr ⟨_,List.getElem_mem hj,hpj⟩)))
 | none=>
  dsimp only
  have nk:x ∉ ks:=fun m=>by
   obtain⟨e,he,hp⟩:=Ju.mp m
   have:=List.findIdx?_eq_none_iff.mp hr e he
   rw[hp] at this
   cases this
  have hperm:=layNew_perm t es ((intKind P w).hash x) (.int x tk)
  have hfits:=layNew_fits t es ((intKind P w).hash x) (.int x tk)
  have zL:=G0 t es ((intKind P w).hash x) (.int x tk)
  have zM:=D2 S.rise es ((intKind P w).hash x) (.int x tk)
  generalize layNew t es ((intKind P w).hash x) (.int x tk)=L at hperm hfits zL zM ⊢
  obtain⟨es1,t1,wasDummy,gave⟩:=L
  dsimp only at hperm hfits zL zM ⊢
  rw[Array.toList_push] at hperm
  have el1:ElemsOf (intKind P w) es1.toList:=(S.elems.push NC Jt).perm hperm
  have WJ:es1.size=es.size+1:=by rw[←Array.length_toList,hperm.length_eq,List.length_append,Array.length_toList];rfl
  have ND:es1.size<scanBound:=by omega
  obtain⟨uf,v1,p1⟩:=ku (hperm.map (·.2)) (ks:=ks++[x]) (by rw[List.map_append];exact ints_app S.vals (.cons x tk .nil))
  have NF:uf.Nodup:=p1.nodup_iff.mpr (List.nodup_append.mpr ⟨S.once,by simp,fun y hy z hz=>by rw[List.mem_singleton.mp hz];exact fun e=>nk (e▸hy)⟩)
  have Jv:∀y,y∈uf↔y∈ks∨y=x:=fun y=>by rw[p1.mem_iff,List.mem_append,List.mem_singleton]
  have ug:uf.length=ks.length+1:=by rw[p1.length_eq,List.length_append];rfl
  have fin:∀t2:SetTable,t2.fits es1.size=true→t2.led=t.led→hV t2→
    wpAny (model P w) A (do
     storeSet a es1 t2
     if(!wasDummy&&t2.tooFull)=true then do
       (match (relayAll t2 es1 (SetTable.grown es1.size)).2.2 with | true=>rule "set.scan.the-table-gave-way" | false=>pure ())
       storeSet a (relayAll t2 es1 (SetTable.grown es1.size)).1 (relayAll t2 es1 (SetTable.grown es1.size)).2.1
       pure (some true)
      else pure (some true)) (fun r s'=>r=some true∧Q true s') E s:=fun t2 f2 l2 r2=>by
   refine wpAny_bind (wpAny_storeSet_of ho hd ?_ (fits_of_scanBound ND))
   have hg:(s.heap.update a (Obj.putSet es1 t2)).get? a=some {o with data:=.set es1 (ep+1) t2}:=by
    have q:=Heap.get?_update_self (Obj.putSet es1 t2) ho (by rw[putSet_of es1 t2 hd];rfl)
    rw[putSet_of es1 t2 hd] at q
    exact q
   have NG:=Heap.SameBut.update s.heap a (Obj.putSet es1 t2)
   have S1:cM P w (s.heap.update a (Obj.putSet es1 t2)) a es1 (ep+1) t2 uf:=⟨⟨_,hg,hex,rfl⟩,el1,ND,f2,by rw[l2];exact S.led,r2,v1,NF⟩
   split
   ·have pr:=relayAll_perm t2 es1 (SetTable.grown es1.size)
    have fr:=relayAll_fits t2 es1 (SetTable.grown es1.size)
    have lr:=Bk t2 es1 (SetTable.grown es1.size)
    have Jw:=zK t2 es1 (SetTable.grown es1.size)
    generalize relayAll t2 es1 (SetTable.grown es1.size)=Rl at pr fr lr Jw ⊢
    obtain⟨es2,t3,gv⟩:=Rl
    dsimp only at pr fr lr Jw ⊢
    have S0:es2.size=es1.size:=by rw[←Array.length_toList,pr.length_eq,Array.length_toList]
    have NH:es2.size<scanBound:=by omega
    obtain⟨uh,v2,p2'⟩:=ku (pr.map (·.2)) v1
    refine wpAny_bind ?_
    have rest:wpAny (model P w) A (do storeSet a es2 t3;pure (some true)) (fun r s'=>r=some true∧Q true s') E {s with heap:=s.heap.update a (Obj.putSet es1 t2)}:=by
     refine wpAny_bind (wpAny_storeSet_of hg rfl (wpAny_pure ⟨rfl,?_⟩) (fits_of_scanBound NH))
     have hg2:=Heap.get?_update_self (Obj.putSet es2 t3) hg (by rw[putSet_of es2 t3 rfl];rfl)
     rw[putSet_of es2 t3 rfl] at hg2
     exact hnew nk _ es2 (ep+1+1) t3 uh (NG.trans (Heap.SameBut.update _ a _)) ⟨⟨_,hg2,hex,rfl⟩,el1.perm pr,NH,by rw[S0] at fr ⊢;exact fr,by rw[lr,l2];exact S.led,Jw,v2,p2'.nodup_iff.mpr NF⟩
      (fun y=>by rw[p2'.mem_iff];exact Jv y) (by rw[p2'.length_eq];exact ug)
    cases gv
    ·exact wpAny_pure rest
    ·exact wpAny_rule rest
   ·exact wpAny_pure ⟨rfl,hnew nk _ es1 (ep+1) t2 uf NG S1 Jv ug⟩
  refine wpAny_bind ?_
  have rest:wpAny (model P w) A (do
    let byValue ←if t1.plain=true then hashByValue 8 (.int x tk) else pure true
    storeSet a es1 (if byValue=true then t1 else {t1 with plain:=false})
    if(!wasDummy&&(if byValue=true then t1 else {t1 with plain:=false}).tooFull)=true then do
      (match (relayAll (if byValue=true then t1 else {t1 with plain:=false}) es1 (SetTable.grown es1.size)).2.2 with | true=>rule "set.scan.the-table-gave-way" | false=>pure ())
      storeSet a (relayAll (if byValue=true then t1 else {t1 with plain:=false}) es1 (SetTable.grown es1.size)).1 (relayAll (if byValue=true then t1 else {t1 with plain:=false}) es1 (SetTable.grown es1.size)).2.1
      pure (some true)
     else pure (some true)) (fun r s'=>r=some true∧Q true s') E s:=by
   cases hpl:t1.plain with
   | true=>
    rw[if_pos rfl,hashByValue_scannable 8 Jt]
    refine wpAny_bind (wpAny_pure ?_)
    exact fin t1 hfits zL zM
   | false=>
    rw[if_neg (by decide)]
    refine wpAny_bind (wpAny_pure ?_)
    exact fin t1 hfits zL zM
  have go:∀r s',(r=some true∧Q true s')→wpAny (model P w) A (match r with | some added=>pure added | none=>setAddHashedIn a (.int x tk) ((intKind P w).hash x) 99999) Q E s':=fun r s' ⟨e,q⟩=>by
   subst e
   exact wpAny_pure q
  cases gave
  ·exact wpAny_pure (aK rest go)
  ·exact wpAny_rule (aK rest go)
end
theorem qI {us:List Value} {xs:List Int} (hi:IntsAre us xs):∀(i:Nat) (v:Value),us[i]? =some v→∃x t,xs[i]? =some x∧v=.int x t:=by
 induction hi with
 | nil=>intro i v hv;simp at hv
 | cons y ty _ ih=>
  intro i v hv
  cases i with
  | zero=>
   have e:Value.int y ty=v:=by simpa using hv
   exact⟨y,ty,rfl,e.symm⟩
  | succ i=>exact ih i v (by simpa using hv)
section
variable {P:Program} {w:World} {A:Around} {R:Result→Shared→Prop} {I S:Addr} {fp wr:List Addr} {G:Array GenState→Array GenState→Prop} {n:Nat} {Pv:Nat→Value→Prop} {St:Nat→Shared→Prop}
theorem BH (W:WalksS P w A.in1 I fp wr G n Pv St) (hSf:S ∉ fp) (xs:List Int) (NI:xs.length=n) (hval:∀i v,Pv i v→∃x t,xs[i]? =some x∧v=.int x t) (hb:n+1<scanBound):
  ∀(k i:Nat) (s:Shared) (es:Array (Int×Value)) (ep:Nat) (t:SetTable) (ks:List Int),n-i=k→i≤n→St i s→cM P w s.heap S es ep t ks→(∀y,y∈ks↔y∈xs.take i)→ks.length≤i→
   (∀s' es' ep' t' ks',Moved (S::wr) G s s'→cM P w s'.heap S es' ep' t' ks'→(∀y,y∈ks'↔y∈xs)→ks'.length≤n→R (.ok (.ret .none)) s')→
   codeAny (model P w) A (.builtin "set.update.loop" ⟨[.ref S,.ref I],[]⟩) R s:=by
 have hSw:S ∉ wr:=fun z=>hSf (W.sub _ z)
 have more:∀b∈wr,b∈S::wr:=fun b z=>List.mem_cons_of_mem _ z
 intro k
 induction k with
 | zero=>
  intro i s es ep t ks hk hi st hS hm hl hR
  have e:i=n:=by omega
  subst e
  refine codeAny_builtin PyProof.Rows.F.entry_set_update_loop ?_
  rw[Around.under_plainId PyProof.Rows.F.plain_set_update_loop]
  show wpAny (model P w) A.in1 (pyNext (.ref I) >>= _) _ _ s
  refine wpAny_bind (W.done s _ _ st fun s' mv=>?_)
  show wpAny (model P w) A.in1 (ret Value.none) _ _ s'
  refine wpAny_pure (hR s' es ep t ks (mv.mono more) (hS.at fun o q=>mv.heap S o hSw q) (fun y=>?_) hl)
  rw[hm y,List.take_of_length_le (by omega)]
 | succ k ih=>
  intro i s es ep t ks hk hi st hS hm hl hR
  have lt:i<n:=by omega
  refine codeAny_builtin PyProof.Rows.F.entry_set_update_loop ?_
  rw[Around.under_plainId PyProof.Rows.F.plain_set_update_loop]
  show wpAny (model P w) A.in1 (pyNext (.ref I) >>= _) _ _ s
  refine wpAny_bind (W.item i s _ _ lt st fun v s' hv st' mv=>?_)
  obtain⟨x,tx,ex,rfl⟩:=hval i v hv
  have hS':cM P w s'.heap S es ep t ks:=hS.at fun o q=>mv.heap S o hSw q
  have tk1:∀y,y∈xs.take (i+1)↔y∈xs.take i∨y=x:=fun y=>by rw[List.take_add_one,ex];simp
  show wpAny (model P w) A.in1 (holding [Value.int x tx] (setAdd S (.int x tx)) >>= _) _ _ s'
  refine wpAny_bind (wpAny_holding ?_)
  unfold setAdd
  refine wpAny_holding (wpAny_bind ((intKind P w).pyHash (k:=x) (intKind_is _ _ _ _) ?_))
  refine D4 (s:={s' with toks:=s'.toks+1}) hS' (by omega) (fun hx=>?_) (fun hx h' es' ep' t' ks' sb S2 m2 l2=>?_)
  ·refine wpAny_pure ⟨plainId_quiet PyProof.Rows.F.plain_set_update_loop _,ih (i+1) _ es ep t ks (by omega) lt (W.frame _ s' s'.heap _ st' (Nat.le_succ _) fun b _ o q=>q) hS' (fun y=>?_) (by omega) fun s2 es2 Jx t2 uh mv2 S2 m2 l2=>?_⟩
   ·rw[hm y,tk1 y]
    constructor
    ·exact .inl
    ·rintro(z | z)
     ·exact z
     ·rw[z];exact(hm x).mp hx
   ·exact hR s2 es2 Jx t2 uh (Moved.trans W.gtrans ((mv.mono more).then_heap (Nat.le_succ _) fun b o _ q=>q) mv2) S2 m2 l2
  ·refine wpAny_pure ⟨plainId_quiet PyProof.Rows.F.plain_set_update_loop _,ih (i+1) _ es' ep' t' ks' (by omega) lt (W.frame _ s' h' _ st' (Nat.le_succ _) fun b hb o q=>?_) S2 (fun y=>?_) (by omega) fun s2 es2 Jx t2 uh mv2 S2 m2 l2=>?_⟩
   ·exact(sb.2 b (fun z=>hSf (z▸hb))).trans q
   ·rw[m2 y,hm y,tk1 y]
   ·exact hR s2 es2 Jx t2 uh (Moved.trans W.gtrans ((mv.mono more).then_heap (Nat.le_succ _) fun b o hb q=>(sb.2 b (fun z=>hb (z▸List.mem_cons_self))).trans q) mv2) S2 m2 l2
end
section
variable {P:Program} {w:World} {A:Around} {E:Value→Shared→Prop} {s:Shared}
theorem zN (h:Heap):cM P w (h.push (dU w)) h.objs.size #[] 0 (.fresh 0 0 (!w.params.followText "set-order")) []:=
 ⟨⟨_,Heap.get?_push_size _ rfl,⟨rfl,rfl,rfl⟩,rfl⟩,fun e he=>(by simp at he),by decide,rfl,rfl,zJ _ _ _,.nil,by simp⟩
theorem xE {l:Addr} {its:Array Value} {xs:List Int} {Q:Value→Shared→Prop} (hh:A.handled=none) (hl:s.heap.IsList l its) (hi:IntsAre its.toList xs) (hb:its.size+1<scanBound)
  (h:∀(h':Heap) (tk:Nat) es ep t ks,cM P w h' s.heap.objs.size es ep t ks→(∀y,y∈ks↔y∈xs)→ks.length≤its.size→(∀b o,b<s.heap.objs.size→s.heap.get? b=some o→h'.get? b=some o)→Q (.ref s.heap.objs.size) {s with heap:=h',toks:=tk}):
  wpAny (model P w) A (call (.type "set") [.ref l]) Q E s:=by
 obtain⟨c,tl,hmro⟩:=PySem.F.called_set.mro
 have hmade:=PySem.F.called_set.made
 have hsub:=PySem.F.called_set.sub
 refine wpAny_call (codeAny_of_tree ?_)
 show wpAny _ _ (callAny (.type "set") _) _ _ _
 refine wpAny_pure ⟨Code.quiet_builtin _ (by decide+kernel),codeAny_builtin PySem.F.entry_type_call ?_⟩
 rw[Around.under_plain (weight_type_call_type "set" [.ref l] []) rfl]
 have a1:=PySem.F.called_set.notType
 have a2:=PySem.F.called_set.canCreate
 have a3:=PySem.F.typeCall_set_1 (.ref l)
 repeat (any_goals (first | assumption | wp_step))
 refine codeAny_mono (DM (.ref l) (E:=E) (Q:=fun obj s₁=>obj=.ref s.heap.objs.size∧s₁={s with heap:=s.heap.push (dU w)}) ⟨rfl,rfl⟩) fun r s₁ hr=>?_
 cases r with
 | error e=>exact hr
 | ok fl=>
  cases fl with
  | ret obj=>
   obtain⟨rfl,rfl⟩:=hr
   have gS:(s.heap.push (dU w)).get? s.heap.objs.size=some (dU w):=Heap.get?_push_size _ rfl
   have hT:Shared.TypeIs {s with heap:=s.heap.push (dU w)} (.ref s.heap.objs.size) "set":=⟨_,gS,rfl⟩
   have a4:=PySem.F.called_set.init.lookup
   have a5:=PySem.F.called_set.init.bind (.ref s.heap.objs.size)
   repeat (any_goals (first | assumption | wp_step))
   refine codeAny_mono (codeAny_call_builtin (R:=wants (fun r s₂=>r=.none∧∃h' tk es ep t ks,s₂={s with heap:=h',toks:=tk}∧cM P w h' s.heap.objs.size es ep t ks∧(∀y,y∈ks↔y∈xs)∧ks.length≤its.size∧
     (∀b o,b<s.heap.objs.size→s.heap.get? b=some o→h'.get? b=some o)) E) PySem.F.called_set.init.plain PySem.F.entry_set_init (check_set_init_1 hT ?_)) fun r₂ s₂ hr₂=>?_
   ·obtain⟨ol,hol,hcl,nl,hdl⟩:=hl
    obtain⟨ocls,odict,odata,oslots⟩:=ol
    simp only at hcl hdl
    subst hcl hdl
    have hol':(s.heap.push (dU w)).get? l=some {cls:=.type "list",dict:=odict,data:=.seq its nl,slots:=oslots}:=Heap.get?_push_of_some _ hol
    have b1:=PySem.F.sub_list_set
    have b2:=PySem.F.sub_list_frozenset
    have b3:(Value.type "list" == Value.type "dict")=false:=by decide
    have hl1:(s.heap.push (dU w)).IsList l its:=⟨_,hol',rfl,nl,rfl⟩
    unfold Builtin.«set.__init__» noKeywords Builtin.Frozenset.updateFrom
    generalize hPI:pyIter=PI
    wp_walk
    subst hPI
    refine wpAny_pyIter_list hl1 ?_
    refine wpAny_bind (wpAny_runValue ?_)
    have lS:l<s.heap.objs.size:=Heap.lt_size hol
    have hh3:A.in1.in1.in1.handled=none:=by simp[hh]
    have Fy:l≠(s.heap.push (dU w)).objs.size:=by rw[Heap.size_push];exact Nat.ne_of_lt (Nat.lt_succ_of_lt lS)
    have nf:s.heap.objs.size ∉ [(s.heap.push (dU w)).objs.size,l]:=by
     rw[Heap.size_push]
     simp only[List.mem_cons,List.not_mem_nil,or_false,not_or]
     exact⟨Nat.ne_of_lt (Nat.lt_succ_self _),Nat.ne_of_gt lS⟩
    have NI:xs.length=its.size:=by rw[←hi.length,Array.length_toList]
    have hval:∀(i:Nat) (v:Value),its[i]? =some v→∃x t,xs[i]? =some x∧v=.int x t:=fun i v hv=>qI hi i v (by rw[Array.getElem?_toList];exact hv)
    refine BH ((Walks.list hh3 _ l Fy its).toS) nf xs NI hval hb (its.size-0) 0 _ #[] 0 _ [] (by omega) (Nat.zero_le _) ⟨⟨_,Heap.get?_push_size _ rfl,rfl,rfl⟩,hl1.push _⟩ ((zN s.heap).at fun o q=>Heap.get?_push_of_some _ q) (fun y=>by simp) (Nat.le_refl _) ?hR
    case hR=>
     intro s' es' ep' t' ks' hm hS' hmem hlen
     obtain⟨h',g',d',tk',os'⟩:=s'
     have eg:g'=s.gens:=hm.gens
     have ed:d'=s.drawn:=hm.drawn
     have eo:os'=s.os:=hm.os
     subst eg ed eo
     show wpAny _ _ _ _ _ _
     refine wpAny_pure ?_
     show wpAny _ _ (ret Value.none) _ _ _
     refine wpAny_pure ⟨rfl,h',tk',es',ep',t',ks',rfl,hS',hmem,hlen,fun b o hb e=>?_⟩
     refine hm.heap b o ?_ (Heap.get?_push_of_some _ (Heap.get?_push_of_some _ e))
     simp only[List.mem_cons,List.not_mem_nil,or_false,not_or]
     rw[Heap.size_push]
     exact⟨Nat.ne_of_lt hb,Nat.ne_of_lt (Nat.lt_succ_of_lt hb)⟩
   ·cases r₂ with
    | error e=>exact hr₂
    | ok fl₂=>
     cases fl₂ with
     | ret r=>
      obtain⟨rfl,h',tk,es,ep,t,ks,rfl,hS',hm,NB,hk'⟩:=hr₂
      repeat (any_goals (first | assumption | wp_step))
      exact h _ _ _ _ _ _ hS' hm NB hk'
     | _=>exact hr₂.elim
  | _=>exact hr.elim
theorem wb {I a:Addr} {sl i ep':Nat} {es:Array (Int×Value)} {ep:Nat} {t:SetTable} {ks:List Int} {v:Value} {nx:Nat} {Q:Option Value→Shared→Prop} (hI:jZ s.heap I #[rawInt sl,rawInt i,.ref a,rawInt es.size,rawInt ep'])
  (S:cM P w s.heap a es ep t ks) (hn:∀(B:Around) (E':Value→Shared→Prop) (Q':Option (Value×Nat)→Shared→Prop),Q' (some (v,nx)) s→wpAny (model P w) B (setNext a sl i ep') Q' E' s)
  (h:∀h',jZ h' I #[rawInt nx,rawInt (i+1:Nat),.ref a,rawInt es.size,rawInt ep']→Heap.SameBut I s.heap h'→Q (some v) {s with heap:=h'}):wpAny (model P w) A (pyNext (.ref I)) Q E s:=by
 have hT:s.TypeIs (.ref I) "set_iterator":=⟨_,hI,rfl⟩
 obtain⟨o,ho,hex,hd⟩:=S.obj
 unfold pyNext
 refine wpAny_bind (wpAny_attempt (wpAny_callSpecial?_slot (name:=Str.ofString "__next__") hT SI.slot_next (wpAny_call_entry SI.slot_next hT SI.entry_next ?_ (SI.args_next _))))
 refine wpAny_bind (wpAny_pure ?_)
 refine wpAny_bind (wpAny_fieldsOf hI rfl ?_)
 refine wpAny_bind (wpAny_setEntries_of ho hd S.fits ?_)
 rw[if_neg (by simp[rawInt])]
 dsimp only[rawInt]
 rw[Int.toNat_natCast,Int.toNat_natCast,Int.toNat_natCast]
 refine wpAny_bind (hn _ _ _ ?_)
 dsimp only
 refine wpAny_bind (wpAny_setField_rec hI (by simp) fun h1 e1 b1=>?_)
 refine wpAny_bind (wpAny_setField_rec e1 (by simp) fun h2 e2 b2=>?_)
 refine wpAny_pure ⟨v,rfl,wpAny_pure (h h2 ?_ (b1.trans b2))⟩
 simpa[rawInt] using e2
theorem yA {I a:Addr} {sl i ep':Nat} {es:Array (Int×Value)} {ep:Nat} {t:SetTable} {ks:List Int} {Q:Option Value→Shared→Prop} (hh:A.handled=none) (hI:jZ s.heap I #[rawInt sl,rawInt i,.ref a,rawInt es.size,rawInt ep'])
  (S:cM P w s.heap a es ep t ks) (hn:∀(B:Around) (E':Value→Shared→Prop) (Q':Option (Value×Nat)→Shared→Prop),Q' none s→wpAny (model P w) B (setNext a sl i ep') Q' E' s)
  (h:∀h',Heap.ExtBut I s.heap h'→Q none {s with heap:=h'}):wpAny (model P w) A (pyNext (.ref I)) Q E s:=by
 have hT:s.TypeIs (.ref I) "set_iterator":=⟨_,hI,rfl⟩
 obtain⟨o,ho,hex,hd⟩:=S.obj
 unfold pyNext
 refine wpAny_bind (wpAny_attempt (wpAny_callSpecial?_slot (name:=Str.ofString "__next__") hT SI.slot_next (wpAny_call_entry SI.slot_next hT SI.entry_next ?_ (SI.args_next _))))
 refine wpAny_bind (wpAny_pure ?_)
 refine wpAny_bind (wpAny_fieldsOf hI rfl ?_)
 refine wpAny_bind (wpAny_setEntries_of ho hd S.fits ?_)
 rw[if_neg (by simp[rawInt])]
 dsimp only[rawInt]
 rw[Int.toNat_natCast,Int.toNat_natCast,Int.toNat_natCast]
 refine wpAny_bind (hn _ _ _ ?_)
 dsimp only
 exact yq (k0:=none) hh hI (by simp) h
theorem D5 {I a T:Addr} {i p:Nat} {es:Array (Int×Value)} {ep:Nat} {t:SetTable} {ks:List Int} {hv:Int} {v:Value} {ord:List Nat} {Q:Option Value→Shared→Prop} (hI:jZ s.heap I #[.ref T,rawInt i,.ref a,rawInt es.size,rawInt ep])
  (hT':s.heap.get? T=some {cls:=.type "tuple",data:=.seq (ord.map fun(i:Nat)=>rawInt i).toArray}) (S:cM P w s.heap a es ep t ks) (hp:ord[i]? =some p) (he:es[p]? =some (hv,v))
  (h:∀h',jZ h' I #[.ref T,rawInt (i+1:Nat),.ref a,rawInt es.size,rawInt ep]→Heap.SameBut I s.heap h'→Q (some v) {s with heap:=h'}):wpAny (model P w) A (pyNext (.ref I)) Q E s:=by
 have hT:s.TypeIs (.ref I) "set_iterator":=⟨_,hI,rfl⟩
 obtain⟨o,ho,hex,hd⟩:=S.obj
 unfold pyNext
 refine wpAny_bind (wpAny_attempt (wpAny_callSpecial?_slot (name:=Str.ofString "__next__") hT SI.slot_next (wpAny_call_entry SI.slot_next hT SI.entry_next ?_ (SI.args_next _))))
 refine wpAny_bind (wpAny_pure ?_)
 refine wpAny_bind (wpAny_fieldsOf hI rfl ?_)
 refine wpAny_bind (wpAny_setEntries_of ho hd S.fits ?_)
 rw[if_neg (by simp[rawInt])]
 dsimp only[rawInt]
 refine wpAny_bind (tY hT' ?_)
 dsimp only
 have e1:(ord.map fun(i:Nat)=>rawInt i).toArray[((i:Nat):Int).toNat]? =some (rawInt p):=by
  rw[Int.toNat_natCast,List.getElem?_toArray,List.getElem?_map,hp];rfl
 rw[e1]
 dsimp only[rawInt]
 refine wpAny_bind ?_
 unfold setNextDrawn
 refine wpAny_bind (wpAny_setState_of ho hd S.fits ?_)
 dsimp only
 rw[Int.toNat_natCast,Int.toNat_natCast,if_neg (by simp),he]
 refine wpAny_pure ?_
 refine wpAny_bind (wpAny_setField_rec hI (by simp) fun h1 e1 b1=>?_)
 refine wpAny_pure ⟨v,rfl,wpAny_pure (h h1 ?_ b1)⟩
 simpa[rawInt] using e1
theorem Hf {I a T:Addr} {i:Nat} {es:Array (Int×Value)} {ep:Nat} {t:SetTable} {ks:List Int} {ord:List Nat} {Q:Option Value→Shared→Prop} (hh:A.handled=none) (hI:jZ s.heap I #[.ref T,rawInt i,.ref a,rawInt es.size,rawInt ep])
  (hT':s.heap.get? T=some {cls:=.type "tuple",data:=.seq (ord.map fun(i:Nat)=>rawInt i).toArray}) (S:cM P w s.heap a es ep t ks) (hp:ord[i]? =none)
  (h:∀h',Heap.ExtBut I s.heap h'→Q none {s with heap:=h'}):wpAny (model P w) A (pyNext (.ref I)) Q E s:=by
 have hT:s.TypeIs (.ref I) "set_iterator":=⟨_,hI,rfl⟩
 obtain⟨o,ho,hex,hd⟩:=S.obj
 unfold pyNext
 refine wpAny_bind (wpAny_attempt (wpAny_callSpecial?_slot (name:=Str.ofString "__next__") hT SI.slot_next (wpAny_call_entry SI.slot_next hT SI.entry_next ?_ (SI.args_next _))))
 refine wpAny_bind (wpAny_pure ?_)
 refine wpAny_bind (wpAny_fieldsOf hI rfl ?_)
 refine wpAny_bind (wpAny_setEntries_of ho hd S.fits ?_)
 rw[if_neg (by simp[rawInt])]
 dsimp only[rawInt]
 refine wpAny_bind (tY hT' ?_)
 dsimp only
 have e1:(ord.map fun(i:Nat)=>rawInt i).toArray[((i:Nat):Int).toNat]? =none:=by
  rw[Int.toNat_natCast,List.getElem?_toArray,List.getElem?_map,hp];rfl
 rw[e1]
 dsimp only
 refine wpAny_bind (wpAny_setField_rec hI (by simp) fun h1 e1 b1=>?_)
 exact yq (s:={s with heap:=h1}) (k0:=none) hh e1 (by simp) fun h2 x=>h h2 (fun c o hc q=>x c o hc (b1.extBut c o hc q))
theorem qJ {a:Addr} {es:Array (Int×Value)} {ep:Nat} {t:SetTable} {ks:List Int} {sl i:Nat} {Q:Option (Value×Nat)→Shared→Prop} (S:cM P w s.heap a es ep t ks) (hb:w.params.followText "set-order"=true)
  (h:Q (((pickOrder (w.params.setOrder a ep) es)[i]?).map fun e=>(e.2,sl)) s):wpAny (model P w) A (setNext a sl i ep) Q E s:=by
 obtain⟨o,ho,hex,hd⟩:=S.obj
 unfold setNext
 refine wpAny_bind (wpAny_setState_of ho hd S.fits ?_)
 dsimp only
 refine wpAny_bind (oV (a:=a) ?_)
 rw[hb,if_pos rfl,if_neg (by simp)]
 refine wpAny_bind ?_
 unfold setWalk
 refine wpAny_bind (wpAny_setState_of ho hd S.fits ?_)
 dsimp only
 refine wpAny_bind (oV (a:=a) ?_)
 rw[hb,if_pos rfl]
 refine wpAny_bind (wpAny_askSetting (wpAny_pure ?_))
 exact wpAny_pure h
theorem ui {a:Addr} {es:Array (Int×Value)} {ep:Nat} {t:SetTable} {ks:List Int} {sl i:Nat} {Q:Option (Value×Nat)→Shared→Prop} (S:cM P w s.heap a es ep t ks) (hb:w.params.followText "set-order"=false) (h1:¬(!t.plain&&decide (es.size>1))=true)
  (h:Q (match es[SetTable.below t.place sl]?,t.place[SetTable.below t.place sl]? with | some (_,x),some j=>some (x,j+1) | _,_=>none) s):wpAny (model P w) A (setNext a sl i ep) Q E s:=by
 obtain⟨o,ho,hex,hd⟩:=S.obj
 have hl:t.led=true:=by rw[S.led,hb];rfl
 unfold setNext
 refine wpAny_bind (wpAny_setState_of ho hd S.fits ?_)
 dsimp only
 refine wpAny_bind (oV (a:=a) ?_)
 rw[hb,if_neg (by decide)]
 refine wpAny_ite_split (fun hab=>absurd hab h1) (fun _=>?_)
 refine wpAny_bind ?_
 show wpAny (model P w) A (if(!t.led&& !es.isEmpty)=true then unsupported _ else pure ()) _ _ s
 rw[hl,if_neg (by simp)]
 exact wpAny_pure (wpAny_pure h)
abbrev Fz (ks:List Int):Nat→Value→Prop:=fun i v=>∃x tk,ks[i]? =some x∧v=.int x tk
theorem zO {I a:Addr} {es:Array (Int×Value)} {ep:Nat} {t:SetTable} {ks ks':List Int} (hh:A.handled=none) (hne:a≠I) (hb:w.params.followText "set-order"=true)
  (hv:IntsAre ((pickOrder (w.params.setOrder a ep) es).toList.map (·.2)) ks') (hl:ks'.length=es.size):
  Walks P w A I [I,a] [I] es.size (Fz ks') (fun i h=>jZ h I #[rawInt 0,rawInt i,.ref a,rawInt es.size,rawInt ep]∧cM P w h a es ep t ks) where
 sub:=fun b hb=>by simp at hb;simp[hb]
 frame:=fun _ _ _ st hk=>⟨hk I (by simp) _ st.1,st.2.at fun o q=>hk a (by simp) o q⟩
 item:=fun i s Q E hi st hQ=>by
  have hsz:(pickOrder (w.params.setOrder a ep) es).size=es.size:=by rw[←Array.length_toList,←List.length_map (f:=(·.2)),hv.length,hl]
  obtain⟨e,he⟩:∃e,(pickOrder (w.params.setOrder a ep) es)[i]? =some e:=⟨_,Array.getElem?_eq_getElem (by omega)⟩
  refine wb (sl:=0) (v:=e.2) (nx:=0) st.1 st.2 (fun B E' Q' q=>qJ st.2 hb (by rw[he];exact q)) fun h' e1 b1=>hQ e.2 h' s.toks ?_ ⟨e1,st.2.at fun o q=>(b1.2 a hne).trans q⟩ fun b o hb q=>(b1.2 b (by simpa using hb)).trans q
  obtain⟨x,tk,ex,ev⟩:=qI hv i e.2 (by rw[List.getElem?_map,Array.getElem?_toList,he];rfl)
  exact⟨x,tk,ex,ev⟩
 done:=fun s Q E st hQ=>by
  have hsz:(pickOrder (w.params.setOrder a ep) es).size=es.size:=by rw[←Array.length_toList,←List.length_map (f:=(·.2)),hv.length,hl]
  have he:(pickOrder (w.params.setOrder a ep) es)[es.size]? =none:=Array.getElem?_eq_none (by omega)
  exact yA (sl:=0) hh st.1 st.2 (fun B E' Q' q=>qJ st.2 hb (by rw[he];exact q)) fun h' x=>hQ h' s.toks fun b o hb q=>x b o (by simpa using hb) q
 self:=fun _ _ _ _ st hQ=>rK st.1 hQ
theorem xF {I a T:Addr} {es:Array (Int×Value)} {ep:Nat} {t:SetTable} {ks ks':List Int} {ord:List Nat} (hh:A.handled=none) (hne:a≠I) (hTI:T≠I) (hp:ord.Perm (List.range es.size))
  (hv:IntsAre (ord.map fun p=>(es.getD p (0,.none)).2) ks'):
  Walks P w A I [I,a,T] [I] es.size (Fz ks') (fun i h=>jZ h I #[.ref T,rawInt i,.ref a,rawInt es.size,rawInt ep]∧cM P w h a es ep t ks∧h.get? T=some {cls:=.type "tuple",data:=.seq (ord.map fun(i:Nat)=>rawInt i).toArray}) where
 sub:=fun b hb=>by simp at hb;simp[hb]
 frame:=fun _ _ _ st hk=>⟨hk I (by simp) _ st.1,st.2.1.at fun o q=>hk a (by simp) o q,hk T (by simp) _ st.2.2⟩
 item:=fun i s Q E hi st hQ=>by
  have lo:ord.length=es.size:=by rw[hp.length_eq,List.length_range]
  obtain⟨p,ho⟩:∃p,ord[i]? =some p:=⟨_,List.getElem?_eq_getElem (by omega)⟩
  have hlt:p<es.size:=List.mem_range.mp (hp.mem_iff.mp (List.mem_of_getElem? ho))
  have he:es[p]? =some ((es.getD p (0,.none)).1,(es.getD p (0,.none)).2):=by
   rw[Array.getElem?_eq_getElem hlt,Array.getD_eq_getD_getElem?,Array.getElem?_eq_getElem hlt];rfl
  refine D5 st.1 st.2.2 st.2.1 ho he fun h' e1 b1=>hQ _ h' s.toks ?_ ⟨e1,st.2.1.at fun o q=>(b1.2 a hne).trans q,(b1.2 T hTI).trans st.2.2⟩ fun b o hb q=>(b1.2 b (by simpa using hb)).trans q
  obtain⟨x,tk,ex,ev⟩:=qI hv i _ (by rw[List.getElem?_map,ho];rfl)
  exact⟨x,tk,ex,ev⟩
 done:=fun s Q E st hQ=>by
  have lo:ord.length=es.size:=by rw[hp.length_eq,List.length_range]
  exact Hf hh st.1 st.2.2 st.2.1 (List.getElem?_eq_none (by omega)) fun h' x=>hQ h' s.toks fun b o hb q=>x b o (by simpa using hb) q
 self:=fun _ _ _ _ st hQ=>rK st.1 hQ
def slotAt (t:SetTable) (i:Nat):Nat:=if i=0 then 0 else t.place.getD (i-1) 0+1
theorem below_at {t:SetTable} (r:hV t) {i:Nat} (hi:i≤t.place.size):SetTable.below t.place (slotAt t i)=i:=by
 have d:∀{k:Nat} (d:Nat),k<t.place.size→t.place.getD k d=t.place.getD k 0:=fun {k} d hk=>by
  rw[Array.getD_eq_getD_getElem?,Array.getD_eq_getD_getElem?,Array.getElem?_eq_getElem hk];rfl
 unfold slotAt
 refine r.up.D_ hi (fun k hk=>?_) (fun k hk hs=>?_)
 ·rw[if_neg (by omega),d _ (by omega)]
  by_cases z:k=i-1
  ·subst z;omega
  ·have:=r.up.at (d:=0) (show k<i-1 by omega) (by omega);omega
 ·rw[d _ hs]
  by_cases z:i=0
  ·rw[if_pos z];omega
  ·rw[if_neg z]
   have:=r.up.at (d:=0) (show i-1<k by omega) hs;omega
theorem BI {I a:Addr} {es:Array (Int×Value)} {ep:Nat} {t:SetTable} {ks:List Int} (hh:A.handled=none) (hne:a≠I) (hb:w.params.followText "set-order"=false) (h1:¬(!t.plain&&decide (es.size>1))=true) (hf:t.fits es.size=true) (r:hV t) (hv:IntsAre (es.toList.map (·.2)) ks):
  Walks P w A I [I,a] [I] es.size (Fz ks) (fun i h=>jZ h I #[rawInt (slotAt t i:Nat),rawInt i,.ref a,rawInt es.size,rawInt ep]∧cM P w h a es ep t ks) where
 sub:=fun b hb=>by simp at hb;simp[hb]
 frame:=fun _ _ _ st hk=>⟨hk I (by simp) _ st.1,st.2.at fun o q=>hk a (by simp) o q⟩
 item:=fun i s Q E hi st hQ=>by
  have tp:t.place.size=es.size:=by
   unfold SetTable.fits at hf
   simp only[Bool.and_eq_true,beq_iff_eq] at hf
   exact hf.1
  have hb':=below_at r (i:=i) (by omega)
  obtain⟨e,he⟩:∃e,es[i]? =some e:=⟨_,Array.getElem?_eq_getElem (by omega)⟩
  have hp:t.place[i]? =some (t.place.getD i 0):=by rw[Array.getD_eq_getD_getElem?,Array.getElem?_eq_getElem (by omega)];rfl
  refine wb (sl:=slotAt t i) (v:=e.2) (nx:=t.place.getD i 0+1) st.1 st.2 (fun B E' Q' q=>ui st.2 hb h1 ?_) fun h' e1 b1=>hQ e.2 h' s.toks ?_ ⟨?_,st.2.at fun o q=>(b1.2 a hne).trans q⟩ fun b o hb q=>(b1.2 b (by simpa using hb)).trans q
  ·rw[hb',he,hp]
   exact q
  ·obtain⟨x,tk,ex,ev⟩:=qI hv i e.2 (by rw[List.getElem?_map,Array.getElem?_toList,he];rfl)
   exact⟨x,tk,ex,ev⟩
  ·rw[show slotAt t (i+1)=t.place.getD i 0+1 by unfold slotAt;rw[if_neg (by omega),Nat.add_sub_cancel]]
   exact e1
 done:=fun s Q E st hQ=>by
  have tp:t.place.size=es.size:=by
   unfold SetTable.fits at hf
   simp only[Bool.and_eq_true,beq_iff_eq] at hf
   exact hf.1
  have hb':=below_at r (i:=es.size) (by omega)
  refine yA hh st.1 st.2 (fun B E' Q' q=>ui st.2 hb h1 ?_) fun h' x=>hQ h' s.toks fun b o hb q=>x b o (by simpa using hb) q
  rw[hb',Array.getElem?_eq_none (Nat.le_refl _)]
  exact q
 self:=fun _ _ _ _ st hQ=>rK st.1 hQ
theorem zP {a:Addr} {es:Array (Int×Value)} {ep:Nat} {t:SetTable} {ks:List Int} {Q:Value→Shared→Prop} (S:cM P w s.heap a es ep t ks)
  (h:∀(I:Addr) (h1:Heap) (d1:Drawn) (fx:List Addr) (ks':List Int) (St:Nat→Heap→Prop),ks'.Perm ks→s.heap.objs.size≤I→I<h1.objs.size→(∀b∈fx,s.heap.objs.size≤b∧b<h1.objs.size)→(∀b o,s.heap.get? b=some o→h1.get? b=some o)→St 0 h1→
   (∀B:Around,B.handled=none→Walks P w B I (I::a::fx) [I] es.size (Fz ks') St)→Q (.ref I) {s with heap:=h1,drawn:=d1}):
  wpAny (model P w) A (pyIter (.ref a)) Q E s:=by
 obtain⟨o,ho,hex,hd⟩:=S.obj
 have hT:s.TypeIs (.ref a) "set":=⟨o,ho,hex.1⟩
 have la:a<s.heap.objs.size:=Heap.lt_size ho
 have hsz:=S.len
 refine wpAny_pyIter_slot hT PySem.F.slot_set_iter (wpAny_call_entry PySem.F.slot_set_iter hT SI.rJ ?_ (PySem.F.args_set_iter_1 _))
 unfold Builtin.«frozenset.__iter__» Builtin.Frozenset.slot0 slotArgs
 simp only[List.isEmpty_nil,Bool.not_true,Bool.false_eq_true, ↓reduceIte,bind_assoc,List.length_nil,bne_self_eq_false]
 unfold Builtin.Frozenset.addrOf Builtin.Frozenset.sizeOf
 refine wpAny_bind (wpAny_pure ?_)
 try dsimp only
 refine wpAny_bind (wpAny_pure ?_)
 refine wpAny_bind (wpAny_bind (wpAny_setEntries_of ho hd S.fits (wpAny_pure ?_)))
 unfold setDrawn
 refine wpAny_bind (wpAny_bind (wpAny_setState_of ho hd S.fits ?_))
 dsimp only
 refine wpAny_bind (oV (a:=a) (wpAny_pure ?_))
 refine wpAny_ite_split (fun hab=>?_) (fun hab=>?_)
 ·have hab':(!w.params.followText "set-order"&&(!t.plain&&decide (es.size>1)))=true:=hab
  refine wpAny_bind (t_ _ _ _ _ (List.length_range) fun ys d' p=>?_)
  have ly:ys.length=es.size:=by rw[p.length_eq,List.length_range]
  refine wpAny_bind (wpAny_newTuple ?_ (by rw[List.length_map,ly];exact fits_of_scanBound S.small))
  have hoT:(s.heap.push {cls:=.type "tuple",data:=.seq (ys.map fun(i:Nat)=>rawInt i).toArray}).get? s.heap.objs.size=some {cls:=.type "tuple",data:=.seq (ys.map fun(i:Nat)=>rawInt i).toArray}:=Heap.get?_push_size _ rfl
  have BJ:(s.heap.push {cls:=.type "tuple",data:=.seq (ys.map fun(i:Nat)=>rawInt i).toArray}).objs.size=s.heap.objs.size+1:=Heap.size_push ..
  refine wpAny_bind (wpAny_setEpoch_of (s:={s with heap:=s.heap.push {cls:=.type "tuple",data:=.seq (ys.map fun(i:Nat)=>rawInt i).toArray},drawn:=d'}) (Heap.get?_push_of_some _ ho) hd S.fits ?_)
  have SS:cM P w (s.heap.push {cls:=.type "tuple",data:=.seq (ys.map fun(i:Nat)=>rawInt i).toArray}) a es ep t ks:=S.at fun o q=>Heap.get?_push_of_some _ q
  have old:∀b o,s.heap.get? b=some o→(s.heap.push {cls:=.type "tuple",data:=.seq (ys.map fun(i:Nat)=>rawInt i).toArray}).get? b=some o:=fun b o q=>Heap.get?_push_of_some _ q
  generalize s.heap.push {cls:=.type "tuple",data:=.seq (ys.map fun(i:Nat)=>rawInt i).toArray}=h1 at hoT BJ SS old ⊢
  refine wpAny_bind (wpAny_newObj_type (wpAny_pure ⟨_,rfl,"set_iterator",_,⟨_,Heap.get?_push_size _ rfl,rfl⟩,SI.slot_next.lookup,?_⟩))
  have ent:((List.range es.size).map fun p=>(es.getD p (0,.none)).2)=es.toList.map (·.2):=by
   apply List.ext_getElem?
   intro i
   rw[List.getElem?_map,List.getElem?_map,show es.toList[i]? =es[i]? from Array.getElem?_toList]
   by_cases hi:i<es.size
   ·rw[List.getElem?_range hi,Array.getElem?_eq_getElem hi]
    show some (es.getD i (0,.none)).2=some es[i].2
    rw[Array.getD_eq_getD_getElem?,Array.getElem?_eq_getElem hi];rfl
   ·rw[List.getElem?_eq_none (by rw[List.length_range];omega),Array.getElem?_eq_none (by omega)];rfl
  obtain⟨ks',v',p'⟩:=ku (p.map fun p=>(es.getD p (0,.none)).2) (ks:=ks) (by rw[ent];exact S.vals)
  refine h h1.objs.size (h1.push _) d' [s.heap.objs.size] ks' _ p' (by rw[BJ];exact Nat.le_succ _) (by rw[Heap.size_push];exact Nat.lt_succ_self _) (fun b hb=>?_) (fun b o q=>Heap.get?_push_of_some _ (old b o q)) ?_ (fun B hB=>xF (ep:=ep) (t:=t) (ks:=ks) hB ?_ ?_ p v')
  ·rw[List.mem_singleton.mp hb,Heap.size_push,BJ]
   exact⟨Nat.le_refl _,Nat.lt_succ_of_lt (Nat.lt_succ_self _)⟩
  ·exact⟨Heap.get?_push_size _ rfl,SS.at fun o q=>Heap.get?_push_of_some _ q,Heap.get?_push_of_some _ hoT⟩
  ·rw[BJ];exact Nat.ne_of_lt (Nat.lt_succ_of_lt la)
  ·rw[BJ];exact Nat.ne_of_lt (Nat.lt_succ_self _)
 ·have hab':¬(!w.params.followText "set-order"&&(!t.plain&&decide (es.size>1)))=true:=hab
  refine wpAny_bind (wpAny_pure ?_)
  refine wpAny_bind (wpAny_setEpoch_of ho hd S.fits ?_)
  refine wpAny_bind (wpAny_newObj_type (wpAny_pure ⟨_,rfl,"set_iterator",_,⟨_,Heap.get?_push_size _ rfl,rfl⟩,SI.slot_next.lookup,?_⟩))
  have Fy:a≠s.heap.objs.size:=Nat.ne_of_lt la
  cases hb:w.params.followText "set-order" with
  | true=>
   obtain⟨ks',v',p'⟩:=ku ((tZ (w.params.setOrder a ep) es.size 0 es.toList #[] (by simp)).map (·.2)) (ks:=ks) (by simpa using S.vals)
   exact h s.heap.objs.size (s.heap.push _) s.drawn [] ks' _ p' (Nat.le_refl _) (by rw[Heap.size_push];exact Nat.lt_succ_self _) (fun b hb=>by simp at hb) (fun b o q=>Heap.get?_push_of_some _ q) ⟨Heap.get?_push_size _ rfl,S.at fun o q=>Heap.get?_push_of_some _ q⟩
    (fun B hB=>zO (ep:=ep) (t:=t) (ks:=ks) hB Fy hb v' (by rw[p'.length_eq,hsz]))
  | false=>
   rw[hb] at hab'
   have h1:¬(!t.plain&&decide (es.size>1))=true:=by simpa using hab'
   exact h s.heap.objs.size (s.heap.push _) s.drawn [] ks _ (.refl _) (Nat.le_refl _) (by rw[Heap.size_push];exact Nat.lt_succ_self _) (fun b hb=>by simp at hb) (fun b o q=>Heap.get?_push_of_some _ q) ⟨Heap.get?_push_size _ rfl,S.at fun o q=>Heap.get?_push_of_some _ q⟩
    (fun B hB=>BI (ep:=ep) (t:=t) (ks:=ks) hB Fy hb h1 S.fits S.rise S.vals)
theorem we {a:Addr} {es:Array (Int×Value)} {ep:Nat} {t:SetTable} {ks:List Int} {Q:List Value→Shared→Prop} (S:cM P w s.heap a es ep t ks) (hh:A.handled=none)
  (h:∀(h':Heap) (tk:Nat) (d':Drawn) (acc:List Value) (ks':List Int),(∀b o,s.heap.get? b=some o→h'.get? b=some o)→IntsAre acc ks'→ks'.Perm ks→Q acc {s with heap:=h',toks:=tk,drawn:=d'}):
  wpAny (model P w) A (collect (.ref a)) Q E s:=by
 obtain⟨o,ho,hex,hd⟩:=S.obj
 have la:a<s.heap.objs.size:=Heap.lt_size ho
 have hsz:=S.len
 unfold collect
 refine wpAny_bind (wpAny_runValue (codeAny_builtin entry_proto_collect' ?_))
 rw[Around.under_plainId PySem.F.plain_proto_collect]
 show wpAny (model P w) A.in1 (newList [] >>= fun l=>again (.builtin "list.__iadd__" ⟨[l,.ref a],[]⟩)) _ _ s
 refine wpAny_bind (wpAny_newObj_type ?_)
 refine wpAny_pure ⟨plainId_quiet PySem.F.plain_list_iadd _,codeAny_builtin entry_list_iadd' ?_⟩
 rw[Around.under_plainId PySem.F.plain_list_iadd]
 have g1:(s.heap.push {cls:=.type "list",data:=.seq ([]:List Value).toArray}).get? s.heap.objs.size=some {cls:=.type "list",data:=.seq #[]}:=Heap.get?_push_size _ rfl
 have z1:(s.heap.push {cls:=.type "list",data:=.seq ([]:List Value).toArray}).objs.size=s.heap.objs.size+1:=Heap.size_push ..
 have k1:∀b o,s.heap.get? b=some o→(s.heap.push {cls:=.type "list",data:=.seq ([]:List Value).toArray}).get? b=some o:=fun b o q=>Heap.get?_push_of_some _ q
 show wpAny (model P w) A.in1 (Builtin.List.listExtendWith (.ref s.heap.objs.size) (.ref a) (.ref s.heap.objs.size)) _ _ _
 generalize s.heap.push {cls:=.type "list",data:=.seq ([]:List Value).toArray}=h1 at g1 z1 k1 ⊢
 have S1:cM P w h1 a es ep t ks:=S.at fun o q=>k1 a o q
 have T1:Shared.TypeIs {s with heap:=h1} (.ref a) "set":=⟨o,k1 a o ho,hex.1⟩
 unfold Builtin.List.listExtendWith
 refine wpAny_bind (wpAny_typeOf T1 ?_)
 have n1:Builtin.List.listSameRef (.ref s.heap.objs.size) (.ref a)=false:=by simp[Builtin.List.listSameRef];exact Nat.ne_of_gt la
 rw[if_neg (by rw[n1];decide)]
 refine wpAny_bind (zP (s:={s with heap:=h1}) S1 fun I h2 d2 fx ks' St pk NJ ltI S3 k2 st W=>?_)
 refine wpAny_bind (wpAny_holding (DN ⟨o,k2 a o (k1 a o ho),hex.1⟩ ?_))
 refine wpAny_ite_split (fun _=>?_) (fun hab=>absurd (by decide+kernel) hab)
 have lS:s.heap.objs.size<h1.objs.size:=by rw[z1];exact Nat.lt_succ_self _
 have nf:s.heap.objs.size ∉ I::a::fx:=fun m=>by
  rcases List.mem_cons.mp m with q | m
  ·exact absurd NJ (by rw[←q];exact Nat.not_le.mpr lS)
  ·rcases List.mem_cons.mp m with q | m
   ·exact absurd la (by rw[←q];exact Nat.lt_irrefl _)
   ·exact absurd (S3 _ m).1 (Nat.not_le.mpr lS)
 refine wpAny_bind (wpAny_rule (wpAny_bind ?_))
 have g2:=k2 _ _ g1
 show wpAny (model P w) A.in1 (updateSeq s.heap.objs.size (·.push .none) >>= fun _=>updateSeq s.heap.objs.size (·.pop)) _ _ _
 refine wpAny_bind (wpAny_updateSeq g2 rfl ?_)
 have g3:=Heap.get?_update_self (Obj.mapSeq (·.push Value.none)) g2 rfl
 refine wpAny_updateSeq (hz:=by seq_fits) g3 rfl ?_
 have g4:=Heap.get?_update_self (Obj.mapSeq (·.pop)) g3 rfl
 have k4:∀b o,b≠s.heap.objs.size→h2.get? b=some o→((h2.update s.heap.objs.size (Obj.mapSeq (·.push Value.none))).update s.heap.objs.size (Obj.mapSeq (·.pop))).get? b=some o:=fun b o nb q=>
  (Heap.get?_update_other _ _ (Ne.symm nb)).trans ((Heap.get?_update_other _ _ (Ne.symm nb)).trans q)
 have Fo:=(W A.in1 hh).frame 0 _ _ st fun b hb o q=>k4 b o (fun z=>nf (z▸hb)) q
 refine wpAny_pure ⟨plainId_quiet PySem.F.plain_extend_loop _,codeAny_extend_loopS (W A.in1 hh).toS (fits_of_scanBound S.small) s.heap.objs.size nf _ es.size 0 _ #[] _ rfl (Nat.zero_le _) Fo g4 (ItemsOf.nil _) fun s' acc' c' hm hS' hacc=>?_⟩
 show wpAny (model P w) A (load s.heap.objs.size >>= _) _ _ s'
 refine wpAny_bind (wpAny_load hS' ?_)
 refine wpAny_pure ?_
 rw[Moved.eq_with hm]
 refine h s'.heap s'.toks d2 acc'.toList ks' (fun b o q=>hm.heap b o (fun m=>?_) (k4 b o (Nat.ne_of_lt (Heap.lt_size q)) (k2 b o (k1 b o q)))) ?_ pk
 ·have lb:=Heap.lt_size q
  rcases List.mem_cons.mp m with z | m
  ·exact absurd lb (by rw[z];exact Nat.lt_irrefl _)
  ·have z:=List.mem_singleton.mp m
   exact absurd (Nat.lt_trans lb lS) (by rw[z];exact Nat.not_lt.mpr NJ)
 ·have ll:acc'.toList.length=ks'.length:=by rw[Array.length_toList,hacc.1,hsz,pk.length_eq]
  refine mI ll fun i v x e1 e2=>?_
  obtain⟨y,tk,ey,ev⟩:=hacc.2 i v (by rw[←Array.getElem?_toList];exact e1)
  rw[e2] at ey
  cases ey
  exact⟨tk,ev⟩
end
def qK (P:Program) (w:World) (a:Addr) (ks:List Int):HO:=.ext fun h=>∃es ep t ks',cM P w h a es ep t ks'∧ks'.Perm ks
section
variable {X:Cx}
def MW (X:Cx):List V→Hp→VK→Prop:=fun xs H Q=>∃(l:Addr) (ss:List Int),xs=[.ref l]∧br X.K H l (ss.map V.int)∧ss.length+1<scanBound∧
 ∀(p:Addr) (ks:List Int),H p=none→ks.Nodup→(∀y,y∈ks↔y∈ss)→ks.length≤ss.length→Q (.ref p) (upd H p (qK X.prog X.w p ks))
theorem BK (hc:X.calm=true):dh X (.type "set") (MW X):=by
 intro pins s σ H xs us Q I r h
 obtain⟨l,ss,rfl,hq,hb,q⟩:=h
 obtain⟨u,rfl,ru⟩:=vals1 r
 cases ru
 obtain⟨its,rv,p,_⟩:=I.list hq
 have hl:=rv.length
 rw[List.length_map] at hl
 refine xE (I.ok.hd hc) p.isList (intsAre_of rv) (by simp;omega) fun h' tk es ep t ks S hm hlen kp=>?_
 have k':∀b o,s.heap.get? b=some o→h'.get? b=some o:=fun b o e=>kp b o (Heap.lt_size e) e
 have hp:s.heap.objs.size≤s.heap.objs.size:=Nat.le_refl _
 have I2:=I.laid (a:=s.heap.objs.size) (o:=qK X.prog X.w s.heap.objs.size ks) (t':=tk) k' hp ⟨⟨es,ep,t,ks,S,.refl _⟩,(let ⟨o,e,_⟩:=S.obj;⟨o,e⟩),fun h1 h2 ⟨es1,S4,t1,uf,S1,p1⟩ k2=>⟨es1,S4,t1,uf,S1.at k2,p1⟩⟩
 exact⟨.ref s.heap.objs.size,_,I2,rfl,q _ ks (I.hok.fresh hp) S.once hm (by simp at hlen;omega)⟩
def BL (X:Cx):List V→Hp→VK→Prop:=fun xs H Q=>∃(a:Addr) (ks:List Int),xs=[.ref a]∧H a=some (qK X.prog X.w a ks)∧ks.length<64∧
 ∀(p:Addr) (ss':List Int),H p=none→ss'.Perm ks→ss'.Pairwise (· ≤ ·)→Q (.ref p) (upd H p (.lst (ss'.map V.int)))
theorem uK (hc:X.calm=true):dh X (.builtin "sorted") (BL X):=by
 intro pins s σ H xs us Q I r h
 obtain⟨a,ks,rfl,ha,h64,q⟩:=h
 obtain⟨u,rfl,ru⟩:=vals1 r
 cases ru
 obtain⟨⟨es,ep,t,WK,S,p0⟩,_,_⟩:=(show bx X.prog X.w H s.heap a (qK X.prog X.w a ks) from I.hok a _ ha)
 refine Calls.call_function_entry kind_sorted plain_sorted entry_sorted (args_sorted1 _) ?_
 unfold Builtin.«sorted»
 (refine wpAny_bind (m:=checkCount "sorted" 1 1 _) (wpAny_pure ?_))
 refine wpAny_bind (we (A:=X.A.in1) S (I.ok.hd hc) fun h' tk d' acc uf k hS p1=>?_)
 have hl:acc.length=ks.length:=by rw[hS.length,p1.length_eq,p0.length_eq]
 refine wpAny_bind (wpAny_newList ?_ (by rw[hl];exact Nat.le_of_lt (Nat.lt_of_lt_of_le h64 (by decide))))
 have hoL:(h'.push (seqObj "list" acc.toArray 0)).get? h'.objs.size=some (seqObj "list" acc.toArray 0):=Heap.get?_push_size _ rfl
 refine wpAny_bind (wpAny_holding (wpAny_call_entry slot_list_sort ⟨_,hoL,rfl⟩ entry_list_sort (list_sort_tree hoL hS (by rw[hl];exact h64) fun out ss' a1 a2 a3=>⟨_,rfl,?_⟩) (args_list_sort _)))
 have I1:Inv X pins σ H {s with heap:=h',toks:=tk,drawn:=d'}:=I.step (g':=s.gens) (d':=d') (ch:=[]) (fun b z=>by cases z) (fun b o _ _ _ e _=>k b o e) (fun b o _ _ _ e _=>⟨o.slots,k b o e⟩) (fun _ _ _ _ n=>n)
  (fun b o _ e=>⟨o,k b o e⟩) (fun _ _ e=>e) (fun _ _ _ e=>e) (fun b ps e=>⟨#[],by rw[e];simp⟩) (fun m ⟨ob,e1,e2,hb,r⟩=>⟨ob,e1,e2,k _ ob hb,r⟩) (fun b u e=>(I.hok b u e).stay (fun c v _ z=>k c v z) (fun _ z=>z) fun _ _ z=>z) I.bare
 obtain⟨e,he⟩:=sortedHeap_at (out:=out) hoL
 have kp:∀b u,h'.get? b=some u→(sortedHeap (h'.push (seqObj "list" acc.toArray 0)) h'.objs.size acc (out)).get? b=some u:=fun b u eb=>by
  have lt:=Heap.lt_size eb
  rw[sortedHeap_old (Nat.ne_of_lt lt) (by rw[Heap.size_push];exact Nat.lt_succ_of_lt lt)]
  exact Heap.get?_push_of_some _ eb
 have I2:=I1.laid (a:=h'.objs.size) (o:=.lst (ss'.map V.int)) (t':=tk) kp (Nat.le_refl _) ⟨by rw[List.length_map,a2.length_eq,p1.length_eq,p0.length_eq];exact Nat.le_of_lt (Nat.lt_of_lt_of_le h64 (by decide)),(out).toList,e,km a1,he⟩
 exact wpAny_pure ⟨_,rfl,⟨.ref h'.objs.size,_,I2,rfl,q _ ss' (I1.hok.fresh (Nat.le_refl _)) ((a2.trans p1).trans p0) a3⟩⟩
end
def MX (K:PySem.W.Frag) (ta:TA):TI:=fun σ H R=>IY K ta σ H R∨Fx K ta σ H R
theorem Hg {X:Cx} {elts:List Expr} {x1} {tpos:Pos} {a b:Expr} {ta:TA} {p pos:Pos} (hg:Gl X "zip") (hm:X.mg "zip"=none) (ha:PA X [a,b] ta)
  (hs:starEach [a,b] X.env=[(false,eval a X.env),(false,eval b X.env)]:=by rfl) (hs2:starEach [b] X.env=[(false,eval b X.env)]:=by rfl):
  PI X (.Tuple elts x1 tpos) (.Call (.Name "zip" p) [a,b] [] pos) (MX X.K ta):=by
 intro pins s σ H R I h
 rcases h with h | h
 ·exact IZ hg hm ha hs hs2 pins s σ H R I h
 ·exact Hc hg hm ha hs hs2 pins s σ H R I h
theorem D6 {K:PySem.W.Frag} {a b:Addr} {xs ys:List V} {g:TG} {tt:TT} {te:TE} {D:Addr} {σ:St} {H:Hp} {R:Hp→Prop} (Pv:Nat→St→Hp→Prop) (hlen:xs.length=ys.length) (h0:Pv 0 σ H) (hl:∀i σ H,i≤xs.length→Pv i σ H→br K H a xs∧br K H b ys)
  (hs:∀i x y p σ H,xs[i]? =some x→ys[i]? =some y→Pv i σ H→H p=none→g (.ref p) σ (upd H p (.tup [x,y])) fun σ2 H2=>tt σ2 H2 fun b H3=>if b=true then te σ2 H3 fun y H4=>∃ys,H4 D=some (.lst ys)∧ys.length<sizeLine∧Pv (i+1) σ2 (upd H4 D (.lst (ys++[y]))) else Pv (i+1) σ2 H3)
  (hd:∀σ H,Pv xs.length σ H→R H):ko (IV K a b) g tt te D σ H R:=by
 refine⟨fun i m σ H=>m=xs.length-i∧i≤xs.length∧Pv i σ H,⟨xs.length,by simp,Nat.zero_le _,h0⟩,?_⟩
 rintro i m σ H ⟨rfl,hi,p⟩
 obtain⟨q1,q2⟩:=hl i σ H hi p
 by_cases hlt:i<xs.length
 ·refine .inr ⟨⟨xs,ys,xs[i],ys[i]'(by omega),q1,q2,by simp[hlt],by simp[hlen▸hlt]⟩,Pv (i+1),fun σ' H' p'=>⟨xs.length-(i+1),by omega,rfl,hlt,p'⟩,fun v H' y=>?_⟩
  obtain⟨x,y,p',e1,e2,e3,rfl,rfl⟩:=y
  exact hs i x y p' σ H (e1 xs q1) (e2 ys q2) p e3
 ·have e:i=xs.length:=by omega
  subst e
  exact .inl ⟨⟨xs,ys,q1,q2,.inl (Nat.le_refl _)⟩,hd σ H p⟩
theorem Hh {X:Cx} {tg:Expr} (K:PySem.W.Frag) {l:Expr} {tl:TE} (hl:PE X l tl) (hK:X.K=K:=by rfl):PI X tg l (HZ K tl):=by subst hK;exact fF hl
theorem gP:∀(names:List (Str×NameKind)) (n:Nat) (acc:List (Str×Addr)),cellsFrom n names acc=cellsFrom n names []++acc
 | [],_,_=>rfl
 | (name,kind)::r,n,acc=>by
  unfold cellsFrom
  split
  ·rw[gP r (n+1) ((name,n)::acc),gP r (n+1) [(name,n)],List.append_assoc];rfl
  ·exact gP r n acc
theorem oo:∀{names:List (Str×NameKind)} {n:Nat} {acc:List (Str×Addr)} {x:Str} {c:Addr},(x,c)∈cellsFrom n names acc→(x,NameKind.cell)∈names∨(x,c)∈acc
 | [],_,_,_,_,h=>.inr h
 | (name,kind)::r,n,acc,x,c,h=>by
  unfold cellsFrom at h
  split at h
  ·rename_i hk
   rcases oo h with z | z
   ·exact .inl (List.mem_cons_of_mem _ z)
   ·rcases List.mem_cons.mp z with z | z
    ·cases z
     refine .inl ?_
     rw[show kind=NameKind.cell by simpa using hk]
     exact List.mem_cons_self
    ·exact .inr z
  ·rcases oo h with z | z
   ·exact .inl (List.mem_cons_of_mem _ z)
   ·exact .inr z
theorem Hi {M:Model} {A:Around} {E:Value→Shared→Prop} {s:Shared} {scope:Scope} {globals:Addr} {closure:List (Str×Addr)} {binds:List (Str×Value)} {qual:Str} {func:Option Addr} {code:Value} {builtins:Addr} {Q:Env→Shared→Prop}
  (hl:∀x∈binds,scope.names.lookup x.1=some .local)
  (hQ:∀h',h'.Ns s.heap.objs.size (fun x=>binds.reverse.lookup x)→Heap.SameBut s.heap.objs.size (pushCells (s.heap.push {cls:=.type "frame",data:=.dict #[]}) scope.names) h'→
   Q (newEnv scope s.heap.objs.size globals (cellsFrom (s.heap.objs.size+1) scope.names closure) qual func code none builtins) {s with heap:=h',toks:=s.toks+binds.length})
  (hk:scope.kind=.function):wpAny M A (newFunctionEnv scope globals closure binds qual func code none builtins) Q E s:=by
 simp only[newFunctionEnv,Option.isSome_none,Bool.false_eq_true,if_false]
 refine wpAny_bind (wpAny_alloc ?_)
 refine wpAny_bind (wpAny_layCells _ (fun name kind cells=>by cases hkc:kind == NameKind.cell<;>simp[hkc]) _ _ _ _ ?_)
 rw[show({s with heap:=s.heap.push {cls:=.type "frame",data:=.dict #[]}}:Shared).heap.objs.size=s.heap.objs.size+1 from Heap.size_push ..]
 generalize hcs:cellsFrom (s.heap.objs.size+1) scope.names closure=cs at hQ ⊢
 refine wpAny_bind ?_
 refine wpAny_forIn_list _
  (fun rest _ s'=>∃done h',binds=done++rest∧s'={s with heap:=h',toks:=s.toks+done.length}∧h'.Ns s.heap.objs.size (fun x=>done.reverse.lookup x)∧Heap.SameBut s.heap.objs.size (pushCells (s.heap.push {cls:=.type "frame",data:=.dict #[]}) scope.names) h') _ ?_ ?_ binds _
  ⟨[],_,rfl,rfl,(Heap.Ns.new s.heap (.type "frame")).keeps (pushCells_keeps _ _),Heap.SameBut.refl ..⟩
 ·rintro⟨name,v⟩ rest _ s' ⟨done,h',hb,rfl,hns,hsb⟩
  have hk':Env.kindOf {scope,locals:=s.heap.objs.size,globals,cells:=cs,qual,func,code,frame:=some s.heap.objs.size,builtins} name=some .local:=hl (name,v) (by rw[hb];simp)
  have hp:(({scope,locals:=s.heap.objs.size,globals,cells:=cs,qual,func,code,frame:=some s.heap.objs.size,builtins}:Env).scope.kind == .class||(({scope,locals:=s.heap.objs.size,globals,cells:=cs,qual,func,code,frame:=some s.heap.objs.size,builtins}:Env).scope.kind == .module&&
    ({scope,locals:=s.heap.objs.size,globals,cells:=cs,qual,func,code,frame:=some s.heap.objs.size,builtins}:Env).locals != ({scope,locals:=s.heap.objs.size,globals,cells:=cs,qual,func,code,frame:=some s.heap.objs.size,builtins}:Env).globals))=false:=by
   show(scope.kind == .class||(scope.kind == .module&&_))=false
   rw[hk];rfl
  simp only[storeName_local hk' hp]
  refine wpAny_bind (wpAny_nsSet hns fun h'' hns' hsb'=>wpAny_pure ⟨done++[(name,v)],h'',by simp[hb],?_,?_,hsb.trans hsb'⟩)
  ·simp[Nat.add_assoc]
  ·rw[lookup_reverse_snoc];exact hns'
 ·rintro _ s' ⟨done,h',hb,rfl,hns,hsb⟩
  rw[List.append_nil] at hb;subst hb
  exact wpAny_pure (hQ h' hns hsb)
structure oq (ps aF:List Str) (scope:Scope):Prop where
 kind:scope.kind=.function
 co:scope.isCoroutine=false
 gen:scope.isGenerator=false
 par:∀x∈ps,scope.names.lookup x=some .local
 free:∀x∈aF,scope.names.lookup x=some .free
 only:∀p∈scope.names,p.2=.free→p.1∈aF
 PK:∀p∈scope.names,p.2=.cell→p.1 ∉ aF
 nd:(ps++aF).Nodup
def rO (scope:Scope) (x:Str):Bool:=match scope.names.lookup x with | some .cell=>true | _=>false
def BM (P:Program) (w:World) (K:PySem.W.Frag) (mg:Str→Option Value) (base:Heap) (N:List Str) (qual:Str) (scope:Scope) (f:Addr) (cd:Value) (cl:List (Str×Addr)) (A:Around) (outer:List Env) (s:Shared) (H:Hp):Cx where
 prog:=P
 w:=w
 K:=K
 mg:=mg
 base:=base
 A:=A.deeper (PySem.W.envX qual scope s.heap.objs.size f cd (cellsFrom (s.heap.objs.size+1) scope.names cl))
 N:=N
 s₀:=s
 H₀:=H
 env:=PySem.W.envX qual scope s.heap.objs.size f cd (cellsFrom (s.heap.objs.size+1) scope.names cl)
 outer:=outer
 stack:=PySem.W.envX qual scope s.heap.objs.size f cd (cellsFrom (s.heap.objs.size+1) scope.names cl)::outer
 ex:=[]
 calm:=true
 fn:=rO scope
 pn:=[]
 xe:=fun _ _=>False
theorem h_ {n:Nat} {names:List (Str×NameKind)} {cl:List (Str×Addr)} {x:Str} {c:Addr} (h:(cellsFrom n names cl).lookup x=some c):(cellsFrom n names []).lookup x=some c∨((cellsFrom n names []).lookup x=none∧cl.lookup x=some c):=by
 rw[gP,List.lookup_append] at h
 cases e:(cellsFrom n names []).lookup x with
 | none=>rw[e] at h;exact .inr ⟨rfl,h⟩
 | some d=>rw[e] at h;exact .inl h
theorem inv_def {P:Program} {w:World} {K:PySem.W.Frag} {mg:Str→Option Value} {base:Heap} {ps aF:List Str} (ls:List Str) {qual:Str} {scope:Scope} {f:Addr} {cd:Value} {cl:List (Str×Addr)} {A:Around} {outer:List Env} {s:Shared} {H:Hp} {us:List Value} {vs fvs:List V} {h1:Heap} {tk:Nat}
  (S:oq ps aF scope) (hd:A.handled=none) (e0:pH P w K mg base A outer s H) (hl:vs.length=ps.length) (r:Vals vs us) (C:iw base cl aF fvs)
  (hns:h1.Ns s.heap.objs.size fun x=>(ps.zip us).reverse.lookup x) (hsb:Heap.SameBut s.heap.objs.size (pushCells (s.heap.push {cls:=.type "frame",data:=.dict #[]}) scope.names) h1):
  Inv (BM P w K mg base (ps++aF++ls) qual scope f cd cl A outer s H) [] (vs.map some++fvs.map some++ls.map fun _=>none) H {s with heap:=h1,toks:=tk}:=by
 have hk:∀b o,s.heap.get? b=some o→h1.get? b=some o:=fun b o e=>hsb.extBut b o (Nat.ne_of_lt (Heap.lt_size e)) (pushCells_keeps _ _ b o (Heap.get?_push_of_some _ e))
 have hkb:∀b o,base.get? b=some o→h1.get? b=some o:=fun b o e=>hk b o (e0.bs b o e).1
 have ki:∀b:Addr,b ∉ (BM P w K mg base (ps++aF++ls) qual scope f cd cl A outer s H).ex:=fun b z=>absurd (show b∈([]:List Addr) from z) (by simp)
 have lf:aF.length=fvs.length:=Paired.length C.vals
 have ok:=cellsFrom_ok scope.names (s.heap.push {cls:=.type "frame",data:=.dict #[]}) (s.heap.objs.size+1) [] ⟨fun _ _ hm=>(nomatch hm),List.Pairwise.nil⟩ (by rw[Heap.size_push];exact Nat.le_refl _)
 rw[Heap.size_push] at ok
 have own:∀{x:Str} {c:Addr},(cellsFrom (s.heap.objs.size+1) scope.names []).lookup x=some c→h1.IsCell c none∧s.heap.objs.size<c:=fun {x c} e=>by
  obtain⟨i1,i2⟩:=ok.empty x c (PySem.mem_of_lookup e)
  exact⟨i1.sameBut hsb (Nat.ne_of_gt i2),i2⟩
 have old:∀{x:Str} {c:Addr},cl.lookup x=some c→c<s.heap.objs.size:=fun {x c} e=>by
  obtain⟨v,o,ho,_⟩:=C.cell x c e
  exact Heap.lt_size (e0.bs _ _ ho).1
 refine⟨⟨e0.mod,S.kind,rfl,rfl,Nat.le_refl _,fun y z c h1' h2'=>?_,fun y hy=>?_,fun y c hf h=>?_,fun _=>hd,Around.frames_deeper e0.frames,.inr ⟨rfl,rfl⟩,fun b z=>absurd z (ki b),e0.bs,e0.nG,fun b _ _=>ki b,fun b z=>absurd z (ki b),e0.g_,e0.tF⟩,
  rfl,e0.bare,Un.kept hk,⟨_,hns,fun i y v h1' h2 h3=>?_⟩,fun y c h=>?_,e0.hok.fresh (Nat.le_refl _),fun y c h=>?_,fun p hp=>absurd (show p∈([]:List (Addr×Obj)) from hp) (by simp),e0.hok.kept hk,?_⟩
 ·rcases h_ h1' with a1 | ⟨_,a1⟩<;>rcases h_ h2' with a2 | ⟨_,a2⟩
  ·exact name_of_addr ok.apart (PySem.mem_of_lookup a1) (PySem.mem_of_lookup a2)
  ·exact absurd (own a1).2 (Nat.not_lt.mpr (Nat.le_of_lt (old a2)))
  ·exact absurd (own a2).2 (Nat.not_lt.mpr (Nat.le_of_lt (old a1)))
  ·exact C.inj y z c a1 a2
 ·have hy:scope.names.lookup y=some .cell∨scope.names.lookup y=some .free:=hy
  show ∃c,(cellsFrom (s.heap.objs.size+1) scope.names cl).lookup y=some c
  rw[gP,List.lookup_append]
  cases e:(cellsFrom (s.heap.objs.size+1) scope.names []).lookup y with
  | some c=>exact⟨c,rfl⟩
  | none=>
   rcases hy with hy | hy
   ·obtain⟨c,q⟩:=gC (n:=s.heap.objs.size+1) hy
    rw[e] at q;cases q
   ·have hm:=S.only _ (PySem.mem_of_lookup hy) rfl
    obtain⟨i,hi⟩:=List.getElem?_of_mem hm
    obtain⟨v,_,c,u,hc,_⟩:=cZ C.vals hi
    exact⟨c,hc⟩
 ·have hf':rO scope y=true:=hf
  have hy:scope.names.lookup y=some .cell:=by
   unfold rO at hf'
   split at hf'
   ·assumption
   ·cases hf'
  obtain⟨c',q⟩:=gC (n:=s.heap.objs.size+1) hy
  rcases h_ (show(cellsFrom (s.heap.objs.size+1) scope.names cl).lookup y=some c from h) with a1 | ⟨a0,_⟩
  ·exact Nat.le_of_lt (own a1).2
  ·rw[a0] at q;cases q
 ·have hU:(ps++aF++ls)[i]? =some y:=h1'
  have h2':(vs.map some++fvs.map some++ls.map fun _=>(none:Option V))[i]? =some (some v):=h2
  by_cases hi2:i<(ps++aF).length
  ·rw[List.getElem?_append_left hi2] at hU
   rw[List.getElem?_append_left (by rw[List.length_append,List.length_map,List.length_map,hl,←lf];rw[List.length_append] at hi2;exact hi2)] at h2'
   by_cases hi:i<ps.length
   ·rw[List.getElem?_append_left hi] at hU
    rw[List.getElem?_append_left (by rw[List.length_map];omega),List.getElem?_map] at h2'
    obtain⟨v',hv',e⟩:=Option.map_eq_some_iff.mp h2'
    have e':v'=v:=Option.some.inj e
    subst e'
    obtain⟨u,hu,rv⟩:=r.get hv'
    have yd:ps.Nodup:=(List.nodup_append.mp S.nd).1
    exact⟨u,rv,.inl ⟨S.par y (List.mem_of_getElem? hU),yt yd (by rw[←hl,r.length];exact Nat.le_refl _) hU hu⟩⟩
   ·rw[List.getElem?_append_right (by omega)] at hU
    rw[List.getElem?_append_right (by rw[List.length_map];omega),List.length_map,hl,List.getElem?_map] at h2'
    obtain⟨v',hv',e⟩:=Option.map_eq_some_iff.mp h2'
    have e':v'=v:=Option.some.inj e
    subst e'
    obtain⟨v2,hv2,c,u,hc,⟨o,ho,hd'⟩,rv⟩:=cZ C.vals hU
    rw[hv'] at hv2
    cases hv2
    have hm:=List.mem_of_getElem? hU
    refine⟨u,rv,.inr ⟨.inr (S.free y hm),c,?_,o,hkb _ _ ho,hd'⟩⟩
    show(cellsFrom (s.heap.objs.size+1) scope.names cl).lookup y=some c
    rw[gP,List.lookup_append]
    cases e:(cellsFrom (s.heap.objs.size+1) scope.names []).lookup y with
    | none=>exact hc
    | some d=>
     rcases oo (PySem.mem_of_lookup e) with z | z
     ·exact absurd hm (S.PK _ z rfl)
     ·cases z
  ·rw[List.getElem?_append_right (by rw[List.length_append,List.length_map,List.length_map,hl,←lf];rw[List.length_append] at hi2;omega),List.getElem?_map] at h2'
   obtain⟨_,_,e⟩:=Option.map_eq_some_iff.mp h2'
   cases e
 ·rcases h_ (show(cellsFrom (s.heap.objs.size+1) scope.names cl).lookup y=some c from h) with a1 | ⟨_,a1⟩
  ·exact⟨_,(own a1).1⟩
  ·obtain⟨v,o,ho,hd'⟩:=C.cell y c a1
   exact⟨v,o,hkb _ _ ho,hd'⟩
 ·rcases h_ (show(cellsFrom (s.heap.objs.size+1) scope.names cl).lookup y=some c from h) with a1 | ⟨_,a1⟩
  ·exact e0.hok.fresh (Nat.le_of_lt (own a1).2)
  ·obtain⟨v,o,ho,hd'⟩:=C.cell y c a1
   exact(e0.bs c o ho).2
 ·show _=(ps++aF++ls).length
  rw[List.length_append,List.length_append,List.length_map,List.length_map,List.length_map,List.length_append,List.length_append,hl,lf]
theorem Hj {P:Program} {w:World} {K:PySem.W.Frag} {mg:Str→Option Value} {base:Heap} {k:Nat} {f c':Addr} {name qual:Str} {params:Arguments} {body:List Stmt} {scope:Scope} {cl:List (Str×Addr)} {doc pm ctv:Value} {ps aF ls:List Str} {fvs:List V} {sp:Sp}
  (ho:base.get? f=some (PySem.W.fnMade name qual params body scope cl doc pm c' ctv)) (oh:base.CodeRec (.ref c') qual) (S:oq ps aF scope) (C:iw base cl aF fvs) (len:∀vs H Q E,sp vs H Q E→vs.length=ps.length)
  (hbody:∀(A:Around) (outer:List Env) (s:Shared) (H:Hp) (vs:List V) (Q:VK) (E:XK),aP k (A.deeper (PySem.W.envX qual scope s.heap.objs.size f (.ref c') (cellsFrom (s.heap.objs.size+1) scope.names cl)))→sp vs H Q E→
   ∃t,jo (BM P w K mg base (ps++aF++ls) qual scope f (.ref c') cl A outer s H) body t∧t {nx:=fun _ H'=>Q .non H',rt:=Q} (vs.map some++fvs.map some++ls.map fun _=>none) H):
  bf P w K mg base bT (k+1) f (PySem.W.fnX name qual params body scope cl .none .none doc pm none (.ref c') ctv) ps sp:=by
 refine⟨len,fun A outer s H args us vs Q E hr e0 hb r hsp=>?_⟩
 have hl:=len _ _ _ _ hsp
 have lim:s.heap.NoLimit:=e0.mod.nolimit.keeps fun b o e=>(e0.bs b o e).1
 have DS:s.heap.CodeRec (.ref c') qual:=by
  obtain⟨c,oc,vs',tq,hc,hoc,hdc,hq⟩:=oh
  exact⟨c,oc,vs',tq,hc,(e0.bs _ _ hoc).1,hdc,hq⟩
 refine codeAny_call_function hr.depth (e0.bs _ _ ho).1 rfl S.co S.gen rfl DS (hb _ _ _ _ ?_)
 have hloc:∀y∈ps.zip us,scope.names.lookup y.1=some .local:=fun⟨n,v⟩ hy=>S.par n (List.of_mem_zip hy).1
 refine Hi hloc (fun h₁ hns hsb=>?_) S.kind
 have hk:∀b o,s.heap.get? b=some o→h₁.get? b=some o:=fun b o e=>hsb.extBut b o (Nat.ne_of_lt (Heap.lt_size e)) (pushCells_keeps _ _ b o (Heap.get?_push_of_some _ e))
 refine⟨lim.keeps hk,?_⟩
 obtain⟨t,ht,hq⟩:=hbody A outer s H vs Q E (hr.deeper _) hsp
 have I:=inv_def (tk:=s.toks+(ps.zip us).length) (qual:=qual) (f:=f) (cd:=.ref c') ls S hr.hd e0 hl r C hns hsb
 refine codeAny_func (wpAny_mono (ht [] _ _ H _ I hq) (fun fl s' hs=>?_) fun e s' hs=>hs.elim)
 have fin:∀{σ':St} {H':Hp} {v:V} {u:Value},Inv (BM P w K mg base (ps++aF++ls) qual scope f (.ref c') cl A outer s H) [] σ' H' s'→RelV v u→Q v H'→CE outer P w H s Q u s':=
  fun {σ' H' v u} J rv q=>⟨v,H',J.os,J.bare,J.base,J.hok,rv,q⟩
 cases fl with
 | ret u=>
  obtain⟨v,σ',H',J,rv,q⟩:=hs
  exact fin J rv q
 | next=>
  obtain⟨σ',H',J,q⟩:=hs
  exact fin (v:=V.non) (u:=Value.none) J rfl q
 | brk=>
  obtain⟨_,_,_,q⟩:=hs
  exact False.elim q
 | cont=>
  obtain⟨_,_,_,q⟩:=hs
  exact False.elim q
theorem FnAt.MY {X:Cx} {σ:St} {D:List Addr} {H:Hp} {base':Heap} {name:Str} {params:Arguments} {body:List Stmt} {scope:Scope} {clos:List (Str×Addr)} {c' f:Addr} {doc ctv:Value} {ps aF ls:List Str} {fvs:List V} {k:Nat} {sp:Sp} (W:Wide X σ D H base')
  (hf:H f=some (kq f (pU X name params body scope clos doc c' ctv))) (Jm:f∈D) (hc:H c'=some (kr c' (qualnameIn X.env name name))) (hcD:c'∈D) (S:oq ps aF scope) (sub:∀p∈clos,X.env.cells.lookup p.1=some p.2)
  (vals:Paired (fun(x:Str) (v:V)=>∃i:Nat,X.N[i]? =some x∧σ[i]? =some (some v)∧X.env.scope.names.lookup x=some .cell∧clos.lookup x=X.env.cells.lookup x) aF fvs)
  (hb:∀(us:List Value),us.length=ps.length→bindArgs (PySem.W.fnX name (qualnameIn X.env name name) params body scope clos .none .none doc ((X.mg "__name__").getD .none) none (.ref c') ctv) ⟨us,[]⟩=pure (ps.zip us)) (len:∀vs H Q E,sp vs H Q E→vs.length=ps.length)
  (hbody:∀(A:Around) (outer:List Env) (s:Shared) (H:Hp) (vs:List V) (Q:VK) (E:XK),aP k (A.deeper (PySem.W.envX (qualnameIn X.env name name) scope s.heap.objs.size f (.ref c') (cellsFrom (s.heap.objs.size+1) scope.names clos)))→sp vs H Q E→
   ∃t,jo (BM X.prog X.w X.K X.mg base' (ps++aF++ls) (qualnameIn X.env name name) scope f (.ref c') clos A outer s H) body t∧t {nx:=fun _ H'=>Q .non H',rt:=Q} (vs.map some++fvs.map some++ls.map fun _=>none) H):FnAt X.prog X.w X.K X.mg base' (k+1) f ps.length sp:=by
 have ho:base'.get? f=some (pU X name params body scope clos doc c' ctv):=W.ext f _ Jm hf
 have oh:base'.CodeRec (.ref c') (qualnameIn X.env name name):=W.ext c' _ hcD hc
 have sub':∀x c,clos.lookup x=some c→X.env.cells.lookup x=some c:=fun x c e=>sub (x,c) (PySem.mem_of_lookup e)
 have C:iw base' clos aF fvs:=by
  refine⟨fun x y c h1 h2=>W.inj x y c (sub' x c h1) (sub' y c h2),fun x c h=>W.cell x c (sub' x c h),Paired.pG vals fun x v ⟨i,h1,h2,h3,h4⟩=>?_⟩
  obtain⟨c,u,e1,e2,e3⟩:=W.val i x v h1 h2 h3
  exact⟨c,u,h4.trans e1,e2,e3⟩
 exact⟨_,_,ps,ho,rfl,rfl,hb,Hj ho oh S C len hbody⟩
end L2
namespace My
open PySem L2
def top (i:Nat):Stmt:=PySem.Challenge.pw_figurejudge_k42_sets_of_rooms.main.body.getD i (.Pass ⟨0,0,0,0⟩)
abbrev dn:Stmt:=top 1
abbrev bI:Stmt:=top 3
abbrev eh:Stmt:=top 4
abbrev dq:Stmt:=top 5
abbrev dr:Stmt:=top 7
abbrev cS:Stmt:=top 8
abbrev cU:Stmt:=top 9
abbrev fb:Stmt:=top 10
abbrev iy:Stmt:=top 11
abbrev bw:Stmt:=top 12
abbrev cH:Stmt:=top 13
abbrev cI:Stmt:=top 14
abbrev gG:Stmt:=top 16
abbrev iA:Stmt:=top 17
abbrev gQ:Stmt:=top 18
abbrev eQ:Stmt:=top 19
abbrev gR:Stmt:=top 20
abbrev c_:Stmt:=top 21
abbrev dW:Stmt:=top 22
abbrev gT:Stmt:=top 23
abbrev fH:Stmt:=top 24
abbrev fU:Stmt:=top 25
abbrev de:Stmt:=top 26
abbrev eB:Stmt:=top 27
abbrev iB:Stmt:=top 28
abbrev fI:Stmt:=top 29
abbrev jv:Stmt:=top 30
set_option genInjectivity false in
set_option genSizeOf false in
structure bW where
 gn:Addr
 iC:FuncData
 h9:Addr
 gq:FuncData
 wg:Addr
 ia:Addr
 jd:FuncData
 gu:Addr
 iD:FuncData
 gw:Addr
 iE:FuncData
 fV:Addr
 ib:FuncData
 fW:Addr
 ic:FuncData
 jw:Addr
 lg:FuncData
 j4:Addr
 ky:FuncData
 cJ:Addr
 iF:FuncData
 dF:Addr
 cK:Addr
 kz:Addr
 jx:FuncData
 BN:Addr
 kB:Addr
 jy:FuncData
 BO:Addr
 mK:Addr
 ot:FuncData
 mL:Addr
 ou:FuncData
 kC:Addr
 mM:FuncData
 kD:Addr
 mN:FuncData
 kE:Addr
 mO:FuncData
 iQ:Addr
 j5:FuncData
 iR:Addr
 j6:FuncData
 kF:Addr
 mP:FuncData
 fJ:Addr
 fX:FuncData
 jz:Addr
 lh:FuncData
 ie:Addr
 je:FuncData
 o_:Addr
 pW:FuncData
 yB:Addr
 iG:Addr
 mQ:Addr
 ox:FuncData
 kG:Addr
 mR:FuncData
 zQ:Addr
 BP:FuncData
structure Txt (K:PySem.W.Frag) (mg:Str→Option Value) (a:bW):Prop where
 uL:d8 K "all_letters" "all_letters" dn a.gn a.iC
 gx:mg "all_letters"=some (.ref a.gn)
 gy:PySem.W.keepIn K (.ref a.gn)=true
 gA:Binds K a.iC ["base","many"] []
 wj:kZ K "grown_from" "grown_from" bI a.h9 a.gq (.ref a.wg)
 oy:mg "grown_from"=some (.ref a.h9)
 oz:PySem.W.keepIn K (.ref a.h9)=true
 oA:Binds K a.gq ["first","many","onward","is_yes","most"] []
 Jy:∃t,Binds K a.gq ["first","many","onward","is_yes","most"] [.int 2000 t]
 wk:d8 K "machine_of" "machine_of" eh a.ia a.jd
 wm:mg "machine_of"=some (.ref a.ia)
 wq:PySem.W.keepIn K (.ref a.ia)=true
 wt:Binds K a.jd ["base","names","growth","most"] []
 uM:d8 K "own_letters" "own_letters" dq a.gu a.iD
 uN:mg "own_letters"=some (.ref a.gu)
 uO:PySem.W.keepIn K (.ref a.gu)=true
 uP:Binds K a.iD ["base","names","own"] []
 uQ:d8 K "other_names" "other_names" dr a.gw a.iE
 jf:mg "other_names"=some (.ref a.gw)
 jg:PySem.W.keepIn K (.ref a.gw)=true
 jh:Binds K a.iE ["machine","name"] []
 rP:d8 K "letters_over" "letters_over" cS a.fV a.ib
 rQ:mg "letters_over"=some (.ref a.fV)
 rR:PySem.W.keepIn K (.ref a.fV)=true
 rS:Binds K a.ib ["base","machine","name"] []
 rV:d8 K "rooms_before" "rooms_before" cU a.fW a.ic
 rW:mg "rooms_before"=some (.ref a.fW)
 rX:PySem.W.keepIn K (.ref a.fW)=true
 rY:Binds K a.ic ["machine","letters"] []
 zR:d8 K "going_on" "going_on" fb a.jw a.lg
 zS:mg "going_on"=some (.ref a.jw)
 zT:PySem.W.keepIn K (.ref a.jw)=true
 zU:Binds K a.lg ["machine","letters"] []
 D7:d8 K "led_to" "led_to" iy a.j4 a.ky
 D8:mg "led_to"=some (.ref a.j4)
 D9:PySem.W.keepIn K (.ref a.j4)=true
 Ea:Binds K a.ky ["machine","some","letters"] []
 uR:kZ K "sets_growth" "sets_growth" bw a.cJ a.iF (.ref a.dF)
 ni:PySem.W.codeHdIn K a.dF a.cK=true
 nj:mg "sets_growth"=some (.ref a.cJ)
 nq:PySem.W.keepIn K (.ref a.cJ)=true
 nu:Binds K a.iF ["base","machine","name"] []
 BQ:kZ K "sets_of" "sets_of" cH a.kz a.jx (.ref a.BN)
 kH:mg "sets_of"=some (.ref a.kz)
 kI:PySem.W.keepIn K (.ref a.kz)=true
 uj:Binds K a.jx ["base","machine","name","most"] []
 uk:∃t,Binds K a.jx ["base","machine","name","most"] [.int 2000 t]
 BR:kZ K "some_of" "some_of" cI a.kB a.jy (.ref a.BO)
 i4:mg "some_of"=some (.ref a.kB)
 i5:PySem.W.keepIn K (.ref a.kB)=true
 um:Binds K a.jy ["base","machine","name","most"] []
 uo:∃t,Binds K a.jy ["base","machine","name","most"] [.int 2000 t]
 Eb:d8 K "_law_feed" "_law_feed" gG a.mK a.ot
 Ec:mg "_law_feed"=some (.ref a.mK)
 Ed:PySem.W.keepIn K (.ref a.mK)=true
 Ee:Binds K a.ot ["_law_script"] []
 Ef:d8 K "_law_draw" "_law_draw" iA a.mL a.ou
 cy:mg "_law_draw"=some (.ref a.mL)
 cz:PySem.W.keepIn K (.ref a.mL)=true
 cA:Binds K a.ou ["_law_feed_here","_law_many"] []
 BS:d8 K "_law_after" "_law_after" gQ a.kC a.mM
 BU:mg "_law_after"=some (.ref a.kC)
 BV:PySem.W.keepIn K (.ref a.kC)=true
 BW:Binds K a.mM ["_law_word"] []
 BX:d8 K "_law_names" "_law_names" eQ a.kD a.mN
 BZ:mg "_law_names"=some (.ref a.kD)
 B_:PySem.W.keepIn K (.ref a.kD)=true
 B0:Binds K a.mN ["_law_feed_here","_law_many"] []
 B1:d8 K "_law_rings" "_law_rings" gR a.kE a.mO
 B2:mg "_law_rings"=some (.ref a.kE)
 B3:PySem.W.keepIn K (.ref a.kE)=true
 B4:Binds K a.mO ["_law_moves"] []
 xG:d8 K "_law_machine" "_law_machine" c_ a.iQ a.j5
 xH:mg "_law_machine"=some (.ref a.iQ)
 xI:PySem.W.keepIn K (.ref a.iQ)=true
 xJ:Binds K a.j5 ["_law_feed_here","_law_base","_law_names_here","_law_most"] []
 xK:d8 K "_law_letters" "_law_letters" dW a.iR a.j6
 xM:mg "_law_letters"=some (.ref a.iR)
 xN:PySem.W.keepIn K (.ref a.iR)=true
 xO:Binds K a.j6 ["_law_base","_law_many"] []
 B5:d8 K "_law_grown" "_law_grown" gT a.kF a.mP
 B6:mg "_law_grown"=some (.ref a.kF)
 B7:PySem.W.keepIn K (.ref a.kF)=true
 B8:Binds K a.mP ["_law_first","_law_many","_law_onward","_law_most"] []
 B9:d8 K "_law_alike" "_law_alike" fH a.fJ a.fX
 gU:mg "_law_alike"=some (.ref a.fJ)
 gV:PySem.W.keepIn K (.ref a.fJ)=true
 gW:Binds K a.fX ["_law_found","_law_due_here"] []
 zV:d8 K "_law_wholes" "_law_wholes" fU a.jz a.lh
 zW:mg "_law_wholes"=some (.ref a.jz)
 zX:PySem.W.keepIn K (.ref a.jz)=true
 zY:Binds K a.lh ["_law_base","_law_names_here","_law_name"] []
 wu:d8 K "_law_going_on" "_law_going_on" de a.ie a.je
 wx:mg "_law_going_on"=some (.ref a.ie)
 wy:PySem.W.keepIn K (.ref a.ie)=true
 wz:Binds K a.je ["_law_machine_here","_law_noughts"] []
 Hk:kZ K "_law_due" "_law_due" eB a.o_ a.pW (.ref a.yB)
 Hl:PySem.W.codeHdIn K a.yB a.iG=true
 Hm:mg "_law_due"=some (.ref a.o_)
 Hn:PySem.W.keepIn K (.ref a.o_)=true
 Ho:Binds K a.pW ["_law_base","_law_machine_here","_law_name"] []
 Eg:d8 K "_law_wide" "_law_wide" iB a.mQ a.ox
 Eh:mg "_law_wide"=some (.ref a.mQ)
 Ei:PySem.W.keepIn K (.ref a.mQ)=true
 Ej:Binds K a.ox ["_law_many"] []
 B':d8 K "_law_chain" "_law_chain" fI a.kG a.mR
 Ca:mg "_law_chain"=some (.ref a.kG)
 Cb:PySem.W.keepIn K (.ref a.kG)=true
 Cc:Binds K a.mR ["_law_feed_here","_law_base","_law_names_here","_law_at"] []
 MZ:d8 K "law" "law" jv a.zQ a.BP
 Wu:mg "law"=some (.ref a.zQ)
 cq:mg "range"=none
 bS:mg "tuple"=none
 bF:mg "len"=none
 lq:mg "enumerate"=none
 qL:mg "list"=none
 pX:mg "sorted"=none
 FA:mg "abs"=none
 cw:mg "isinstance"=none
 zZ:mg "any"=none
 wA:mg "bool"=none
 M_:mg "min"=none
 M0:mg "all"=none
 z_:mg "int"=none
 M4:mg "set"=none
 M5:mg "zip"=none
 vT:a.cK≠a.iG
theorem yC {c:TT} {tb:TS} {D:Ends} {σ:St} {H:Hp} (W:Nat→St→Hp→Prop) (h0:∃m,W m σ H)
  (hs:∀m σ H,W m σ H→c σ H fun b H1=>if b=true then tb {D with nx:=fun σ' H'=>∃m',m'<m∧W m' σ' H',ct:=fun σ' H'=>∃m',m'<m∧W m' σ' H',bk:=D.nx} σ H1 else D.nx σ H1)
  (mono:∀σ H Q Q',(∀b H1,Q b H1→Q' b H1)→c σ H Q→c σ H Q'):nO c tb D σ H:=by
 refine⟨W,h0,fun m σ H w=>mono σ H _ _ (fun b H1 q=>?_) (hs m σ H w)⟩
 cases b with
 | true=>exact⟨_,fun σ' H' p=>p,q⟩
 | false=>exact q
theorem iS {H:Hp} {D:Addr} {kvs:List (Key×V)} {x:Str} {v:V} (h:Rd H D (.dK kvs)) (e:cD kvs (Sum.inr x)=some v):nV H D (.str x) (some v):=.inl ⟨kvs,Sum.inr x,h,rfl,e.symm⟩
def fd (L:Addr) (n sd:Int):List (Key×V):=[(Sum.inr ("left":Str),.ref L),(Sum.inr ("number":Str),.int n),(Sum.inr ("seed":Str),.int sd)]
theorem yD (L:Addr) (n sd:Int):cD (fd L n sd) (Sum.inr ("left":Str))=some (.ref L):=dS rfl
theorem i6 (L:Addr) (n sd:Int):cD (fd L n sd) (Sum.inr ("number":Str))=some (.int n):=by
 unfold fd
 rw[cE (show ¬((Sum.inr ("left":Str):Key)=Sum.inr ("number":Str)) by decide+kernel),dS rfl]
theorem rZ (L:Addr) (n sd:Int):cD (fd L n sd) (Sum.inr ("seed":Str))=some (.int sd):=by
 unfold fd
 rw[cE (show ¬((Sum.inr ("left":Str):Key)=Sum.inr ("seed":Str)) by decide+kernel),cE (show ¬((Sum.inr ("number":Str):Key)=Sum.inr ("seed":Str)) by decide+kernel),dS rfl]
theorem yE (L:Addr) (n sd v:Int):putK (fd L n sd) (Sum.inr ("number":Str)) (.int v)=fd L v sd:=by
 unfold putK fd
 have a1:¬((Sum.inr ("left":Str):Key)=Sum.inr ("number":Str)):=by decide+kernel
 have a2:¬((Sum.inr ("seed":Str):Key)=Sum.inr ("number":Str)):=by decide+kernel
 simp only[List.any_cons,List.any_nil,List.map_cons,List.map_nil,a1,a2,if_false,if_true,decide_true,decide_false,Bool.true_or,Bool.or_true]
theorem Hq (L:Addr) (n sd v:Int):putK (fd L n sd) (Sum.inr ("seed":Str)) (.int v)=fd L n v:=by
 unfold putK fd
 have a1:¬((Sum.inr ("left":Str):Key)=Sum.inr ("seed":Str)):=by decide+kernel
 have a2:¬((Sum.inr ("number":Str):Key)=Sum.inr ("seed":Str)):=by decide+kernel
 simp only[List.any_cons,List.any_nil,List.map_cons,List.map_nil,a1,a2,if_false,if_true,decide_true,decide_false,Bool.true_or,Bool.or_true]
structure bp (H:Hp) (F L:Addr):Prop where
 ex:∃(ms:List Int) (n sd:Int),H F=some (.dK (fd L n sd))∧H L=some (.lst (ms.map V.int))∧0≤n∧(∀m∈ms,0≤m)∧0≤sd∧sd<2147483648
theorem bp.same {H H':Hp} {F L:Addr} (h:bp H F L) (s:Same H H'):bp H' F L:=by
 obtain⟨ms,n,sd,a,b,c⟩:=h.ex
 exact⟨ms,n,sd,s _ _ a,s _ _ b,c⟩
def Jz:Sp:=fun vs H Q _=>∃(F L:Addr) (m:Nat),vs=[.ref F,.int m]∧bp H F L∧0<m∧m<2 ^ 1000∧∀(r:Nat) (H':Hp),r<m→cB F L H H'→bp H' F L→Q (.int (r:Nat)) H'
section
variable {P:Program} {w:World} {K:PySem.W.Frag} {mg:Str→Option Value} {base:Heap}
theorem kJ:aS ["_law_feed_here","_law_many","_law_found","_law_one","_law_two"] ["_law_feed_here","_law_many"] (aj iA):=⟨rfl,rfl,rfl,by decide+kernel,rfl,by decide+kernel,by decide+kernel⟩
theorem kK {a:bW} (T:Txt K mg a):bf P w K mg base bT 1 a.mL a.ou ["_law_feed_here","_law_many"] Jz:=by
 refine T.Ef.ok kJ (fun vs H Q E h=>?_) (fun cdv A outer s H vs Q E hr h=>?_)
 ·obtain⟨F,L,m,rfl,_⟩:=h
  rfl
 ·obtain⟨F,L,many,rfl,hf,hm0,hm1,k⟩:=h
  refine⟨_,(ah (ip PassesOwn.never (PW.pt (qb (bo hJ (d9 (cY hr) (pv 0) bG (fun _ _=>rfl)) ao (aU _)) (oR (bo (IL K hr.units) (d9 (cY hr) (pv 0) bG (fun _ _=>rfl)) (bz ag) (aU _)))))
   (au (jE (cY hr) (pv 0) bG (A4 PySem.F.plainAttrs_list PySem.F.slot_list_pop PySem.F.type_list_pop A5 (d9 (cY hr) (pv 0) bG (fun _ _=>rfl))) rfl)))
  (ah (cX (bo qh (d9 (cY hr) (pv 0) bG (fun _ _=>rfl)) ao (aU _))
   (ah (av (i:=2) kJ.nd rfl (Or.inl rfl) (aG gL (d9 (cY hr) (pv 0) bG (fun _ _=>rfl)) (pv 1)))
   (ah (jE (cY hr) (pv 0) bG (aG pK (d9 (cY hr) (pv 0) bG (fun _ _=>rfl)) (pv 1)) rfl)
   (au (aR (pv 2)))))
   bR)
  (ah (av (i:=3) kJ.nd rfl (Or.inl rfl) (aG gL (aG cP (aG fm (d9 (cY hr) (pv 0) bG (fun _ _=>rfl)) ao) ao) ao))
  (ah (jE (cY hr) (pv 0) bG (aG gL (aG cP (aG fm (pv 3) ao) ao) ao) rfl)
  (ah (av (i:=4) kJ.nd rfl (Or.inl rfl) (aG gL (aG fm (d9 (cY hr) (pv 0) bG (fun _ _=>rfl)) (d9 (cY hr) (pv 0) bG (fun _ _=>rfl))) ao))
  (au (aR (aG gL (aG cP (aG fm (aG gL (aG fm (pv 3) (pv 3)) ao) ao) (pv 4)) (pv 1))))))))),?_⟩
  obtain⟨S5,n0,S6,e0,l0,hn0,PL,hs0,hs1⟩:=hf.ex
  have yF:F≠L:=kg e0 l0 (fun z=>nomatch z)
  have put:∀{H':Hp} {kv:List (Key×V)},H' F=some (.dK kv)→kv.length=3→kv.length<sizeLine:=fun _ z=>by rw[z];decide
  refine yC (fun m σ H'=>∃(ms:List Int) (n sd:Int),m=ms.length∧σ=[some (.ref F),some (.int (many:Nat)),none,none,none]∧cB F L H H'∧H' F=some (.dK (fd L n sd))∧H' L=some (.lst (ms.map V.int))∧0≤n∧(∀m∈ms,0≤m)∧0≤sd∧sd<2147483648)
   ⟨_,S5,n0,S6,rfl,rfl,fun b o e _ _=>e,e0,l0,hn0,PL,hs0,hs1⟩ ?_ ?_
  ·rintro m σ H1 ⟨ms,n,sd,rfl,rfl,k1,e1,l1,hn,hms,hs,hs'⟩
   have Ek:∀kv:List (Key×V),kv.length=3→kv.length<sizeLine:=fun kv z=>by rw[z];decide
   refine⟨_,rfl,F,.int n,rfl,iS (.inl e1) (i6 ..),rfl,_,rfl,?_⟩
   refine dk (fun hz=>?_) (fun hz=>?_)
   ·have hz':n=0:=V.int.inj (of_decide_eq_true hz)
    subst hz'
    refine⟨_,rfl,F,.ref L,rfl,iS (.inl e1) (yD ..),by decide,fun E hE=>?_⟩
    have sE:=Same.new (o:=.lst []) hE
    have e2:=sE _ _ e1
    have l2:=sE _ _ l1
    have k2:cB F L H (upd H1 E (.lst [])):=k1.trans sE.kb2
    refine⟨⟨.lst (ms.map .int),.lst [],oU (.of l2) (nZ ms),oU (.of af) vO,rfl,rfl,?dep,_,rfl,?_⟩,.lst (ms.map .int),.lst [],oU (.of l2) (nZ ms),oU (.of af) vO,.inr ⟨_,_,rfl,rfl⟩⟩
    case dep=>rw[Dt.dep,tU];decide
    have eb:(if true=true then !(Dt.lst (ms.map .int)).beq (.lst []) else(Dt.lst (ms.map .int)).beq (.lst []))=decide (ms≠[]):=by
     rw[if_pos rfl,Dt.beq]
     cases ms with
     | nil=>simp[Dt.eX]
     | cons y ys=>simp[Dt.eX]
    rw[eb]
    generalize upd H1 E (.lst [])=H2 at e2 l2 k2 ⊢
    refine dk (fun hne=>?_) (fun hem=>?_)
    ·have hne':ms≠[]:=of_decide_eq_true hne
     have hl:0<ms.length:=List.length_pos_iff.mpr hne'
     obtain⟨x,hx⟩:∃x,ms[ms.length-1]? =some x:=⟨_,List.getElem?_eq_getElem (by omega)⟩
     have hx0:=hms x (List.mem_of_getElem? hx)
     refine⟨_,rfl,F,.ref L,rfl,iS (.inl e2) (yD ..),.inl ⟨rfl,_,.of l2⟩,L,_,.int x,rfl,rfl,l2,by rw[List.length_map,List.getElem?_map,hx];rfl,?_⟩
     have e3:(upd H2 L (.lst (ms.map V.int).dropLast)) F=some (.dK (fd L 0 sd)):=by rw[ak yF];exact e2
     refine⟨_,rfl,F,_,rfl,jc.k (k:=Sum.inr ("number":Str)) e3 (Ek _ rfl),?_⟩
     refine⟨ms.dropLast.length,by rw[List.length_dropLast];omega,ms.dropLast,x,sd,rfl,rfl,?_,?_,?_,hx0,fun m hm=>hms m (List.dropLast_subset _ hm),hs,hs'⟩
     ·exact k2.trans ((KB.r KB.write).trans (KB.l KB.write))
     ·rw[af,yE]
     ·rw[ak yF.symm,af,List.map_dropLast]
    ·
     refine⟨_,rfl,F,.int 0,rfl,iS (.inl e2) (i6 ..),_,_,rfl,rfl,_,rfl,?_⟩
     refine dk (fun z=>absurd (of_decide_eq_true z) (by decide)) (fun _=>?_)
     refine⟨_,rfl,F,.int sd,rfl,iS (.inl e2) (rZ ..),_,_,rfl,rfl,.inr (by constructor<;>decide),_,_,rfl,rfl,_,_,rfl,rfl,cpos (by decide),?_⟩
     have o0:0≤(sd*48271+7919) % 2147483647:=Int.emod_nonneg _ (by decide)
     have o1:(sd*48271+7919) % 2147483647<2147483647:=Int.emod_lt_of_pos _ (by decide)
     dsimp only[ay]
     generalize (sd*48271+7919) % 2147483647=one at o0 o1 ⊢
     refine⟨_,rfl,_,_,rfl,rfl,.inr (by constructor<;>decide),_,_,rfl,rfl,_,_,rfl,rfl,cpos (by decide),_,rfl,F,_,rfl,jc.k (k:=Sum.inr ("seed":Str)) e2 (Ek _ rfl),?_⟩
     have t0:0≤(one*40692+104729) % 2147483399:=Int.emod_nonneg _ (by decide)
     have t1:(one*40692+104729) % 2147483399<2147483399:=Int.emod_lt_of_pos _ (by decide)
     rw[Hq]
     generalize (one*40692+104729) % 2147483399=s2 at t0 t1 ⊢
     have e3:(upd H2 F (.dK (fd L 0 s2))) F=some (.dK (fd L 0 s2)):=af
     have l3:(upd H2 F (.dK (fd L 0 s2))) L=some (.lst (ms.map V.int)):=by rw[ak yF.symm];exact l2
     have k3:cB F L H (upd H2 F (.dK (fd L 0 s2))):=k2.trans (KB.l KB.write)
     generalize upd H2 F (.dK (fd L 0 s2))=H3 at e3 l3 k3 ⊢
     refine⟨_,rfl,F,.int s2,rfl,iS (.inl e3) (rZ ..),_,rfl,F,.int s2,rfl,iS (.inl e3) (rZ ..),_,_,rfl,rfl,.inl (by constructor<;>omega),_,_,rfl,rfl,cpos (by decide),?_⟩
     refine⟨_,rfl,_,rfl,_,_,rfl,rfl,.inl (by constructor<;>omega),_,_,rfl,rfl,cpos (by decide),_,_,rfl,rfl,.inr (by constructor<;>decide),_,rfl,_,_,rfl,rfl,_,rfl,_,_,rfl,rfl,cpos (by omega),?_⟩
     have f0:0≤(one*one % 2147483629*2147483563+s2*s2 % 2147483563) % (many:Int):=Int.emod_nonneg _ (by omega)
     have f1:(one*one % 2147483629*2147483563+s2*s2 % 2147483563) % (many:Int)<(many:Int):=Int.emod_lt_of_pos _ (by omega)
     obtain⟨r,hr'⟩:∃r:Nat,(one*one % 2147483629*2147483563+s2*s2 % 2147483563) % (many:Int)=(r:Int):=⟨_,(Int.toNat_of_nonneg f0).symm⟩
     have:=k r H3 (by omega) k3 ⟨ms,0,s2,e3,l3,Int.le_refl _,hms,t0,by omega⟩
     rw[←hr'] at this
     exact this
   ·
    have hn0':0<n:=by
     have:n≠0:=fun z=>hz (by rw[z];simp)
     omega
    refine cm ⟨_,rfl,F,.int n,rfl,iS (.inl e1) (i6 ..),_,_,rfl,rfl,_,rfl,?_⟩
    refine dk (fun _=>?_) (fun z=>absurd (decide_eq_true hn0') z)
    refine⟨_,rfl,F,.int n,rfl,iS (.inl e1) (i6 ..),_,rfl,_,_,rfl,rfl,cpos (by omega),?_⟩
    refine⟨_,rfl,F,.int n,rfl,iS (.inl e1) (i6 ..),_,rfl,_,_,rfl,rfl,⟨by omega,?log⟩,_,rfl,F,_,rfl,jc.k (k:=Sum.inr ("number":Str)) e1 (Ek _ rfl),?_⟩
    case log=>
     rw[Int.natAbs_natCast,Nat.log2_lt (by omega)]
     exact Nat.lt_of_lt_of_le hm1 (Nat.pow_le_pow_right (by decide) (by decide))
    refine⟨_,rfl,?_⟩
    have f0:0≤n % (many:Int):=Int.emod_nonneg _ (by omega)
    have f1:n % (many:Int)<(many:Int):=Int.emod_lt_of_pos _ (by omega)
    obtain⟨r,hr'⟩:∃r:Nat,n % (many:Int)=(r:Int):=⟨_,(Int.toNat_of_nonneg f0).symm⟩
    rw[yE]
    have:=k r (upd H1 F (.dK (fd L (n / (many:Int)) sd))) (by omega) (k1.trans (KB.l KB.write)) ⟨ms,n / (many:Int),sd,af,by rw[ak yF.symm];exact l1,Int.ediv_nonneg hn (by omega),hms,hs,hs'⟩
    rw[←hr'] at this
    exact this
  ·rintro σ H Q Q' hQ ⟨v,e1,a,y,e2,e3,e4,b,e5,q⟩
   refine⟨v,e1,a,y,e2,e3,e4,b,e5,?_⟩
   revert q
   cases b with
   | false=>exact fun q=>hQ _ _ q
   | true=>
    rintro⟨v,e1,a,y,e2,e3,z,q⟩
    refine⟨v,e1,a,y,e2,e3,z,fun p hp=>?_⟩
    obtain⟨⟨d,d',a1,a2,a3,a4,a5,b,a6,q⟩,z2⟩:=q p hp
    exact⟨⟨d,d',a1,a2,a3,a4,a5,b,a6,hQ _ _ q⟩,z2⟩
def JA (K:PySem.W.Frag):Sp:=fun vs H Q _=>∃(a:Addr) (ns:List Int),vs=[.ref a]∧br K H a (ns.map V.int)∧ns.length≤63∧∀(F L:Addr) (H':Hp),H F=none→H L=none→Same H H'→bp H' F L→Q (.ref F) H'
theorem Hr (ms:List Int) (n:Nat):gi (ms.map V.int) none (some (n:Int))=(ms.take n).map V.int:=by
 unfold gi
 rw[show HT.aV (ms.map V.int).length 0 none=0 from rfl,HT.rq]
 rw[List.drop_zero,List.length_map,Nat.sub_zero,←List.map_take]
 congr 1
 by_cases h:n≤ms.length
 ·rw[Nat.min_eq_left h]
 ·rw[Nat.min_eq_right (by omega),List.take_of_length_le (Nat.le_refl _),List.take_of_length_le (by omega)]
theorem Em (L:Addr) (n sd:Int):jU [] (fd L n sd)=fd L n sd:=by
 have a1:¬((Sum.inr ("left":Str):Key)=Sum.inr ("number":Str)):=by decide+kernel
 have a2:¬((Sum.inr ("left":Str):Key)=Sum.inr ("seed":Str)):=by decide+kernel
 have a3:¬((Sum.inr ("number":Str):Key)=Sum.inr ("seed":Str)):=by decide+kernel
 unfold jU fd
 simp only[List.foldl_cons,List.foldl_nil]
 rw[mB _ pI]
 rw[mB _ (show cD ([]++[((Sum.inr ("left":Str):Key),V.ref L)]) (Sum.inr ("number":Str))=none from(cE a1).trans pI)]
 rw[mB _ (show cD ([]++[((Sum.inr ("left":Str):Key),V.ref L)]++[((Sum.inr ("number":Str):Key),V.int n)]) (Sum.inr ("seed":Str))=none from(cE a2).trans ((cE a3).trans pI))]
 rfl
theorem i7:aS ["_law_script","_law_seed","_law_cell","_law_great"] ["_law_script"] (aj gG):=⟨rfl,rfl,rfl,by decide+kernel,rfl,by decide+kernel,by decide+kernel⟩
theorem Cd {a:bW} (T:Txt K mg a):bf P w K mg base bT 1 a.mK a.ot ["_law_script"] (JA K):=by
 refine T.Eb.ok i7 (fun vs H Q E h=>?_) (fun cdv A outer s H vs Q E hr h=>?_)
 ·obtain⟨sa,ns,rfl,_⟩:=h
  rfl
 ·obtain⟨sa,ns,rfl,hS,hns,k⟩:=h
  refine⟨_,(ah (av (i:=1) i7.nd rfl (Or.inl rfl) ao)
  (ah (bq PassesOwn.never rfl (cb (gD (vL K) (pv 0) d_ (fP ao))) (az (i:=2) i7.nd rfl (Or.inl rfl))
   (au (av (i:=1) i7.nd rfl (Or.inl rfl) (aG gL (aG cP (aG fm (pv 1) ao) (pv 2)) ao))))
  (ah (eV (i:=3) (aI.mk' (esc:=aj gG) (N:=["_law_script","_law_seed","_law_cell","_law_great"]) (own:=["_law_cell"]) (aF:=[]) (bJ:=[]) rfl rfl (by decide+kernel)) rfl (cb (gD (vL K) (pv 0) d_ (fP ao))) (fun _ _ _ _=>(az (i:=0) (show List.Nodup (["_law_cell"]:List Str) by decide+kernel) rfl (Or.inl rfl))) (fun _ _ _ _=>(jV (bo MA (aA vq (by rfl) T.FA Be (ae (pv 0) ag)) (aG Ib ao ao) (aU _)))) (fun _ _ _ _=>(aA vq (by rfl) T.FA Be (ae (pv 0) ag))) i7.nd rfl rfl)
  (au (aR (GY (mC bG (G3 K (pv 3) d_ d_ (fP (u_ qg ao))) (mC bG ao (mC bG (pv 1) yk))) rfl rfl (fun z=>nomatch z) (by decide))))))),?_⟩
  have ec:gi (ns.map V.int) none (some (63:Int))=(ns.take 63).map V.int:=by rw[show(some (63:Int))=some ((63:Nat):Int) from rfl,Hr]
  dsimp only[nK,kX,tC,ay]
  refine⟨_,rfl,_,rfl,sa,_,rfl,hS,fun p hp=>?_⟩
  rw[ec]
  have sp:=Same.new (o:=.lst ((ns.take 63).map V.int)) hp
  refine⟨p,rfl,⟨_,.of af⟩,iq (xs:=(ns.take 63).map V.int) (fun i σ H'=>∃(sd:Int) (v2:Option V),σ=[some (.ref sa),some (.int sd),v2,none]∧H'=upd H p (.lst ((ns.take 63).map V.int))∧0≤sd∧sd<2147483648)
   ⟨7919,none,rfl,rfl,by decide,by decide⟩ (fun i σ H' _ ⟨_,_,_,e,_⟩=>by rw[e];exact .of af) ?_ ?_⟩
  ·rintro i x σ H1 hx ⟨sd,v2,rfl,rfl,h0,h1⟩
   obtain⟨c,rfl,_⟩:=rF hx
   refine⟨_,rfl,_,_,rfl,rfl,.inr (by constructor<;>decide),_,rfl,_,_,rfl,rfl,_,_,rfl,rfl,cpos (by decide),_,_,rfl,rfl,Int.emod_nonneg _ (by decide),?_⟩
   have:=Int.emod_lt_of_pos (sd*69621+c) (show(0:Int)<2147483647 by decide)
   omega
  rintro σ H1 ⟨sd,v2,rfl,rfl,h0,h1⟩
  generalize upd H p (.lst ((ns.take 63).map V.int))=H1 at sp ⊢
  refine⟨_,rfl,_,rfl,sa,_,rfl,sp.seq hS,fun p2 hp2=>?_⟩
  rw[ec]
  have NK:=Same.new (o:=.lst ((ns.take 63).map V.int)) hp2
  refine⟨p2,rfl,⟨_,.of af⟩,fun C hC=>?_⟩
  have nC:p2≠C:=aq af hC
  have S7:H1 C=none:=NK.free hC
  refine dH (xs:=(ns.take 63).map V.int) (fun i σ H'=>∃(v:Option V) (ms:List Int),σ=[v]∧Same H1 H'∧H' p2=some (.lst ((ns.take 63).map V.int))∧H' C=some (.lst (ms.map V.int))∧(∀m∈ms,0≤m)∧ms.length≤i)
   ⟨none,[],?sg,NK.trans (Same.new hC),(Same.new hC) _ _ af,af,(fun m hm=>by cases hm),Nat.le_refl _⟩ (fun i σ H' _ ⟨_,_,_,_,h,_⟩=>.of h) ?_ ?_
  case sg=>rfl
  ·rintro i x σ H2 hx ⟨v,ms,rfl,s2,e2,c2,hms,lm⟩
   obtain⟨c,rfl,hc⟩:=rF hx
   have hi:i<(ns.take 63).length:=(List.getElem?_eq_some_iff.mp hc).1
   rw[List.length_take] at hi
   refine⟨_,rfl,c,rfl,_,_,rfl,rfl,⟨by decide,by decide,by decide⟩,_,_,rfl,rfl,_,rfl,?_⟩
   refine dk (fun _=>?_) (fun _=>⟨_,ms,rfl,s2,e2,c2,hms,by omega⟩)
   refine⟨_,rfl,c,rfl,_,c2,?_,_,ms++[if c<0 then-c else c],rfl,s2.kbn S7 KB.write,by rw[ak nC];exact e2,?_,?_,?_⟩
   ·rw[List.length_map];exact Nat.lt_of_le_of_lt (show ms.length≤100 by omega) (by decide)
   ·rw[af,List.map_append];rfl
   ·intro m hm
    rcases List.mem_append.mp hm with hm | hm
    ·exact hms m hm
    ·rw[List.mem_singleton.mp hm];split<;>omega
   ·rw[List.length_append];show ms.length+1≤i+1;omega
  rintro σ H2 ⟨v,ms,rfl,s2,e2,c2,hms,lm⟩
  have FC:=sp.trans s2
  refine fun F hF=>?_
  have sF:=Same.new (o:=.dK []) hF
  refine⟨_,rfl,_,rfl,_,rfl,C,_,rfl,rfl,rfl,rfl,.of (sF _ _ c2),fun L hL=>⟨_,rfl,?_⟩⟩
  have sL:=Same.new (o:=.lst (ms.map V.int).reverse) hL
  have yF:F≠L:=aq af hL
  refine⟨sL _ _ af,fd L 0 sd,rfl,(by show 3≤15;decide),?_⟩
  rw[Em]
  refine k F L _ (FC.free hF) ((FC.trans sF).free hL) (((FC.trans sF).trans sL).kbn (FC.free hF) KB.write) ⟨ms.reverse,0,sd,af,?_,Int.le_refl _,fun m hm=>hms m (List.mem_reverse.mp hm),h0,h1⟩
  rw[ak yF.symm,af,List.map_reverse]
def ai (ds:List Nat):List Int:=ds.map fun(d:Nat)=>(d:Int)
theorem wB (ds:List Nat) (i:Nat):(ai ds)[i]? =ds[i]?.map fun(d:Nat)=>(d:Int):=by simp[ai]
theorem fv {ds:List Nat} {i:Nat} {x:V} (h:((ai ds).map V.int)[i]? =some x):∃n:Nat,x=.int (n:Int)∧ds[i]? =some n:=by
 obtain⟨f,rfl,hf⟩:=rF h
 rw[wB] at hf
 cases e:ds[i]? with
 | none=>rw[e] at hf;cases hf
 | some n=>rw[e] at hf;exact⟨n,by rw[←Option.some.inj hf],rfl⟩
theorem lQ {rs:List Addr} {i:Nat} {x:V} (h:(rs.map V.ref)[i]? =some x):∃r,x=.ref r∧rs[i]? =some r:=by
 rw[List.getElem?_map] at h
 cases e:rs[i]? with
 | none=>rw[e] at h;cases h
 | some r=>rw[e] at h;exact⟨r,(Option.some.inj h).symm,rfl⟩
theorem take_snoc {α:Type} {xs:List α} {i:Nat} {x:α} (h:xs[i]? =some x):xs.take (i+1)=xs.take i++[x]:=by rw[List.take_add_one,h];rfl
theorem aD (ds:List Nat):(ai ds).length=ds.length:=by simp[ai]
theorem bj (xs ys:List Nat):ai (xs++ys)=ai xs++ai ys:=by simp[ai]
structure Moves (n b:Nat) (mv:List (List Nat)):Prop where
 len:mv.length=n
 lead:∀l∈mv,l.length=b∧∀x∈l,x<n
theorem item_at {α:Type} {xs:List α} {i:Nat} (d:α) (h:i<xs.length):xs[i]? =some (xs.getD i d):=by rw[List.getD_eq_getElem?_getD,List.getElem?_eq_getElem h];rfl
theorem dy {ds:List Nat} {i:Nat} (h:i<ds.length):((ai ds).map V.int)[i]? =some (.int (ds.getD i 0:Nat)):=by
 rw[List.getElem?_map,wB,item_at 0 h];rfl
theorem Moves.row {H:Hp} {n b:Nat} {mv:List (List Nat)} {ps:List Addr} (h:Moves n b mv) (tp:bX H ps (mv.map ai)) {r:Nat} (hr:r<n):
  ps[r]? =some (ps.getD r 0)∧H (ps.getD r 0)=some (.tup ((ai (mv.getD r [])).map V.int))∧(mv.getD r []).length=b:=by
 have lp:ps.length=n:=by rw[Paired.length tp,List.length_map,h.len]
 have hp:=item_at 0 (show r<ps.length by omega)
 obtain⟨l',hl',el⟩:=tp.get hp
 have hm:=item_at [] (show r<mv.length by rw[h.len];exact hr)
 rw[List.getElem?_map,hm] at hl'
 have:=Option.some.inj hl'
 subst this
 exact⟨hp,el,(h.lead _ (List.mem_of_getElem? hm)).1⟩
def fK (H:Hp) (ma nm:Addr) (bs:List Bool) (mv:List (List Nat)):Prop:=∃(ya va:Addr) (ps:List Addr),H ma=some (.tup [.ref nm,.ref ya,.ref va])∧H ya=some (.tup (bs.map V.bl))∧H va=some (.tup (ps.map V.ref))∧bX H ps (mv.map ai)
theorem fK.keep {H H':Hp} {ma nm:Addr} {bs:List Bool} {mv:List (List Nat)} (h:fK H ma nm bs mv) (k:a_ H H'):fK H' ma nm bs mv:=by
 obtain⟨ya,va,ps,h1,h2,h3,h4⟩:=h
 exact⟨ya,va,ps,k _ _ h1,k _ _ h2,k _ _ h3,h4.keep k⟩
theorem En {bs:List Bool} {i:Nat} {x:V} (h:(bs.map V.bl)[i]? =some x):∃c,x=.bl c∧bs[i]? =some c:=by
 rw[List.getElem?_map] at h
 obtain⟨c,e,rfl⟩:=Option.map_eq_some_iff.mp h
 exact⟨c,rfl,e⟩
def stp (mv:List (List Nat)) (r a:Nat):Nat:=(mv.getD r []).getD a 0
def run (mv:List (List Nat)):Nat→List Nat→Nat
 | r,[]=>r
 | r,a::w=>run mv (stp mv r a) w
def lang (bs:List Bool) (mv:List (List Nat)) (r:Nat) (w:List Nat):Bool:=bs.getD (run mv r w) false
def cN (B:Nat) (w:List Nat):Prop:=∀a∈w,a<B
theorem cN.nil (B:Nat):cN B []:=fun a h=>by cases h
theorem cN.cons {B a:Nat} {w:List Nat} (h:a<B) (hw:cN B w):cN B (a::w):=fun x hx=>(List.mem_cons.mp hx).elim (fun e=>e▸h) (hw x)
theorem cN.app {B:Nat} {v w:List Nat} (hv:cN B v) (hw:cN B w):cN B (v++w):=fun x hx=>(List.mem_append.mp hx).elim (hv x) (hw x)
theorem Moves.stp {n B:Nat} {mv:List (List Nat)} (m:Moves n B mv) {r a:Nat} (hr:r<n) (ha:a<B):stp mv r a<n:=by
 unfold My.stp
 have h1:mv[r]? =some (mv.getD r []):=item_at [] (by rw[m.len];exact hr)
 obtain⟨h2,h3⟩:=m.lead _ (List.mem_of_getElem? h1)
 have h4:=item_at 0 (show a<(mv.getD r []).length by rw[h2];exact ha)
 exact h3 _ (List.mem_of_getElem? h4)
def cg:List Nat→Nat→Option Nat
 | [],s=>some s
 | t::l,s=>if t<s then cg l s else if t=s then cg l (s+1) else none
def eE:List (List Nat)→Nat→Nat→Option Nat
 | [],_,s=>some s
 | r::rs,i,s=>if i<s then(cg r s).bind fun s'=>eE rs (i+1) s' else none
theorem kN:∀(l:List Nat) (t s:Nat),cg (l++[t]) s=(cg l s).bind fun s'=>cg [t] s'
 | [],_,_=>rfl
 | x::l,t,s=>by
  show cg (x::(l++[t])) s=(cg (x::l) s).bind _
  simp only[cg]
  by_cases h:x<s
  ·rw[if_pos h,if_pos h];exact kN l t s
  ·rw[if_neg h,if_neg h]
   by_cases h2:x=s
   ·rw[if_pos h2,if_pos h2];exact kN l t (s+1)
   ·rw[if_neg h2,if_neg h2];rfl
theorem qM:∀(rs:List (List Nat)) (r:List Nat) (i s:Nat),eE (rs++[r]) i s=(eE rs i s).bind fun s'=>if i+rs.length<s' then cg r s' else none
 | [],r,i,s=>by
  show(if i<s then(cg r s).bind fun s'=>some s' else none)=if i+0<s then cg r s else none
  rw[Nat.add_zero]
  split
  ·cases cg r s<;>rfl
  ·rfl
 | x::rs,r,i,s=>by
  show(if i<s then(cg x s).bind fun s'=>eE (rs++[r]) (i+1) s' else none)=(if i<s then(cg x s).bind fun s'=>eE rs (i+1) s' else none).bind _
  by_cases h:i<s
  ·rw[if_pos h,if_pos h]
   cases cg x s with
   | none=>rfl
   | some s'=>
    show eE (rs++[r]) (i+1) s'=(eE rs (i+1) s').bind _
    rw[qM rs r (i+1) s']
    congr 1
    funext q
    rw[List.length_cons,show i+1+rs.length=i+(rs.length+1) by omega]
  ·rw[if_neg h,if_neg h];rfl
def dD {α:Type} (on:α→Nat→α):α→List Nat→α
 | x,[]=>x
 | x,a::w=>dD on (on x a) w
theorem wC {α:Type} (on:α→Nat→α):∀(v w:List Nat) (x:α),dD on x (v++w)=dD on (dD on x v) w
 | [],_,_=>rfl
 | a::v,w,x=>wC on v w (on x a)
structure bZ {α:Type} (x0:α) (on:α→Nat→α) (m:Nat) (xs:List α) (mv:List (List Nat)):Prop where
 once:xs.Nodup
 first:xs[0]? =some x0
 reach:∀x∈xs,∃w,cN m w∧x=dD on x0 w
 row:∀(i:Nat) (r:List Nat),mv[i]? =some r→r.length=m∧∃x,xs[i]? =some x∧∀(c t:Nat),r[c]? =some t→xs[t]? =some (on x c)
 go:eE mv 0 1=some xs.length
theorem bZ.dJ {α:Type} {x0:α} {on:α→Nat→α} {m:Nat} {xs:List α} {mv:List (List Nat)} (g:bZ x0 on m xs mv) (h:mv.length=xs.length):Moves xs.length m mv:=by
 refine⟨h,fun l hl=>?_⟩
 obtain⟨i,hi⟩:=List.getElem?_of_mem hl
 obtain⟨h1,x,_,h2⟩:=g.row i l hi
 refine⟨h1,fun t ht=>?_⟩
 obtain⟨c,hc⟩:=List.getElem?_of_mem ht
 exact(List.getElem?_eq_some_iff.mp (h2 c t hc)).1
theorem bZ.run {α:Type} {x0:α} {on:α→Nat→α} {m:Nat} {xs:List α} {mv:List (List Nat)} (g:bZ x0 on m xs mv) (h:mv.length=xs.length):∀(w:List Nat) (i:Nat) (x:α),xs[i]? =some x→cN m w→xs[run mv i w]? =some (dD on x w)
 | [],_,_,e,_=>e
 | a::w,i,x,e,hw=>by
  have hi:=(List.getElem?_eq_some_iff.mp e).1
  have ha:=hw a List.mem_cons_self
  have h1:=item_at [] (show i<mv.length by omega)
  obtain⟨l1,y,ey,h2⟩:=g.row i _ h1
  rw[e] at ey
  have:=Option.some.inj ey
  subst this
  have h3:=item_at 0 (show a<(mv.getD i []).length by rw[l1];exact ha)
  exact bZ.run g h w _ _ (h2 a _ h3) fun z hz=>hw z (List.mem_cons_of_mem _ hz)
theorem Ce (xs:List Nat) (i y:Nat):((ai xs).map V.int).set i (.int (y:Nat))=(ai (xs.set i y)).map V.int:=by
 rw[ai,ai,List.map_set,List.map_set]
theorem JB {n i:Nat} (h:i<n):ng n (i:Int)=some i:=by
 unfold ng
 rw[if_pos (by omega),if_pos (by omega),Int.toNat_natCast]
theorem iT {α β:Type} {F:α→β→Prop} {l:List α} {m:List β} {a:α} {b:β} (h:Paired F l m) (r:F a b):Paired F (l++[a]) (m++[b]):=by
 induction h with
 | nil=>exact .cons r .nil
 | cons q t ih=>exact .cons q ih
def lets (b:Nat):Nat→List (List Int)
 | 0=>[[]]
 | n+1=>(lets b n).flatMap fun l=>(List.range b).map fun(f:Nat)=>l++[(f:Int)]
theorem dX (b:Nat):∀n,(lets b n).length=b ^ n
 | 0=>rfl
 | n+1=>by
  show((lets b n).flatMap fun l=>(List.range b).map fun(f:Nat)=>l++[(f:Int)]).length=_
  rw[List.length_flatMap]
  have:(List.map (fun l:List Int=>((List.range b).map fun(f:Nat)=>l++[(f:Int)]).length) (lets b n))=List.replicate (lets b n).length b:=by
   rw[List.map_congr_left (g:=fun _=>b) (fun l _=>by simp)]
   exact List.map_const' ..
  rw[this,List.sum_replicate_nat,dX b n,Nat.pow_succ]
theorem pY (b:Nat):∀(n:Nat) (l:List Int),l∈lets b n→l.length=n
 | 0,l,h=>by
  have h':l∈[([]:List Int)]:=h
  simp at h';subst h';rfl
 | n+1,l,h=>by
  have h':l∈(lets b n).flatMap fun l=>(List.range b).map fun(f:Nat)=>l++[(f:Int)]:=h
  obtain⟨l',h1,h2⟩:=List.mem_flatMap.mp h'
  obtain⟨f,_,rfl⟩:=List.mem_map.mp h2
  rw[List.length_append,pY b n l' h1];rfl
theorem wD (b:Nat) (ls:List (List Int)):(ls.flatMap fun l=>(List.range b).map fun(f:Nat)=>l++[(f:Int)]).length=ls.length*b:=by
 rw[List.length_flatMap]
 have:(List.map (fun l:List Int=>((List.range b).map fun(f:Nat)=>l++[(f:Int)]).length) ls)=List.replicate ls.length b:=by
  rw[List.map_congr_left (g:=fun _=>b) (fun l _=>by simp)]
  exact List.map_const' ..
 rw[this,List.sum_replicate_nat]
def uq:Sp:=fun vs H Q _=>∃(b n:Nat),vs=[.int b,.int n]∧b≤4∧n≤4∧∀(D:Addr) (ps:List Addr) (H':Hp),H D=none→Same H H'→H' D=some (.lst (ps.map V.ref))→bX H' ps (lets b n)→Q (.ref D) H'
theorem dA:aS ["base","many","letters","spot","longer","letter"] ["base","many"] (aj dn):=⟨rfl,rfl,rfl,by decide+kernel,rfl,by decide+kernel,by decide+kernel⟩
theorem cp {b n:Nat} (hb:b≤4) (hn:n≤4):b ^ n≤256:=
 Nat.le_trans (Nat.pow_le_pow_left hb n) (Nat.pow_le_pow_right (by decide) hn)
theorem fY {a:bW} (T:Txt K mg a):bf P w K mg base bT 1 a.gn a.iC ["base","many"] uq:=by
 refine T.uL.ok dA (fun vs H Q E h=>?_) (fun cdv A outer s H vs Q E hr h=>?_)
 ·obtain⟨b,n,rfl,_⟩:=h
  rfl
 ·obtain⟨b,n,rfl,hb,hn,k⟩:=h
  refine⟨_,(ah (av (i:=2) dA.nd rfl (Or.inl rfl) (bz (ae (bP ag) ag)))
  (ah (bq PassesOwn.never rfl (bM rfl T.cq (ae (pv 1) ag)) (az (i:=3) dA.nd rfl (Or.inl rfl))
   (ah (av (i:=4) dA.nd rfl (Or.inl rfl) (bz ag))
   (ah (bq PassesOwn.never rfl (cb (pv 2)) (az (i:=5) dA.nd rfl (Or.inr rfl))
    (au (bt (cf PySem.F.plainAttrs_list PySem.F.slot_list_extend PySem.F.type_list_extend kj (pv 4) (ae (cF (aI.mk' (esc:=aj dn) (N:=["base","many","letters","spot","longer","letter"]) (own:=["figure"]) (aF:=["letter"]) (bJ:=[5]) rfl rfl (by decide+kernel)) rfl (bM rfl T.cq (ae (pv 0) ag)) (fun _ _ _ _=>(az (i:=0) (show List.Nodup (["figure","letter"]:List Str) by decide+kernel) rfl (Or.inl rfl))) (fun _ _ _ _=>bU) (fun _ _ _ _=>(aG (vM K) (pv 1) (bP (ae (pv 0) ag))))) ag)))))
   (au (av (i:=2) dA.nd rfl (Or.inl rfl) (pv 4))))))
  (au (aR (pv 2))))),?_⟩
  refine⟨by decide,fun p hp=>⟨by show 1≤sizeLine;decide,fun D hD=>?_⟩⟩
  have pA:H D=none:=(Same.new hp).free hD
  refine⟨_,rfl,n,rfl,by omega,by omega,kh (lo:=0) (n:=(n:Int).toNat) (fun i σ H'=>∃(D:Addr) (ps:List Addr) (v3 v4 v5:Option V),σ=[some (.int b),some (.int n),some (.ref D),v3,v4,v5]∧H D=none∧Same H H'∧H' D=some (.lst (ps.map V.ref))∧bX H' ps (lets b i))
   ⟨D,[p],none,none,none,rfl,pA,(Same.new hp).trans (Same.new hD),af,.cons (by rw[ak (aq (o:=.tup []) af hD)];exact af) .nil⟩ ?_ ?_⟩
  ·rintro i σ H1 hi ⟨D,ps,v3,v4,v5,rfl,hD,s1,eD,t1⟩
   rw[Int.toNat_natCast] at hi
   have lps:ps.length=b ^ i:=by rw[Paired.length t1,dX]
   have bi:b ^ i≤256:=cp hb (by omega)
   have S8:b ^ (i+1)≤256:=cp hb (by omega)
   refine⟨by decide,fun E hE=>?_⟩
   have Cf:H E=none:=s1.free hE
   have wF:D≠E:=aq eD hE
   refine⟨_,rfl,D,rfl,⟨ps.map V.ref,.of (by rw[ak wF];exact eD)⟩,iq (xs:=ps.map V.ref) (fun j σ H'=>∃(qs:List Addr) (v5:Option V),σ=[some (.int b),some (.int n),some (.ref D),some (.int (0+(i:Int))),some (.ref E),v5]∧
     Same H H'∧H' D=some (.lst (ps.map V.ref))∧bX H' ps (lets b i)∧H' E=some (.lst (qs.map V.ref))∧bX H' qs (((lets b i).take j).flatMap fun l=>(List.range b).map fun(f:Nat)=>l++[(f:Int)]))
    ⟨[],v5,rfl,s1.trans (Same.new hE),by rw[ak wF];exact eD,t1.keep (Same.new hE).kt,af,.nil⟩ (fun j σ H' _ ⟨_,_,_,_,h,_⟩=>.of h) ?_ ?_⟩
   ·rintro j y σ H2 hj ⟨qs,v5,rfl,s2,wG,t2,oB,u2⟩
    rw[List.getElem?_map] at hj
    cases ep:ps[j]? with
    | none=>rw[ep] at hj;cases hj
    | some p=>
     rw[ep] at hj
     have ey:y=.ref p:=(Option.some.inj hj).symm
     subst ey
     obtain⟨l,el,hl⟩:=t2.get ep
     have S9:j<ps.length:=(List.getElem?_eq_some_iff.mp ep).1
     refine⟨_,rfl,.inl ⟨rfl,_,.of oB⟩,_,rfl,b,rfl,by omega,by omega,fun C hC=>?_⟩
     have Ta:E≠C:=aq oB hC
     have Tb:D≠C:=aq wG hC
     refine fR (fun f σ H'=>∃(rs:List Addr) (v:Option V),σ=[v,some (.ref p)]∧Same H2 H'∧H' C=some (.lst (rs.map V.ref))∧bX H' rs ((List.range f).map fun(f:Nat)=>l++[(f:Int)]))
      ⟨[],none,rfl,Same.new hC,af,.nil⟩ ?_ ?_
     ·rintro f σ H3 hf ⟨rs,v,rfl,s3,lR,t3⟩
      refine⟨_,rfl,_,rfl,by show 1≤sizeLine;decide,fun q hq=>?_⟩
      have lrs:rs.length=f:=by rw[Paired.length t3];simp
      have wH:C≠q:=aq lR hq
      have ll:l.length=i:=pY b i l (List.mem_of_getElem? el)
      have e0:(0:Int)+(f:Int)=(f:Int):=by omega
      have hq2:H2 q=none:=s3.free hq
      have Cg:(rs.map V.ref).length<sizeLine:=by rw[List.length_map,lrs];exact Nat.lt_of_lt_of_le (show f<10 by omega) (by decide)
      have s4:Same H2 (upd H3 q (.tup [.int (0+(f:Int))])):=s3.trans (Same.new hq)
      have t4:=t3.keep (Same.new (o:=.tup [.int (0+(f:Int))]) hq).kt
      refine⟨p,q,l.map V.int,[.int (0+(f:Int))],rfl,rfl,.of (s4 _ _ hl),.of af,by simp,?_,fun hl0=>?_,fun hl0 r hr=>?_⟩
      ·rw[List.length_map,ll];exact Nat.le_trans (show i+1≤10 by omega) (by decide)
      ·have hl1:l=[]:=by cases l with | nil=>rfl | cons _ _=>cases hl0
       subst hl1
       have j7:(upd H3 q (.tup [.int (0+(f:Int))])) C=some (.lst (rs.map V.ref)):=by rw[ak wH];exact lR
       refine⟨rs.map V.ref,j7,Cg,rs++[q],_,rfl,?_,by rw[af,List.map_append];rfl,?_⟩
       ·exact s4.kbn hC KB.write
       ·rw[List.range_succ,List.map_append]
        refine bu (t4.keep (a_.lst j7)) (.cons (a_.lst j7 _ _ ?_) .nil)
        rw[af]
        simp
      ·have JC:C≠r:=aq (by rw[ak wH];exact lR) hr
       have j7:(upd (upd H3 q (.tup [.int (0+(f:Int))])) r (.tup (l.map V.int++[.int (0+(f:Int))]))) C=some (.lst (rs.map V.ref)):=by rw[ak JC,ak wH];exact lR
       refine⟨rs.map V.ref,j7,Cg,rs++[r],_,rfl,?_,by rw[af,List.map_append];rfl,?_⟩
       ·exact(s4.trans (Same.new hr)).kbn hC KB.write
       ·rw[List.range_succ,List.map_append]
        refine bu ((t4.keep (Same.new hr).kt).keep (a_.lst j7)) (.cons (a_.lst j7 _ _ ?_) .nil)
        rw[af]
        simp
     ·rintro σ H3 ⟨rs,v,rfl,s3,lR,t3⟩
      have lrs:rs.length=b:=by rw[Paired.length t3];simp
      have Td:qs.length≤1024:=by
       rw[Paired.length u2,wD,List.length_take]
       have:=Nat.mul_le_mul (show min j (lets b i).length≤256 by rw[dX];omega) hb
       omega
      have Ci:=s3 _ _ oB
      refine⟨E,C,qs.map V.ref,rs.map V.ref,rfl,rfl,Ci,lR,?_,?_⟩
      ·rw[List.length_map,List.length_map,lrs];exact Nat.le_trans (show qs.length+b≤2000 by omega) (by decide)
      ·have kt:=a_.lst (o:=.lst (qs.map V.ref++rs.map V.ref)) Ci
       refine⟨qs++rs,_,rfl,(s2.trans s3).kbn Cf KB.write,?_,(t2.keep s3.kt).keep kt,?_,?_⟩
       ·rw[ak wF];exact s3 _ _ wG
       ·rw[af,List.map_append]
       ·have e1:(lets b i).take (j+1)=(lets b i).take j++[l]:=by rw[List.take_add_one,el];rfl
        rw[e1,List.flatMap_append]
        refine bu ((u2.keep s3.kt).keep kt) ?_
        rw[List.flatMap_singleton]
        have:=t3.keep kt
        rwa [show((b:Nat):Int).toNat=b from Int.toNat_natCast b] at this
   ·rintro σ H2 ⟨qs,v5,rfl,s2,wG,t2,oB,u2⟩
    refine⟨_,rfl,E,qs,_,_,_,rfl,Cf,s2,oB,?_⟩
    have e1:(lets b i).take (ps.map V.ref).length=lets b i:=by rw[List.length_map,Paired.length t2];exact List.take_length ..
    rw[e1] at u2
    exact u2
  ·rintro σ H1 ⟨D,ps,v3,v4,v5,rfl,hD,s1,eD,t1⟩
   exact⟨_,rfl,k D ps H1 hD s1 eD (by rwa [Int.toNat_natCast] at t1)⟩
def fl (b:Nat):Nat→Nat→List Nat
 | 0,_=>[]
 | n+1,L=>fl b n (L / b)++[L % b]
theorem fq (b:Nat):∀n L,(fl b n L).length=n
 | 0,_=>rfl
 | n+1,L=>by rw[fl,List.length_append,fq b n];rfl
theorem mS {b:Nat} (hb:0<b):∀n L,∀d∈fl b n L,d<b
 | 0,_,d,h=>by cases h
 | n+1,L,d,h=>by
  rw[fl] at h
  rcases List.mem_append.mp h with h | h
  ·exact mS hb n _ d h
  ·have:d=L % b:=by simpa using h
   rw[this];exact Nat.mod_lt _ hb
def lst (b:Nat) (acc:Nat) (ds:List Nat):Nat:=ds.foldl (fun l d=>l*b+d) acc
theorem j8 (b acc d:Nat) (ds:List Nat):lst b acc (d::ds)=lst b (acc*b+d) ds:=rfl
theorem Cj {b:Nat}:∀(ds:List Nat) (k acc:Nat),(∀d∈ds,d<b)→fl b (k+ds.length) (lst b acc ds)=fl b k acc++ds
 | [],k,acc,_=>by simp[lst]
 | d::t,k,acc,h=>by
  have hd:d<b:=h d List.mem_cons_self
  rw[j8,List.length_cons,show k+(t.length+1)=(k+1)+t.length by omega,Cj t (k+1) _ fun x hx=>h x (List.mem_cons_of_mem _ hx),fl]
  have e1:(acc*b+d) / b=acc:=by
   rw[Nat.mul_comm,Nat.mul_add_div (by omega),Nat.div_eq_of_lt hd];rfl
  have e2:(acc*b+d) % b=d:=by
   rw[Nat.mul_comm,Nat.mul_add_mod,Nat.mod_eq_of_lt hd]
  rw[e1,e2,List.append_assoc];rfl
theorem wI {b:Nat}:∀(ds:List Nat) (k acc:Nat),(∀d∈ds,d<b)→acc<b ^ k→lst b acc ds<b ^ (k+ds.length)
 | [],k,acc,_,h=>h
 | d::t,k,acc,h,ha=>by
  have hd:d<b:=h d List.mem_cons_self
  rw[j8,List.length_cons,show k+(t.length+1)=(k+1)+t.length by omega]
  refine wI t (k+1) _ (fun x hx=>h x (List.mem_cons_of_mem _ hx)) ?_
  rw[Nat.pow_succ]
  have:=Nat.mul_le_mul_right b (show acc+1≤b ^ k from ha)
  rw[Nat.add_mul,Nat.one_mul] at this
  omega
theorem yG {b:Nat} (hb:0<b) (g:List Int→Nat→List Int):∀(ls:List (List Int)) (i:Nat),(ls.flatMap fun l=>(List.range b).map (g l))[i]? =ls[i / b]?.map fun l=>g l (i % b)
 | [],i=>by simp
 | l::ls,i=>by
  rw[List.flatMap_cons]
  by_cases h:i<b
  ·rw[List.getElem?_append_left (by simpa using h),Nat.div_eq_of_lt h,Nat.mod_eq_of_lt h]
   simp[h]
  ·have e1:i / b=(i-b) / b+1:=by
    have:=Nat.sub_add_cancel (Nat.not_lt.mp h)
    conv=>lhs;rw[←this]
    exact Nat.add_div_right _ hb
   have e2:i % b=(i-b) % b:=Nat.mod_eq_sub_mod (Nat.not_lt.mp h)
   rw[List.getElem?_append_right (by simpa using Nat.not_lt.mp h),e1,e2]
   have:=yG hb g ls (i-b)
   simpa using this
theorem r_ {b:Nat} (hb:0<b):∀(n L:Nat),L<b ^ n→(lets b n)[L]? =some (ai (fl b n L))
 | 0,L,h=>by
  have:L=0:=by simpa using h
  subst this;rfl
 | n+1,L,h=>by
  show((lets b n).flatMap fun l=>(List.range b).map fun(f:Nat)=>l++[(f:Int)])[L]? =_
  rw[yG hb (fun l f=>l++[(f:Int)])]
  have h1:L / b<b ^ n:=by
   rw[Nat.div_lt_iff_lt_mul hb]
   rw[Nat.pow_succ] at h
   exact h
  rw[r_ hb n (L / b) h1]
  simp[ai,fl]
structure gH {α:Type} (x0:α) (on:α→Nat→α) (m:Nat) (xs:List α) (x:α) (leads:List Nat) (ys:List α):Prop where
 once:ys.Nodup
 pre:∃more,ys=xs++more
 reach:∀y∈ys,∃w,cN m w∧y=dD on x0 w
 at':∀(c t:Nat),leads[c]? =some t→ys[t]? =some (on x c)
 go:cg leads xs.length=some ys.length
theorem mT:∀(l:List Nat) (s s':Nat),cg l s=some s'→s'≤s+l.length
 | [],s,s',h=>by cases h;exact Nat.le_refl _
 | t::l,s,s',h=>by
  rw[cg] at h
  rw[List.length_cons]
  split at h
  ·have:=mT l s s' h;omega
  ·split at h
   ·have:=mT l (s+1) s' h;omega
   ·cases h
theorem jF {α:Type} {xs more:List α} {i:Nat} {x:α} (h:xs[i]? =some x):(xs++more)[i]? =some x:=by
 rw[List.getElem?_append_left (List.getElem?_eq_some_iff.mp h).1];exact h
section
variable {α:Type} {x0:α} {on:α→Nat→α} {m:Nat} {xs ys:List α} {mv:List (List Nat)} {x:α} {leads:List Nat}
theorem bZ.begin:bZ x0 on m [x0] []:=⟨by simp,rfl,fun x hx=>⟨[],.nil m,by rw[List.mem_singleton.mp hx];rfl⟩,fun i r h=>by simp at h,rfl⟩
theorem gH.start (g:bZ x0 on m xs mv):gH x0 on m xs x [] xs:=⟨g.once,⟨[],by simp⟩,g.reach,fun c t h=>by simp at h,rfl⟩
theorem gH.old (g:gH x0 on m xs x leads ys) {t:Nat} (h:ys[t]? =some (on x leads.length)):gH x0 on m xs x (leads++[t]) ys:=by
 have ht:=(List.getElem?_eq_some_iff.mp h).1
 refine⟨g.once,g.pre,g.reach,fun c u hu=>?_,?_⟩
 ·by_cases hc:c<leads.length
  ·rw[List.getElem?_append_left hc] at hu;exact g.at' c u hu
  ·have hb:=(List.getElem?_eq_some_iff.mp hu).1
   rw[List.length_append] at hb
   have e:c=leads.length:=by simp at hb;omega
   subst e
   rw[List.getElem?_append_right (Nat.le_refl _),Nat.sub_self] at hu
   have:=Option.some.inj hu
   subst this
   exact h
 ·rw[kN,g.go]
  show cg [t] ys.length=_
  simp only[cg]
  rw[if_pos ht]
theorem gH.new (g:gH x0 on m xs x leads ys) (hm:leads.length<m) (hx:∃w,cN m w∧x=dD on x0 w) (h:on x leads.length ∉ ys):gH x0 on m xs x (leads++[ys.length]) (ys++[on x leads.length]):=by
 obtain⟨more,e⟩:=g.pre
 refine⟨?_,⟨more++[on x leads.length],by rw[e,List.append_assoc]⟩,fun y hy=>?_,fun c u hu=>?_,?_⟩
 ·rw[List.nodup_append]
  exact⟨g.once,by simp,fun a ha b hb z=>h (by rw[←List.mem_singleton.mp hb,←z];exact ha)⟩
 ·rcases List.mem_append.mp hy with z | z
  ·exact g.reach y z
  ·rw[List.mem_singleton.mp z]
   obtain⟨w,hw,ex⟩:=hx
   exact⟨w++[leads.length],hw.app (.cons hm (.nil m)),by rw[wC,←ex];rfl⟩
 ·by_cases hc:c<leads.length
  ·rw[List.getElem?_append_left hc] at hu;exact jF (g.at' c u hu)
  ·have hb:=(List.getElem?_eq_some_iff.mp hu).1
   rw[List.length_append] at hb
   have e:c=leads.length:=by simp at hb;omega
   subst e
   rw[List.getElem?_append_right (Nat.le_refl _),Nat.sub_self] at hu
   have:=Option.some.inj hu
   subst this
   rw[List.getElem?_append_right (Nat.le_refl _),Nat.sub_self];rfl
 ·rw[kN,g.go,List.length_append]
  show cg [ys.length] ys.length=_
  simp only[cg]
  rw[if_neg (Nat.lt_irrefl _)]
  simp
theorem bZ.next (g:bZ x0 on m xs mv) (hx:xs[mv.length]? =some x) (r:gH x0 on m xs x leads ys) (hl:leads.length=m):bZ x0 on m ys (mv++[leads]):=by
 obtain⟨more,e⟩:=r.pre
 have hlt:=(List.getElem?_eq_some_iff.mp hx).1
 refine⟨r.once,by rw[e];exact jF g.first,r.reach,fun i row hr=>?_,?_⟩
 ·by_cases hi:i<mv.length
  ·rw[List.getElem?_append_left hi] at hr
   obtain⟨h1,y,h2,h3⟩:=g.row i row hr
   exact⟨h1,y,by rw[e];exact jF h2,fun c t ht=>by rw[e];exact jF (h3 c t ht)⟩
  ·have hb:=(List.getElem?_eq_some_iff.mp hr).1
   rw[List.length_append] at hb
   have ei:i=mv.length:=by simp at hb;omega
   subst ei
   rw[List.getElem?_append_right (Nat.le_refl _),Nat.sub_self] at hr
   have:=Option.some.inj hr
   subst this
   exact⟨hl,x,by rw[e];exact jF hx,r.at'⟩
 ·rw[qM,g.go]
  show(if 0+mv.length<xs.length then cg leads xs.length else none)=_
  rw[if_pos (by omega)];exact r.go
end
def eF {α:Type} (R:fS α) (H:Hp) (vs:List V) (xs:List α):Prop:=Paired (fun v x=>R.Rep x v H) vs xs
section
variable {α:Type} (R:fS α) (many:Nat) (on:α→Nat→α) (yes:α→Bool) (Ok:α→Prop) (Ev:Hp→Prop)
def wJ:Sp:=fun vs H Q _=>∃(x:α) (v:V) (a:Nat),vs=[v,.int a]∧R.Rep x v H∧Ok x∧a<many∧Ev H∧∀v' H',Same H H'→R.Rep (on x a) v' H'→Q v' H'
def Eo:Sp:=fun vs H Q _=>∃(x:α) (v:V),vs=[v]∧R.Rep x v H∧Ok x∧Ev H∧∀H',Same H H'→Q (.bl (yes x)) H'
def Hs (f1 f2:Addr):Sp:=fun vs H Q _=>∃(x0:α) (v0:V) (most:Nat),vs=[v0,.int many,.ref f1,.ref f2,.int most]∧R.Rep x0 v0 H∧Ok x0∧Ev H∧most≤10000∧many≤1000∧
 (∀(xs:List α) (H':Hp),Same H H'→xs.Nodup→(∀x∈xs,∃w,cN many w∧x=dD on x0 w)→most<xs.length→Q .non H')∧
 ∀(xs:List α) (mv:List (List Nat)) (vs:List V) (p Rr ya va:Addr) (ps:List Addr) (H':Hp),Same H H'→H Rr=none→mv.length=xs.length→xs.length≤most→bZ x0 on many xs mv→H' p=some (.tup [.ref Rr,.ref ya,.ref va])→H' Rr=some (.lst vs)→eF R H' vs xs→H' ya=some (.tup ((xs.map yes).map V.bl))→H' va=some (.tup (ps.map V.ref))→bX H' ps (mv.map ai)→Q (.ref p) H'
end
theorem jG {H:Hp} {a:Addr} {o o':HO} (h:H a=some o) (hn:∀l,o≠.tup l):a_ H (upd H a o'):=fun b xs e=>by
 rw[ak (kg e h fun z=>hn xs z.symm)];exact e
theorem Ck {H H':Hp} {a:Addr} {o:HO} (h:H a=some o) (hn:∀l,o≠.tup l) (k:KB a H H'):a_ H H':=fun b xs e=>k _ _ e (kg e h fun z=>hn xs z.symm)
theorem eF.keep {α:Type} {R:fS α} {H H':Hp} {vs:List V} {xs:List α} (h:eF R H vs xs) (k:a_ H H'):eF R H' vs xs:=Paired.pG h fun _ _ z=>R.same z k
theorem eF.at {α:Type} {R:fS α} {H:Hp}:∀{vs:List V} {xs:List α} {i:Nat} {x:α},eF R H vs xs→xs[i]? =some x→∃v,vs[i]? =some v∧R.Rep x v H
 | _,_,_,_,.nil,e=>by simp at e
 | _,_,0,_,.cons r _,e=>by simp at e;subst e;exact⟨_,rfl,r⟩
 | _,_,i+1,_,.cons _ t,e=>by
  simp only[List.getElem?_cons_succ] at e ⊢
  exact eF.at t e
theorem cx:aS ["first","many","onward","is_yes","most","rooms","numbers","moves","room","leads","letter","to","yes"] ["first","many","onward","is_yes","most"] (aj bI):=⟨rfl,rfl,rfl,by decide+kernel,rfl,by decide+kernel,by decide+kernel⟩
set_option maxHeartbeats 16000000 in
theorem ny {a:bW} (T:Txt K mg a) {α:Type} (R:fS α) {many:Nat} {on:α→Nat→α} {yes:α→Bool} {Ok:α→Prop} {Ev:Hp→Prop} {f1 f2:Addr} {k:Nat}
  (F1:FnAt P w K mg base k f1 2 (wJ R many on Ok Ev)) (F2:FnAt P w K mg base k f2 1 (Eo R yes Ok Ev)) (jr:∀x a,Ok x→a<many→Ok (on x a)) (wK:∀H H',Ev H→Same H H'→Ev H'):
  bf P w K mg base bT (k+1) a.h9 a.gq ["first","many","onward","is_yes","most"] (Hs R many on yes Ok Ev f1 f2):=by
 obtain⟨o1,Te,ps1,ho1,hf1,hl1,hb1,G1⟩:=F1
 obtain⟨o2,fd2,ps2,ho2,hf2,hl2,hb2,G2⟩:=F2
 refine T.wj.ok cx (fun vs H Q E h=>?_) (fun Ar outer sh H vs Q E hr h=>?_)
 ·obtain⟨x0,v0,most,rfl,_⟩:=h
  rfl
 ·obtain⟨x0,v0,most,rfl,r0,k0,yH,hbm,M6,q0,q⟩:=h
  refine⟨_,(ah (av (i:=5) cx.nd rfl (Or.inl rfl) (bz (ae (pv 0) ag)))
  (ah (av (i:=6) cx.nd rfl (Or.inl rfl) (R.DV (cY hr) (pv 0) ao))
  (ah (av (i:=7) cx.nd rfl (Or.inl rfl) (bz ag))
  (ah (ip PassesOwn.never (Dx Fg Mz (aA (aM K) (by rfl) T.bF bg (ae (pv 7) ag)) (aA (aM K) (by rfl) T.bF bg (ae (pv 5) ag)) (pv 4))
   (ah (av (i:=8) cx.nd rfl (Or.inl rfl) (aJ (bC K) (pv 5) (aA (aM K) (by rfl) T.bF bg (ae (pv 7) ag)) (fun _ _=>rfl)))
   (ah (av (i:=9) cx.nd rfl (Or.inl rfl) (bz ag))
   (ah (bq PassesOwn.never rfl (bM rfl T.cq (ae (pv 1) ag)) (az (i:=10) cx.nd rfl (Or.inl rfl))
    (ah (av (i:=11) cx.nd rfl (Or.inl rfl) (pN (i:=2) G1 ho1 hf1 hr hb1 rfl (Or.inl rfl) (ae (pv 8) (ae (pv 10) ag))))
    (ah (cX (AH (tQ (cY hr) (pv 11) (pv 6)) (by with_unfolding_all rfl))
     (ah (jE (cY hr) (pv 6) (pv 11) (aA (aM K) (by rfl) T.bF bg (ae (pv 5) ag)) rfl)
     (au (bt (cf PySem.F.plainAttrs_list PySem.F.slot_list_append PySem.F.type_list_append aZ (pv 5) (ae (pv 11) ag)))))
     bR)
    (au (bt (cf PySem.F.plainAttrs_list PySem.F.slot_list_append PySem.F.type_list_append aZ (pv 9) (ae (d9 (cY hr) (pv 6) (pv 11) (fun _ _=>rfl)) ag)))))))
   (au (bt (cf PySem.F.plainAttrs_list PySem.F.slot_list_append PySem.F.type_list_append aZ (pv 7) (ae (aY (aX K) (by rfl) T.bS bB (ae (pv 9) ag)) ag))))))))
  (ah (cX (bo qh (aA (aM K) (by rfl) T.bF bg (ae (pv 5) ag)) (pv 4) (aU _))
   (au (aR fk))
   bR)
  (ah (av (i:=12) cx.nd rfl (Or.inl rfl) (aY (aX K) (by rfl) T.bS bB (ae (cF (aI.mk' (esc:=aj bI) (N:=["first","many","onward","is_yes","most","rooms","numbers","moves","room","leads","letter","to","yes"]) (own:=["room"]) (aF:=["is_yes"]) (bJ:=[3]) rfl rfl (by decide+kernel)) rfl (cb (pv 5)) (fun _ _ _ _=>(az (i:=0) (show List.Nodup (["room","is_yes"]:List Str) by decide+kernel) rfl (Or.inl rfl))) (fun _ _ _ _=>bU) (fun _ _ _ _=>(aY zm (by rfl) T.wA rC (ae (pN (i:=1) G2 ho2 hf2 hr hb2 (by rfl) (by first | exact Or.inl rfl | exact Or.inr (Or.inl rfl) | exact Or.inr (Or.inr rfl)) (ae (pv 0) ag)) ag)))) ag)))
  (au (aR (bP (ae (pv 5) (ae (pv 12) (ae (aY (aX K) (by rfl) T.bS bB (ae (pv 7) ag)) ag)))))))))))),?_⟩
  have big:(100000:Nat)≤sizeLine:=by decide
  have vd:∀(w:List Nat) (x:α),Ok x→cN many w→Ok (dD on x w):=by
   intro w
   induction w with
   | nil=>intro x hx _;exact hx
   | cons c w ih=>intro x hx hw;exact ih _ (jr x c hx (hw c List.mem_cons_self)) fun z hz=>hw z (List.mem_cons_of_mem _ hz)
  refine ax fun Y hY=>?_
  refine⟨_,rfl,by show 1≤sizeLine;omega,fun Rr hR=>?_⟩
  have sR:=Same.new (o:=.lst [v0]) hR
  dsimp only[ay]
  subst hY
  refine ax fun Y hY=>?_
  refine⟨x0,v0,rfl,R.same r0 sR.kt,fun D H2 hD s2 num=>?_⟩
  have Cm:H2 Rr=some (.lst [v0]):=s2 _ _ af
  have pA:H D=none:=sR.free hD
  have DR:Rr≠D:=aq (show(upd H Rr (.lst [v0])) Rr=some (.lst [v0]) from af) hD
  dsimp only[ay]
  subst hY
  refine ax fun Y hY=>?_
  refine⟨by show 0≤sizeLine;omega,fun M hM=>?_⟩
  have sM:=Same.new (o:=.lst []) hM
  have oC:H M=none:=sR.free (s2.free hM)
  have MR:M≠Rr:=(aq Cm hM).symm
  obtain⟨oD,JD,_,_⟩:=R.isD num
  have MD:M≠D:=(aq JD hM).symm
  have Cn:=(sR.trans s2).trans sM
  dsimp only[ay]
  subst hY
  refine gN (t:=nO _ _) (u:=nK _ _) (fun σ H'=>∃(xs:List α) (mv:List (List Nat)) (vs:List V) (ps:List Addr) (v8 v9 v10 v11:Option V),σ=[some v0,some (.int (many:Nat)),some (.ref f1),some (.ref f2),some (.int (most:Nat)),some (.ref Rr),some (.ref D),some (.ref M),v8,v9,v10,v11,none]∧Same H H'∧
   H' Rr=some (.lst vs)∧eF R H' vs xs∧H' M=some (.lst (ps.map V.ref))∧bX H' ps (mv.map ai)∧bZ x0 on many xs mv∧xs.length≤20000∧(xs.length≤most→mv.length=xs.length)) ?re (fun Y rest=>?_)
  case re=>
   rintro σ H' ⟨xs,mv,vs,ps,v8,v9,v10,v11,rfl,s',eR,rp,eM,tp,g,lx,hl⟩
   have wL:vs.length=xs.length:=Paired.length rp
   have lps:ps.length=mv.length:=by rw[Paired.length tp,List.length_map]
   refine ax fun Y hY=>?_
   refine⟨_,rfl,_,vs.length,rfl,.inl ⟨_,.of eR,rfl⟩,_,rfl,_,_,rfl,rfl,_,rfl,?_⟩
   by_cases hc:xs.length≤most
   rotate_left
   ·rw[show decide ((most:Int)<((vs.length:Nat):Int))=true from decide_eq_true (by omega)]
    exact fA (q0 xs H' s' g.once g.reach (by omega))
   have hl:=hl hc
   rw[show decide ((most:Int)<((vs.length:Nat):Int))=false from decide_eq_false (by omega)]
   refine cm ?_
   subst hY
   dsimp only[g7]
   refine ax fun Y hY=>?_
   refine⟨_,rfl,Rr,rfl,⟨_,.of eR⟩,fun C hC=>?_⟩
   refine dH (xs:=vs) (fun j σ H2=>∃v:Option V,σ=[v,some (.ref f2)]∧Same H' H2∧H2 C=some (.lst (((xs.take j).map yes).map V.bl)))
    ⟨none,?sg,Same.new hC,af⟩ (fun j σ H2 _ ⟨_,_,s2,_⟩=>.of (s2 _ _ eR)) ?_ ?_
   case sg=>rfl
   ·rintro j y σ H2 hy ⟨v,rfl,s2,c2⟩
    have hj:j<xs.length:=by rw[←wL];exact(List.getElem?_eq_some_iff.mp hy).1
    have ex:xs[j]? =some xs[j]:=List.getElem?_eq_getElem hj
    obtain⟨v',hv',rv⟩:=rp.at ex
    rw[hy] at hv'
    have hv2:=Option.some.inj hv'
    subst hv2
    obtain⟨w,hw,ew⟩:=g.reach xs[j] (List.getElem_mem ..)
    have okx:Ok xs[j]:=by rw[ew];exact vd w x0 k0 hw
    refine⟨rfl,_,rfl,xs[j],y,rfl,R.same rv s2.kt,okx,wK _ _ yH (s'.trans s2),fun H3 s3=>?_⟩
    refine .inr ⟨_,rfl,_,s3 _ _ c2,by rw[List.length_map,List.length_map,List.length_take];omega,_,rfl,(s2.trans s3).kbn hC KB.write,?_⟩
    rw[af,take_snoc ex,List.map_append,List.map_append];rfl
   rintro σ H2 ⟨v,rfl,s2,c2⟩
   rw[wL,List.take_length] at c2
   refine⟨C,_,rfl,.inl ⟨.of c2,fun Ya Tg=>?_⟩⟩
   have sY:=Same.new (o:=.tup ((xs.map yes).map V.bl)) Tg
   dsimp only[ay]
   subst hY
   refine⟨_,rfl,_,rfl,_,rfl,M,_,rfl,.inl ⟨.of (sY _ _ (s2 _ _ eM)),fun Va JE=>⟨by show 3≤sizeLine;omega,fun p hp=>?_⟩⟩⟩
   have sV:=Same.new (o:=.tup (ps.map V.ref)) JE
   have sP:=Same.new (o:=.tup [.ref Rr,.ref Ya,.ref Va]) hp
   have df:=((s2.trans sY).trans sV).trans sP
   exact q xs mv vs p Rr Ya Va ps _ (s'.trans df) hR hl hc g af (df _ _ eR) (rp.keep df.kt) (sP _ _ (sV _ _ af)) (sP _ _ af) (tp.keep df.kt)
  refine oZ (fun m σ H'=>∃(xs:List α) (mv:List (List Nat)) (vs:List V) (ps:List Addr) (v8 v9 v10 v11:Option V),m=most+1-mv.length∧σ=[some v0,some (.int (many:Nat)),some (.ref f1),some (.ref f2),some (.int (most:Nat)),some (.ref Rr),some (.ref D),some (.ref M),v8,v9,v10,v11,none]∧Same H H'∧
    H' Rr=some (.lst vs)∧eF R H' vs xs∧R.Num H' D xs∧H' M=some (.lst (ps.map V.ref))∧bX H' ps (mv.map ai)∧bZ x0 on many xs mv∧mv.length≤xs.length∧xs.length≤20000)
   ⟨_,[x0],[],[v0],[],none,none,none,none,rfl,rfl,Cn,sM _ _ Cm,.cons (R.same r0 Cn.kt) .nil,R.keep num (ak MD.symm),af,.nil,bZ.begin,by simp,by simp⟩ ?_ ?_
  ·rintro m σ H4 N hN ⟨xs,mv,vs,ps,v8,v9,v10,v11,rfl,rfl,s4,eR,rp,nm,eM,tp,g,hl,lx⟩
   have wL:vs.length=xs.length:=Paired.length rp
   have lps:ps.length=mv.length:=by rw[Paired.length tp,List.length_map]
   refine⟨_,rfl,_,ps.length,rfl,.inl ⟨_,.of eM,by rw[List.length_map]⟩,_,rfl,_,vs.length,rfl,.inl ⟨_,.of eR,rfl⟩,_,_,rfl,rfl,_,rfl,?_⟩
   by_cases hlt:mv.length<xs.length
   ·rw[show decide (((ps.length:Nat):Int)<((vs.length:Nat):Int))=true from decide_eq_true (by omega)]
    refine fA ⟨_,rfl,_,_,rfl,rfl,_,rfl,?_⟩
    by_cases hc:xs.length≤most
    rotate_left
    ·rw[show decide (((vs.length:Nat):Int)≤((most:Nat):Int))=false from decide_eq_false (by omega)]
     refine cm ?_
     exact rest _ _ ⟨xs,mv,vs,ps,v8,v9,v10,v11,rfl,s4,eR,rp,eM,tp,g,lx,fun z=>absurd z hc⟩
    rw[show decide (((vs.length:Nat):Int)≤((most:Nat):Int))=true from decide_eq_true (by omega)]
    refine fA ?_
    refine ax fun Y hY=>?_
    obtain⟨x,ex⟩:∃x,xs[mv.length]? =some x:=⟨_,List.getElem?_eq_getElem hlt⟩
    obtain⟨vx,JF,rx⟩:=rp.at ex
    have wM:=g.reach x (List.mem_of_getElem? ex)
    have okx:Ok x:=by obtain⟨w,hw,ew⟩:=wM;rw[ew];exact vd w x0 k0 hw
    refine⟨_,rfl,_,rfl,_,ps.length,rfl,.inl ⟨_,.of eM,by rw[List.length_map]⟩,Rr,_,_,vx,rfl,rfl,.of eR,aB (by rw[lps];exact JF),?_⟩
    dsimp only[ay]
    subst hY
    refine ax fun Y hY=>?_
    refine⟨by show 0≤sizeLine;omega,fun L hL=>?_⟩
    have sL:=Same.new (o:=.lst []) hL
    have hL0:H L=none:=s4.free hL
    have LR:L≠Rr:=(aq eR hL).symm
    have LM:L≠M:=(aq eM hL).symm
    obtain⟨Ti,Ep,_,_⟩:=R.isD nm
    have LD:L≠D:=(aq Ep hL).symm
    dsimp only[ay]
    subst hY
    refine ax fun Y hY=>?_
    refine⟨_,rfl,_,rfl,by omega,by omega,dw (n:=(many:Int).toNat) (fun j σ H'=>∃(ys:List α) (us:List V) (leads:List Nat) (v10 v11:Option V),σ=[some v0,some (.int (many:Nat)),some (.ref f1),some (.ref f2),some (.int (most:Nat)),some (.ref Rr),some (.ref D),some (.ref M),some vx,some (.ref L),v10,v11,none]∧Same H H'∧a_ H4 H'∧
      H' Rr=some (.lst us)∧eF R H' us ys∧R.Num H' D ys∧H' M=some (.lst (ps.map V.ref))∧H' L=some (.lst ((ai leads).map V.int))∧leads.length=j∧gH x0 on many xs x leads ys)
     ⟨xs,vs,[],v10,v11,rfl,s4.trans sL,sL.kt,sL _ _ eR,rp.keep sL.kt,R.keep nm (ak LD.symm),sL _ _ eM,af,rfl,gH.start g⟩ ?_ ?_⟩
    ·rintro j σ H5 N2 pC hj ⟨ys,us,leads,v10,v11,rfl,s5,oE,lT,kO,oF,nz,wN,ll,gr⟩
     have ej:(0:Int)+(j:Int)=((j:Nat):Int):=by omega
     rw[ej]
     have JG:j<many:=by omega
     have ly:=mT _ _ _ gr.go
     have FD:us.length=ys.length:=Paired.length kO
     dsimp only[ay]
     refine ax fun Y hY=>?_
     refine⟨rfl,_,rfl,_,rfl,x,vx,j,rfl,R.same rx oE,okx,JG,wK _ _ yH s5,fun to H6 s6 oG=>?_⟩
     have nA:=s6 _ _ lT
     have lU:=s6 _ _ nz
     have Co:=s6 _ _ wN
     have oH:=kO.keep s6.kt
     obtain⟨JH,j9,JI,Cp⟩:=R.isD oF
     have qN:=R.keep oF ((s6 _ _ j9).trans j9.symm)
     have Er:=s6 _ _ j9
     have JJ:a_ H4 H6:=fun b l z=>s6 _ _ (oE _ _ z)
     have Cq:=s5.trans s6
     dsimp only[ay]
     subst hY
     refine gN (t:=mr _ _ _) (u:=zh _) (fun σ H'=>∃(zs:List α) (ws:List V) (t:Nat),σ=[some v0,some (.int (many:Nat)),some (.ref f1),some (.ref f2),some (.int (most:Nat)),some (.ref Rr),some (.ref D),some (.ref M),some vx,some (.ref L),some (.int (j:Nat)),some to,none]∧Same H H'∧a_ H6 H'∧
      H' Rr=some (.lst ws)∧eF R H' ws zs∧R.Num H' D zs∧H' M=some (.lst (ps.map V.ref))∧H' L=some (.lst ((ai leads).map V.int))∧zs[t]? =some (on x j)∧gH x0 on many xs x (leads++[t]) zs) ?JK (fun Y qO=>?_)
     case JK=>
      rintro σ H7 ⟨zs,ws,t,rfl,s7,qP,kP,JL,qQ,JM,wO,hz,Cr⟩
      refine⟨_,rfl,Or.inl ⟨rfl,_,.of wO⟩,_,rfl,_,rfl,D,_,rfl,R.there qQ (R.same oG qP) Cr.once hz,L,_,_,rfl,rfl,wO,by rw[List.length_map,aD];omega,?_⟩
      have kL:a_ H7 (upd H7 L (.lst ((ai leads).map V.int++[.int (t:Nat)]))):=jG wO (fun l z=>nomatch z)
      refine pC _ _ ⟨zs,ws,leads++[t],_,_,rfl,s7.kbn hL0 KB.write,fun b l z=>kL _ _ (qP _ _ (JJ _ _ z)),by rw[ak LR.symm];exact kP,JL.keep kL,R.keep qQ (ak LD.symm),by rw[ak LM.symm];exact JM,?_,by rw[List.length_append,ll];rfl,Cr⟩
      rw[af,bj,List.map_append];rfl
     by_cases hm:on x j∈ys
     ·obtain⟨i,hi⟩:=List.getElem?_of_mem hm
      refine⟨_,rfl,_,rfl,D,_,rfl,R.there qN oG gr.once hi,_,rfl,?_⟩
      refine cm ?_
      exact qO _ _ ⟨ys,us,i,rfl,Cq,fun _ _ z=>z,nA,oH,qN,lU,Co,hi,gr.old (by rw[ll];exact hi)⟩
     ·refine⟨_,rfl,_,rfl,D,_,rfl,R.miss qN oG hm,_,rfl,?_⟩
      refine fA ?_
      obtain⟨H7,Es,oI,qQ⟩:=R.put qN oG hm (by omega)
      have Cs:=gr.new (by omega) wM (by rw[ll];exact hm)
      rw[ll] at Cs
      have kP:=oI _ _ nA DR
      refine⟨_,rfl,_,us.length,rfl,.inl ⟨_,.of nA,rfl⟩,_,rfl,_,rfl,D,H7,rfl,by rw[FD];exact Es,?_⟩
      refine⟨_,rfl,Or.inl ⟨rfl,_,.of kP⟩,_,rfl,Rr,_,_,rfl,rfl,kP,by omega,?_⟩
      have qP:a_ H6 H7:=Ck Er Cp oI
      have kR:a_ H7 (upd H7 Rr (.lst (us++[to]))):=jG kP (fun l z=>nomatch z)
      have oJ:a_ H6 (upd H7 Rr (.lst (us++[to]))):=fun b l z=>kR _ _ (qP _ _ z)
      refine qO _ _ ⟨ys++[on x j],us++[to],ys.length,rfl,(Cq.kbn pA oI).kbn hR KB.write,oJ,af,?_,R.keep qQ (ak DR.symm),by rw[ak MR];exact oI _ _ lU MD,by rw[ak LR];exact oI _ _ Co LD,by rw[List.getElem?_append_right (Nat.le_refl _),Nat.sub_self];rfl,Cs⟩
      exact iT (oH.keep oJ) (R.same oG oJ)
    ·rintro σ H5 ⟨ys,us,leads,v10,v11,rfl,s5,oE,lT,kO,oF,nz,wN,ll,gr⟩
     subst hY
     have JN:leads.length=many:=by rw[ll];omega
     have g2:=g.next ex gr JN
     have ly:=mT _ _ _ gr.go
     obtain⟨more,qR⟩:=gr.pre
     have Tj:xs.length≤ys.length:=by rw[qR,List.length_append];omega
     refine⟨_,rfl,Or.inl ⟨rfl,_,.of nz⟩,_,rfl,L,_,rfl,.inl ⟨.of wN,fun t ht=>?_⟩⟩
     have sT:=Same.new (o:=.tup ((ai leads).map V.int)) ht
     have JO:M≠t:=aq nz ht
     have Tn:Rr≠t:=aq lT ht
     obtain⟨JH,j9,JI,Cp⟩:=R.isD oF
     have JP:D≠t:=aq j9 ht
     have lU:=sT _ _ nz
     refine⟨M,_,_,rfl,rfl,lU,by rw[List.length_map];omega,?_⟩
     have kM:a_ (upd H5 t (.tup ((ai leads).map V.int))) (upd (upd H5 t (.tup ((ai leads).map V.int))) M (.lst (ps.map V.ref++[.ref t]))):=jG lU (fun l z=>nomatch z)
     have kA:a_ H5 (upd (upd H5 t (.tup ((ai leads).map V.int))) M (.lst (ps.map V.ref++[.ref t]))):=fun b l z=>kM _ _ (sT.kt _ _ z)
     refine hN _ _ _ ?_ ⟨ys,mv++[leads],us,ps++[t],_,_,_,_,rfl,rfl,(s5.trans sT).kbn oC KB.write,by rw[ak MR.symm];exact sT _ _ lT,kO.keep kA,R.keep oF (by rw[ak MD.symm,ak JP]),by rw[af,List.map_append];rfl,?_,g2,by rw[List.length_append];simp;omega,by omega⟩
     ·rw[List.length_append];simp;omega
     ·rw[List.map_append]
      exact iT ((tp.keep oE).keep kA) (by rw[ak JO.symm,af])
   ·have e:mv.length=xs.length:=by omega
    rw[show decide (((ps.length:Nat):Int)<((vs.length:Nat):Int))=false from decide_eq_false (by omega)]
    refine cm ⟨_,rfl,cm ?_⟩
    exact rest _ _ ⟨xs,mv,vs,ps,v8,v9,v10,v11,rfl,s4,eR,rp,eM,tp,g,lx,fun _=>e⟩
  ·rintro σ H Q Q' h ⟨v,e1,v2,n1,e2,l1,v3,e3,v4,n2,e4,l2,i,j,e5,e6,k,e7,z⟩
   refine⟨v,e1,v2,n1,e2,l1,v3,e3,v4,n2,e4,l2,i,j,e5,e6,k,e7,?_⟩
   cases k with
   | false=>
    rw[if_neg Bool.false_ne_true] at z ⊢
    obtain⟨k',e8,q⟩:=z
    exact⟨k',e8,h _ _ q⟩
   | true=>
    rw[if_pos rfl] at z ⊢
    obtain⟨v5,e9,i2,j2,e10,IB,k2,JQ,q⟩:=z
    exact⟨v5,e9,i2,j2,e10,IB,k2,JQ,h _ _ q⟩
def Et (P:Program) (w:World) (K:PySem.W.Frag) (mg:Str→Option Value) (base:Heap) (k:Nat):Sp:=fun vs H Q _=>∃(b most:Nat) (nm g:Addr) (ss:List Str) (α:Type) (R:fS α) (on:α→Nat→α) (yes:α→Bool) (Ok:α→Prop) (Ev:Hp→Prop) (x0:α) (v0:V) (f1 f2:Addr) (D:List Addr),
 vs=[.int b,.ref nm,.ref g,.int most]∧b≤4∧ss.length≤4∧H nm=some (.tup (ss.map V.str))∧H g=some (.tup [v0,.ref f1,.ref f2])∧(∀a∈D,∃φ,H a=some (.ext φ))∧
 j3 P w K mg base H D k f1 2 (wJ R (b ^ ss.length) on Ok Ev)∧j3 P w K mg base H D k f2 1 (Eo R yes Ok Ev)∧(∀x a,Ok x→a<b ^ ss.length→Ok (on x a))∧(∀H H',Ev H→Same H H'→Ev H')∧
 (∀D H,(∀a∈D,∃φ,H a=some (.ext φ))→Ev H→Ev (cL D H))∧R.Rep x0 v0 H∧Ok x0∧Ev H∧most≤10000∧(∀(xs:List α) (H':Hp),Same H H'→xs.Nodup→(∀x∈xs,∃w,cN (b ^ ss.length) w∧x=dD on x0 w)→most<xs.length→Q .non H')∧
 ∀(xs:List α) (mv:List (List Nat)) (p:Addr) (H':Hp),Same H H'→mv.length=xs.length→xs.length≤most→bZ x0 on (b ^ ss.length) xs mv→fK H' p nm (xs.map yes) mv→Q (.ref p) H'
theorem ji:aS ["base","names","growth","most","many","grown"] ["base","names","growth","most"] (aj eh):=⟨rfl,rfl,rfl,by decide+kernel,rfl,by decide+kernel,by decide+kernel⟩
theorem uS {a:bW} (T:Txt K mg a) (k:Nat):bf P w K mg base bT (k+2) a.ia a.jd ["base","names","growth","most"] (Et P w K mg base k):=by
 have dv:=fY (P:=P) (w:=w) (base:=base) T
 refine T.wk.ok ji (fun vs H Q E h=>?_) (fun cdv A outer s H vs Q E hr h=>?_)
 ·obtain⟨b,most,nm,g,ss,α,R,on,yes,Ok,Ev,x0,v0,f1,f2,D,rfl,_⟩:=h
  rfl
 ·obtain⟨b,most,nm,g,ss,α,R,on,yes,Ok,Ev,x0,v0,f1,f2,D,rfl,hb4,ur,gb,eg,hD,F1,F2,jr,wK,To,r0,ok0,yH,hbm,q0,q⟩:=h
  have cV:aP 1 _:=hr.mono (by omega)
  have Eu:aP (k+1) _:=hr
  refine⟨_,(ah (av (i:=4) ji.nd rfl (Or.inl rfl) (aA (aM K) (by rfl) T.bF bg (ae (aC dv cV rfl T.gx T.gy T.gA .nil aN (ae (pv 0) (ae (aA (aM K) (by rfl) T.bF bg (ae (pv 1) ag)) ag))) ag)))
  (ah (av (i:=5) ji.nd rfl (Or.inl rfl) (pP (fun _=>rfl) Eu rfl T.oy T.oz T.oA (ae (aJ (aO K) (pv 2) ao (fun _ _=>rfl)) (ae (pv 4) (ae (aJ (aO K) (pv 2) ao (fun _ _=>rfl)) (ae (aJ (aO K) (pv 2) ao (fun _ _=>rfl)) (ae (pv 3) ag)))))))
  (ah (cX (bo nQ (pv 5) fk (aU _))
   (au (aR fk))
   bR)
  (au (aR (bP (ae (pv 1) (ae (aJ (aO K) (pv 5) ao (fun _ _=>rfl)) (ae (aJ (aO K) (pv 5) ao (fun _ _=>rfl)) ag))))))))),?_⟩
  have big:(10000:Nat)≤sizeLine:=by decide
  have hB:b ^ ss.length≤256:=cp hb4 ur
  refine⟨_,rfl,_,rfl,_,ss.length,rfl,.inr ⟨_,.of gb,by rw[List.length_map]⟩,b,ss.length,rfl,hb4,ur,fun D0 FE H1 pA s1 e1 t1=>?_⟩
  refine⟨_,b ^ ss.length,rfl,.inl ⟨_,.of e1,by rw[List.length_map,Paired.length t1,dX]⟩,?_⟩
  dsimp only[ay]
  have JR:=s1 _ _ eg
  refine⟨_,rfl,g,_,_,v0,rfl,rfl,.of JR,aB (j:=0) rfl,_,rfl,_,rfl,g,_,_,.ref f1,rfl,rfl,.of JR,aB (j:=1) rfl,_,rfl,g,_,_,.ref f2,rfl,rfl,.of JR,aB (j:=2) rfl,_,rfl,?_⟩
  have hD1:∀a∈D,∃φ,H1 a=some (.ext φ):=fun a ha=>let ⟨φ,e⟩:=hD a ha;⟨φ,s1 _ _ e⟩
  refine⟨D,hD1,fun base' W=>?_⟩
  have JS:=(F1.same fun b φ _ e=>s1 _ _ e) base' W.b
  have JT:=(F2.same fun b φ _ e=>s1 _ _ e) base' W.b
  refine⟨_,ny (k:=k) T R JS JT jr wK,?_⟩
  have ktu:a_ H1 (cL D H1):=fun b xs z=>gF hD1 z (fun _ y=>nomatch y)
  refine⟨x0,v0,most,rfl,R.same (R.same r0 s1.kt) ktu,ok0,To D H1 hD1 (wK _ _ yH s1),hbm,by omega,fun xs H2 s2 nd rc lt n2=>?_,fun xs mv vs p Rr ya va ps H2 s2 wQ hl JU gr ep _ _ ey ev tp n2=>?_⟩
  ·have df:=s1.trans (iZ s2)
   generalize fB D H1 H2=H3 at df ⊢
   dsimp only[ay]
   refine⟨_,rfl,rfl,_,rfl,?_⟩
   exact dk (fun _=>q0 xs H3 df nd rc lt) (fun z=>absurd rfl z)
  have s3:=iZ s2
  have o2:∀{b:Addr} {o:HO},H2 b=some o→fB D H1 H2 b=some o:=fun {b o} e=>by
   rw[dC fun z=>?_]
   ·exact e
   ·rw[n2 b z] at e;cases e
  have JV:=o2 ep
  have NL:=o2 ey
  have yI:=o2 ev
  have Ct:=tp.keep (show a_ H2 (fB D H1 H2) from fun b xs z=>o2 z)
  have df:=s1.trans s3
  generalize fB D H1 H2=H3 at s3 JV NL yI Ct df ⊢
  dsimp only[ay]
  refine⟨_,rfl,rfl,_,rfl,?_⟩
  refine dk (fun z=>absurd z (by simp)) (fun _=>?_)
  refine⟨_,rfl,_,rfl,p,_,_,.ref ya,rfl,rfl,.of JV,aB (j:=1) rfl,_,rfl,p,_,_,.ref va,rfl,rfl,.of JV,aB (j:=2) rfl,by show 3≤sizeLine;decide,fun m hm=>?_⟩
  have sm:=Same.new (o:=.tup [.ref nm,.ref ya,.ref va]) hm
  exact q xs mv m _ (df.trans sm) hl JU gr ⟨ya,va,ps,af,sm _ _ NL,sm _ _ yI,Ct.keep sm.kt⟩
def idx:List Str→Str→Nat
 | [],_=>0
 | s::ss,t=>if s=t then 0 else idx ss t+1
theorem qS:∀{ss:List Str} {t:Str},t∈ss→ss[idx ss t]? =some t∧idx ss t<ss.length∧∀i,i<idx ss t→ss[i]? ≠some t
 | [],_,h=>by cases h
 | s::ss,t,h=>by
  unfold idx
  by_cases e:s=t
  ·rw[if_pos e]
   exact⟨by rw[e];rfl,by rw[List.length_cons];omega,fun i hi=>absurd hi (Nat.not_lt_zero _)⟩
  ·rw[if_neg e]
   obtain⟨h1,h2,h3⟩:=qS (ss:=ss) ((List.mem_cons.mp h).resolve_left fun z=>e z.symm)
   refine⟨h1,by rw[List.length_cons];omega,fun i hi z=>?_⟩
   cases i with
   | zero=>exact e (Option.some.inj z)
   | succ i=>exact h3 i (by omega) z
def pk (b m:Nat) (sp:List Nat) (L:Nat):Nat:=lst b 0 (sp.map fun s=>(fl b m L).getD s 0)
theorem r9 (b acc:Nat) (ds:List Nat) (d:Nat):lst b acc (ds++[d])=lst b acc ds*b+d:=by simp[lst,List.foldl_append]
theorem M7 {b m:Nat} (hb:0<b) (sp:List Nat) (L:Nat):pk b m sp L<b ^ sp.length:=by
 have:=wI (b:=b) (sp.map fun s=>(fl b m L).getD s 0) 0 0 (fun d hd=>by
  obtain⟨s,_,rfl⟩:=List.mem_map.mp hd
  by_cases h:s<(fl b m L).length
  ·exact mS hb m L _ (List.mem_of_getElem? (item_at 0 h))
  ·rw[List.getD_eq_getElem?_getD,List.getElem?_eq_none (by omega)];exact hb) (by rw[Nat.pow_zero];decide)
 rw[List.length_map,Nat.zero_add] at this
 exact this
def mU (b:Nat) (ss ts:List Str):List Nat:=(List.range (b ^ ss.length)).map (pk b ss.length (ts.map (idx ss)))
theorem pZ (b:Nat) (ss ts:List Str):(mU b ss ts).length=b ^ ss.length:=by rw[mU,List.length_map,List.length_range]
theorem yJ (b:Nat) (ss ts:List Str) {L:Nat} (h:L<b ^ ss.length):(mU b ss ts).getD L 0=pk b ss.length (ts.map (idx ss)) L:=by
 rw[mU,List.getD_eq_getElem?_getD,List.getElem?_map,List.getElem?_range h];rfl
def M9:Sp:=fun vs H Q _=>∃(b:Nat) (na oa:Addr) (ss ts:List Str),vs=[.int b,.ref na,.ref oa]∧0<b∧b≤4∧ss.length≤4∧H na=some (.tup (ss.map V.str))∧H oa=some (.tup (ts.map V.str))∧ts.length≤8∧(∀t∈ts,t∈ss)∧
 ∀(D:Addr) (H':Hp),H D=none→Same H H'→H' D=some (.lst ((ai (mU b ss ts)).map V.int))→Q (.ref D) H'
theorem yK {rs:List Str} {i:Nat} {x:V} (h:(rs.map V.str)[i]? =some x):∃r,x=.str r∧rs[i]? =some r:=by
 rw[List.getElem?_map] at h
 cases e:rs[i]? with
 | none=>rw[e] at h;cases h
 | some r=>rw[e] at h;exact⟨r,(Option.some.inj h).symm,rfl⟩
theorem cW:aS ["base","names","own","spots","numbers","letter","number","spot"] ["base","names","own"] (aj dq):=⟨rfl,rfl,rfl,by decide+kernel,rfl,by decide+kernel,by decide+kernel⟩
theorem sf {a:bW} (T:Txt K mg a):bf P w K mg base bT 2 a.gu a.iD ["base","names","own"] M9:=by
 have dv:=fY (P:=P) (w:=w) (base:=base) T
 refine T.uM.ok cW (fun vs H Q E h=>?_) (fun cdv A outer s H vs Q E hr h=>?_)
 ·obtain⟨b,na,oa,ss,ts,rfl,_⟩:=h
  rfl
 ·obtain⟨b,na,oa,ss,ts,rfl,hb0,hb4,ur,en,eo,WL,hsub,k⟩:=h
  have cV:aP 1 _:=hr
  refine⟨_,(ah (eV (i:=3) (aI.mk' (esc:=aj dq) (N:=["base","names","own","spots","numbers","letter","number","spot"]) (own:=["name"]) (aF:=["names"]) (bJ:=[1]) rfl rfl (by decide+kernel)) rfl (fF (pv 2)) (fun _ _ _ _=>(az (i:=0) (show List.Nodup (["name","names"]:List Str) by decide+kernel) rfl (Or.inl rfl))) (fun _ _ _ _=>bU) (fun _ _ _ _=>(Bx PySem.F.plainAttrs_tuple PySem.F.slot_tuple_index PySem.F.type_tuple_index (ua K) (pv 1) (ae (pv 0) ag))) cW.nd rfl rfl)
  (ah (av (i:=4) cW.nd rfl (Or.inl rfl) (bz ag))
  (ah (bq PassesOwn.never rfl (cb (aC dv cV rfl T.gx T.gy T.gA .nil aN (ae (pv 0) (ae (aA (aM K) (by rfl) T.bF bg (ae (pv 1) ag)) ag)))) (az (i:=5) cW.nd rfl (Or.inl rfl))
   (ah (av (i:=6) cW.nd rfl (Or.inl rfl) ao)
   (ah (bq PassesOwn.never rfl (cb (pv 3)) (az (i:=7) cW.nd rfl (Or.inl rfl))
    (au (av (i:=6) cW.nd rfl (Or.inl rfl) (aG cP (aG fm (pv 6) (pv 0)) (aJ (aO K) (pv 5) (pv 7) (fun _ _=>rfl))))))
   (au (bt (cf PySem.F.plainAttrs_list PySem.F.slot_list_append PySem.F.type_list_append aZ (pv 4) (ae (pv 6) ag)))))))
  (au (aR (pv 4)))))),?_⟩
  have big:(10000:Nat)≤sizeLine:=by decide
  have hB:b ^ ss.length≤256:=cp hb4 ur
  refine ax fun Y hY=>?_
  refine⟨_,rfl,oa,rfl,⟨_,.of eo⟩,fun C hC=>?_⟩
  refine iu (xs:=ts.map V.str) (fun j σ H'=>∃v:Option V,σ=[v,some (.ref na)]∧Same H H'∧H' C=some (.lst ((ai ((ts.take j).map (idx ss))).map V.int)))
   ⟨none,?sg,Same.new hC,af⟩ (fun j σ H' _ ⟨_,_,s,_⟩=>.of (s _ _ eo)) ?_ ?_
  case sg=>rfl
  ·rintro j x σ H' hx ⟨v,rfl,s',c'⟩
   obtain⟨t,rfl,et⟩:=yK hx
   have hj:=(List.getElem?_eq_some_iff.mp et).1
   obtain⟨i1,i2,i3⟩:=qS (hsub t (List.mem_of_getElem? et))
   refine⟨_,rfl,⟨na,_,rfl,s' _ _ en⟩,_,rfl,na,ss,t,idx ss t,rfl,rfl,.of (s' _ _ en),i1,i3,_,c',?_,_,rfl,s'.kbn hC KB.write,?_⟩
   ·rw[List.length_map,aD,List.length_map,List.length_take];omega
   ·rw[af,take_snoc et,List.map_append,bj,List.map_append];rfl
  rintro σ H1 ⟨v,rfl,s1,c1⟩
  rw[List.length_map,List.take_length] at c1
  dsimp only[ay]
  subst hY
  refine ax fun Y hY=>?_
  refine⟨by decide,fun N hN=>?_⟩
  have sN:=Same.new (o:=.lst []) hN
  have NM:H N=none:=s1.free hN
  have Tp:C≠N:=aq c1 hN
  dsimp only[ay]
  subst hY
  refine ax fun Y hY=>?_
  have s2:=s1.trans sN
  refine⟨_,rfl,_,rfl,_,ss.length,rfl,.inr ⟨_,.of (s2 _ _ en),by rw[List.length_map]⟩,b,ss.length,rfl,hb4,ur,fun Da pa H3 yL s3 e3 t3=>?_⟩
  have Cu:pa.length=b ^ ss.length:=by rw[Paired.length t3,dX]
  have Tq:Da≠N:=fun y=>by rw[y] at yL;rw[af] at yL;cases yL
  refine⟨Da,rfl,⟨_,.of e3⟩,i_ (xs:=pa.map V.ref) (fun i σ H'=>∃(v5 v6 v7:Option V),σ=[some (.int (b:Nat)),some (.ref na),some (.ref oa),some (.ref C),some (.ref N),v5,v6,v7]∧Same H H'∧a_ H3 H'∧H' Da=some (.lst (pa.map V.ref))∧H' C=some (.lst ((ai (ts.map (idx ss))).map V.int))∧H' N=some (.lst ((ai ((List.range i).map (pk b ss.length (ts.map (idx ss))))).map V.int)))
   ⟨none,none,none,rfl,s2.trans s3,(Same.refl _).kt,e3,s3 _ _ (sN _ _ c1),s3 _ _ af⟩ (fun i σ H' _ ⟨_,_,_,_,_,_,e,_⟩=>.of e) ?_ ?_⟩
  ·rintro i x σ H4 M1 wR hx ⟨v5,v6,v7,rfl,s4,t4,e4,c4,n4⟩
   obtain⟨p,rfl,ep⟩:=lQ hx
   have hi:i<b ^ ss.length:=by rw[←Cu];exact(List.getElem?_eq_some_iff.mp ep).1
   obtain⟨l',hl',el⟩:=t3.get ep
   rw[r_ hb0 _ _ hi] at hl'
   have:=Option.some.inj hl'
   subst this
   have Ts:=t4 _ _ el
   dsimp only[ay]
   refine ax fun Y2 dM=>?_
   dsimp only[kX,tC,ay]
   subst dM
   refine ax fun Y2 dM=>?_
   refine⟨_,rfl,C,rfl,⟨_,.of c4⟩,i_ (xs:=(ai (ts.map (idx ss))).map V.int) (fun j σ H'=>∃v7:Option V,σ=[some (.int (b:Nat)),some (.ref na),some (.ref oa),some (.ref C),some (.ref N),some (.ref p),some (.int (lst b 0 (((ts.map (idx ss)).take j).map fun s=>(fl b ss.length i).getD s 0):Nat)),v7]∧H'=H4)
    ⟨v7,rfl,rfl⟩ (fun j σ H' _ ⟨_,_,e⟩=>e▸.of c4) ?_ ?_⟩
   ·rintro j y σ H5 M2 uv hy ⟨v7,rfl,rfl⟩
    obtain⟨sp,rfl,es⟩:=fv hy
    have hsp:sp<ss.length:=by
     obtain⟨t,ht,rfl⟩:=List.mem_map.mp (List.mem_of_getElem? es)
     exact(qS (hsub t ht)).2.1
    refine⟨_,rfl,_,rfl,_,_,rfl,rfl,.inr (by constructor<;>omega),_,rfl,_,rfl,p,_,_,.int ((fl b ss.length i).getD sp 0:Nat),rfl,rfl,.of Ts,aB (dy (by rw[fq];exact hsp)),_,_,rfl,rfl,uv _ _ ⟨some (.int (sp:Nat)),?_,rfl⟩⟩
    rw[take_snoc es,List.map_append,List.map_cons,List.map_nil,r9,Int.natCast_add,Int.natCast_mul]
    rfl
   ·rintro σ H5 ⟨v7,rfl,rfl⟩
    rw[List.length_map,aD,List.take_length]
    subst dM
    refine⟨_,rfl,.inl ⟨rfl,_,.of n4⟩,_,rfl,N,_,_,rfl,rfl,n4,?_,wR _ _ ⟨_,_,_,rfl,s4.kbn NM KB.write,t4.trans (a_.lst n4),by rw[ak Tq];exact e4,by rw[ak Tp];exact c4,?_⟩⟩
    ·rw[List.length_map,aD,List.length_map,List.length_range];omega
    ·rw[af,List.range_succ,List.map_append,bj,List.map_append];rfl
  ·rintro σ H4 ⟨v5,v6,v7,rfl,s4,t4,e4,c4,n4⟩
   rw[List.length_map,Cu] at n4
   subst hY
   exact⟨_,rfl,k N H4 NM s4 n4⟩
def FF:List (Pos×Str):=[(⟨80,13,80,69⟩,(("sets_growth":Str)++".<locals>.")++"<lambda>"),(⟨81,26,81,72⟩,(("sets_growth":Str)++".<locals>.")++"<lambda>")]
def JW:List (Pos×Str):=[(⟨205,4,209,43⟩,(("_law_due":Str)++".<locals>.")++"_law_onward")]
structure TB (a:bW) (H:Hp):Prop where
 sg:Tab H a.cK FF
 du:Tab H a.iG JW
def KX (a:bW) (H H':Hp):Prop:=∀b o,H b=some o→(∀qs,o≠.dZ qs)→H' b=some o
theorem KX.trans {a:bW} {H H1 H2:Hp} (x:KX a H H1) (y:KX a H1 H2):KX a H H2:=fun b o e n=>y b o (x b o e n) n
theorem KX.same {a:bW} {H H':Hp} (s:Same H H'):KX a H H':=fun b o e _=>s b o e
theorem KX.kt {a:bW} {H H':Hp} (x:KX a H H'):a_ H H':=fun b xs e=>x b _ e fun _ z=>nomatch z
theorem KX.kb {a:bW} {H H':Hp} {T:Addr} {L:List (Pos×Str)} (t:Tab H T L) (k:KB T H H'):KX a H H':=fun b o e n=>k b o e fun z=>by
 obtain⟨qs,h,_⟩:=t
 rw[z,h] at e
 exact n qs (Option.some.inj e).symm
theorem _root_.L2.Tab.NN {H H':Hp} {T d:Addr} {L L':List (Pos×Str)} (x:Tab H T L) (y:Tab H d L') (s:KB d H H') (hd:T≠d):Tab H' T L:=by
 obtain⟨ps,h1,h2,h3⟩:=x
 obtain⟨qs,g,_⟩:=y
 refine⟨ps,s _ _ h1 hd,h2,fun p hp=>?_⟩
 rcases h3 p hp with z | ⟨c,z1,z2⟩
 ·exact .inl z
 ·exact .inr ⟨c,z1,s _ _ z2 fun e=>by rw[e,g] at z2;cases z2⟩
theorem TB.same {a:bW} {H H':Hp} (t:TB a H) (s:Same H H'):TB a H':=⟨t.sg.same s,t.du.same s⟩
theorem TB.ksg {K:PySem.W.Frag} {mg:Str→Option Value} {a:bW} (T:Txt K mg a) {H H':Hp} (t:TB a H) (k:KB a.cK H H') (y:Tab H' a.cK FF):TB a H':=⟨y,t.du.NN t.sg k T.vT.symm⟩
theorem TB.Tt {K:PySem.W.Frag} {mg:Str→Option Value} {a:bW} (T:Txt K mg a) {H H':Hp} (t:TB a H) (k:KB a.iG H H') (y:Tab H' a.iG JW):TB a H':=⟨t.sg.NN t.du k T.vT,y⟩
def Mc (b:Nat) (H:Hp) (m:Addr) (ss:List Str) (bs:List Bool) (mv:List (List Nat)):Prop:=∃nm,fK H m nm bs mv∧H nm=some (.tup (ss.map V.str))∧Moves bs.length (b ^ ss.length) mv∧0<bs.length
theorem Mc.keep {b:Nat} {H H':Hp} {m:Addr} {ss:List Str} {bs:List Bool} {mv:List (List Nat)} (h:Mc b H m ss bs mv) (k:a_ H H'):Mc b H' m ss bs mv:=by
 obtain⟨nm,h1,h2,h3,h4⟩:=h
 exact⟨nm,h1.keep k,k _ _ h2,h3,h4⟩
def own (b:Nat) (us ss:List Str) (c:Nat):Nat:=(mU b us ss).getD c 0
theorem JX {b:Nat} (hb:0<b) {us ss:List Str} {c:Nat} (hc:c<b ^ us.length):own b us ss c<b ^ ss.length:=by
 unfold own
 rw[yJ b us ss hc]
 have:=M7 (m:=us.length) hb (ss.map (idx us)) c
 rwa [List.length_map] at this
theorem Cv {α:Type} {x0:α} {on:α→Nat→α} {B:Nat} {xs:List α} {mv:List (List Nat)} (g:bZ x0 on B xs mv):0<xs.length:=(List.getElem?_eq_some_iff.mp g.first).1
def bD (H:Hp) (as:List Addr) (xss:List (List Nat)):Prop:=Paired (fun(b:Addr) (l:List Nat)=>H b=some (.lst ((ai l).map V.int))) as xss
theorem bD.keep {H H':Hp} {as:List Addr} {xss:List (List Nat)} (h:bD H as xss) (k:∀b∈as,∀o,H b=some o→H' b=some o):bD H' as xss:=by
 unfold bD at h ⊢
 induction h with
 | nil=>exact .nil
 | cons r t ih=>exact .cons (k _ List.mem_cons_self _ r) (ih fun b hb=>k b (List.mem_cons_of_mem _ hb))
theorem bD.at {H:Hp} {as:List Addr} {xss:List (List Nat)} {i:Nat} {b:Addr} (h:bD H as xss) (hi:as[i]? =some b):∃l,xss[i]? =some l∧H b=some (.lst ((ai l).map V.int)):=cZ h hi
theorem bD.back {H:Hp}:∀{as:List Addr} {xss:List (List Nat)} {i:Nat} {l:List Nat},bD H as xss→xss[i]? =some l→∃b,as[i]? =some b∧H b=some (.lst ((ai l).map V.int))
 | _,_,_,_,.nil,e=>by simp at e
 | _,_,0,_,.cons r _,e=>by simp at e;subst e;exact⟨_,rfl,r⟩
 | _,_,i+1,_,.cons _ t,e=>by
  simp only[List.getElem?_cons_succ] at e ⊢
  exact bD.back t e
theorem bD.len {H:Hp} {as:List Addr} {xss:List (List Nat)} (h:bD H as xss):as.length=xss.length:=Paired.length h
theorem bD.snoc {H:Hp} {as:List Addr} {xss:List (List Nat)} {b:Addr} {l:List Nat} (h:bD H as xss) (e:H b=some (.lst ((ai l).map V.int))):bD H (as++[b]) (xss++[l]):=by
 unfold bD at h ⊢
 induction h with
 | nil=>exact .cons e .nil
 | cons r t ih=>exact .cons r ih
theorem bD.mem {H:Hp} {as:List Addr} {xss:List (List Nat)} {b:Addr} (h:bD H as xss) (hb:b∈as):∃l,H b=some (.lst ((ai l).map V.int)):=by
 obtain⟨i,hi⟩:=List.getElem?_of_mem hb
 obtain⟨l,_,e⟩:=h.at hi
 exact⟨l,e⟩
theorem bD.set {H:Hp}:∀{as:List Addr} {xss:List (List Nat)} {i:Nat} {b:Addr} {l:List Nat},bD H as xss→as.Nodup→as[i]? =some b→bD (upd H b (.lst ((ai l).map V.int))) as (xss.set i l)
 | _,_,_,_,_,.nil,_,e=>by simp at e
 | a::as,x::xss,0,b,l,.cons r t,nd,e=>by
  simp at e;subst e
  refine .cons af (bD.keep t fun c hc o q=>?_)
  rw[ak (fun z:c=a=>(List.nodup_cons.mp nd).1 (z▸hc))];exact q
 | a::as,x::xss,i+1,b,l,.cons r t,nd,e=>by
  simp only[List.getElem?_cons_succ] at e
  refine .cons ?_ (bD.set t (List.nodup_cons.mp nd).2 e)
  rw[ak (fun z:a=b=>(List.nodup_cons.mp nd).1 (z▸List.mem_of_getElem? e))];exact r
def oth (ss:List Str) (x:Str):List Str:=ss.filter fun s=> !decide (V.str s=V.str x)
theorem yM {ss:List Str} {x y:Str}:y∈oth ss x↔y∈ss∧y≠x:=by
 unfold oth
 rw[List.mem_filter]
 refine and_congr Iff.rfl ?_
 rw[Bool.not_eq_true',decide_eq_false_iff_not]
 exact not_congr ⟨fun e=>by injection e,fun e=>by rw[e]⟩
def Ew:Sp:=fun vs H Q _=>∃(m nm y v:Addr) (ss:List Str) (x:Str),vs=[.ref m,.str x]∧H m=some (.tup [.ref nm,.ref y,.ref v])∧H nm=some (.tup (ss.map V.str))∧ss.length≤4∧
 ∀(N:Addr) (H':Hp),Same H H'→H' N=some (.tup ((oth ss x).map V.str))→Q (.ref N) H'
theorem si:aS ["machine","name"] ["machine","name"] (aj dr):=⟨rfl,rfl,rfl,by decide+kernel,rfl,by decide+kernel,by decide+kernel⟩
theorem iH {a:bW} (T:Txt K mg a):bf P w K mg base bT 1 a.gw a.iE ["machine","name"] Ew:=by
 refine T.uQ.ok si (fun vs H Q E h=>?_) (fun cdv A outer s H vs Q E hr h=>?_)
 ·obtain⟨m,nm,y,v,ss,x,rfl,_⟩:=h
  rfl
 ·obtain⟨m,nm,y,v,ss,x,rfl,e1,e2,hs,k⟩:=h
  refine⟨_,(au (aR (aY (aX K) (by rfl) T.bS bB (ae (cF (aI.mk' (esc:=aj dr) (N:=["machine","name"]) (own:=["own"]) (aF:=["name"]) (bJ:=[1]) rfl rfl (by decide+kernel)) rfl (fF (aJ (aO K) (pv 0) ao (fun _ _=>rfl))) (fun _ _ _ _=>(az (i:=0) (show List.Nodup (["own","name"]:List Str) by decide+kernel) rfl (Or.inl rfl))) (fun _ _ _ _=>(jV (bo my (pv 0) (pv 1) (aU _)))) (fun _ _ _ _=>(pv 0))) ag)))),?_⟩
  have big:(10000:Nat)≤sizeLine:=by decide
  refine⟨_,rfl,m,_,_,.ref nm,rfl,rfl,.of e1,aB (j:=0) rfl,nm,rfl,⟨_,.of e2⟩,fun C hC=>?_⟩
  refine iu (xs:=ss.map V.str) (fun i σ H'=>∃v:Option V,σ=[v,some (.str x)]∧Same H H'∧H' C=some (.lst ((oth (ss.take i) x).map V.str)))
   ⟨none,?sg,Same.new hC,af⟩ (fun i σ H' _ ⟨_,_,s,_⟩=>.of (s _ _ e2)) ?_ ?_
  case sg=>rfl
  ·rintro i z σ H' hx ⟨v,rfl,s',c'⟩
   rw[List.getElem?_map] at hx
   obtain⟨t,et,rfl⟩:=Option.map_eq_some_iff.mp hx
   have hi:=(List.getElem?_eq_some_iff.mp et).1
   refine⟨_,rfl,_,rfl,rfl,_,rfl,?_⟩
   have tk:oth (ss.take (i+1)) x=oth (ss.take i) x++oth [t] x:=by unfold oth;rw[take_snoc et,List.filter_append]
   refine dk (fun z=>?_) (fun z=>?_)
   ·have e3:oth [t] x=[t]:=by unfold oth;rw[List.filter_cons,if_pos z];rfl
    refine⟨_,rfl,_,c',?_,_,rfl,s'.kbn hC KB.write,?_⟩
    ·rw[List.length_map]
     have:=List.length_filter_le (fun s=> !decide (V.str s=V.str x)) (ss.take i)
     rw[List.length_take] at this
     show(oth (ss.take i) x).length<_
     unfold oth
     omega
    ·rw[af,tk,e3,List.map_append];rfl
   ·have e3:oth [t] x=[]:=by unfold oth;rw[List.filter_cons,if_neg z];rfl
    exact⟨_,rfl,s',by rw[c',tk,e3,List.append_nil]⟩
  rintro σ H1 ⟨v,rfl,s1,c1⟩
  rw[List.length_map,List.take_length] at c1
  refine⟨C,_,rfl,.inl ⟨.of c1,fun Y hY=>?_⟩⟩
  have sY:=Same.new (o:=.tup ((oth ss x).map V.str)) hY
  exact k Y _ (s1.trans sY) af
def lA (f:Nat→Nat) (n i:Nat):List (List Nat):=(List.range n).map fun t=>(List.range i).filter fun r=>f r == t
theorem iI (f:Nat→Nat) (n i:Nat):(lA f n i).length=n:=by unfold lA;rw[List.length_map,List.length_range]
theorem lV {f:Nat→Nat} {n i t:Nat} (h:t<n):(lA f n i)[t]? =some ((List.range i).filter fun r=>f r == t):=by
 unfold lA
 rw[List.getElem?_map,List.getElem?_range h];rfl
theorem Cw {f:Nat→Nat} {n i:Nat} (h:f i<n):lA f n (i+1)=(lA f n i).set (f i) (((List.range i).filter fun r=>f r == f i)++[i]):=by
 refine List.ext_getElem? fun t=>?_
 by_cases ht:t<n
 ·rw[lV ht]
  by_cases e:t=f i
  ·subst e
   rw[List.getElem?_set_self (by rw[iI];exact h),List.range_succ,List.filter_append]
   congr 2
   simp
  ·rw[List.getElem?_set_ne (Ne.symm e),lV ht,List.range_succ,List.filter_append]
   congr 1
   have:(f i == t)=false:=beq_false_of_ne (Ne.symm e)
   simp[this]
 ·rw[List.getElem?_eq_none (by rw[iI];omega),List.getElem?_eq_none (by rw[List.length_set,iI];omega)]
def bA (b:Nat) (ss os:List Str):List (List Nat):=lA (own b ss os) (b ^ os.length) (b ^ ss.length)
def JY:Sp:=fun vs H Q _=>∃(b:Nat) (m nm y v:Addr) (ss:List Str) (x:Str),vs=[.int b,.ref m,.str x]∧0<b∧b≤4∧H m=some (.tup [.ref nm,.ref y,.ref v])∧H nm=some (.tup (ss.map V.str))∧ss.length≤4∧
 ∀(t:Addr) (as:List Addr) (H':Hp),Same H H'→H' t=some (.lst (as.map V.ref))→bD H' as (bA b ss (oth ss x))→Q (.ref t) H'
theorem lW (ss:List Str) (x:Str):(oth ss x).length≤ss.length:=List.length_filter_le _ _
theorem dN:aS ["base","machine","name","others","over","letter","other"] ["base","machine","name"] (aj cS):=⟨rfl,rfl,rfl,by decide+kernel,rfl,by decide+kernel,by decide+kernel⟩
set_option maxHeartbeats 16000000 in
theorem qT {a:bW} (T:Txt K mg a):bf P w K mg base bT 3 a.fV a.ib ["base","machine","name"] JY:=by
 have ft:=iH (P:=P) (w:=w) (base:=base) T
 have dv:=fY (P:=P) (w:=w) (base:=base) T
 have uT:=sf (P:=P) (w:=w) (base:=base) T
 refine T.rP.ok dN (fun vs H Q E h=>?_) (fun cdv A outer s H vs Q E hr h=>?_)
 ·obtain⟨b,m,nm,y,v,ss,x,rfl,_⟩:=h
  rfl
 ·obtain⟨b,m,nm,y,v,ss,x,rfl,hb0,hb4,e1,e2,hs,k⟩:=h
  have eI:aP 1 _:=hr.mono (by decide)
  have cV:aP 1 _:=hr.mono (by decide)
  have sj:aP 2 _:=hr
  refine⟨_,(ah (av (i:=3) dN.nd rfl (Or.inl rfl) (aC ft eI rfl T.jf T.jg T.jh .nil aN (ae (pv 1) (ae (pv 2) ag))))
  (ah (eV (i:=4) (aI.mk' (esc:=aj cS) (N:=["base","machine","name","others","over","letter","other"]) (own:=["letter"]) (aF:=[]) (bJ:=[]) rfl rfl (by decide+kernel)) rfl (cb (aC dv cV rfl T.gx T.gy T.gA .nil aN (ae (pv 0) (ae (aA (aM K) (by rfl) T.bF bg (ae (pv 3) ag)) ag)))) (fun _ _ _ _=>(az (i:=0) (show List.Nodup (["letter"]:List Str) by decide+kernel) rfl (Or.inl rfl))) (fun _ _ _ _=>bU) (fun _ _ _ _=>(bz ag)) dN.nd rfl rfl)
  (ah (bq PassesOwn.never rfl (GZ rfl T.lq (ae (aC uT sj rfl T.uN T.uO T.uP .nil aN (ae (pv 0) (ae (aJ (aO K) (pv 1) ao (fun _ _=>rfl)) (ae (pv 3) ag)))) ag)) (nL rfl (dj (az (i:=5) dN.nd rfl (Or.inl rfl)) (dj (az (i:=6) dN.nd rfl (Or.inl rfl)) jD)))
   (au (bt (cf PySem.F.plainAttrs_list PySem.F.slot_list_append PySem.F.type_list_append aZ (aJ (bC K) (pv 4) (pv 6) (fun _ _=>rfl)) (ae (pv 5) ag)))))
  (au (aR (pv 4)))))),?_⟩
  have big:(10000:Nat)≤sizeLine:=by decide
  refine⟨_,rfl,_,rfl,m,nm,y,v,ss,x,rfl,e1,e2,hs,fun N H1 s1 eN=>?_⟩
  have ho:=lW ss x
  generalize hos:oth ss x=os at eN ho k ⊢
  have PN:∀t∈os,t∈ss:=fun t ht=>by rw[←hos] at ht;exact(yM.mp ht).1
  have hB:b ^ os.length≤256:=cp hb4 (by omega)
  have hB2:b ^ ss.length≤256:=cp hb4 (by omega)
  dsimp only[ay]
  refine⟨_,rfl,_,rfl,_,os.length,rfl,.inr ⟨_,.of eN,by rw[List.length_map]⟩,b,os.length,rfl,hb4,by omega,fun D0 FE H2 pA s2 e3 t3=>?_⟩
  have l0:FE.length=b ^ os.length:=by rw[Paired.length t3,dX]
  have s12:=s1.trans s2
  refine⟨D0,rfl,⟨_,.of e3⟩,fun L hL=>?_⟩
  refine dH (xs:=FE.map V.ref) (fun j σ H'=>∃(v:Option V) (as:List Addr),σ=[v]∧Same H2 H'∧H' L=some (.lst (as.map V.ref))∧as.length=j∧(∀b∈as,H2 b=none)∧as.Nodup∧L ∉ as∧bD H' as ((List.range j).map fun _=>[]))
   ⟨none,[],?sg,Same.new hL,af,rfl,fun b hb=>(by cases hb),by simp,by simp,.nil⟩ (fun j σ H' _ ⟨_,_,_,s',_⟩=>.of (s' _ _ e3)) ?_ ?_
  case sg=>rfl
  ·rintro j y σ H1 hy ⟨v,as,rfl,s1,l1,la,fr,nd,nl,ls⟩
   have hj:j<b ^ os.length:=by
    have:=(List.getElem?_eq_some_iff.mp hy).1
    rw[List.length_map,l0] at this;exact this
   refine⟨by show 0≤sizeLine;omega,fun b hb=>?_⟩
   have Cy:L≠b:=aq l1 hb
   have sb:=Same.new (o:=.lst []) hb
   have bn:b ∉ as:=fun z=>by obtain⟨l,e⟩:=ls.mem z;rw[hb] at e;cases e
   refine⟨_,sb _ _ l1,by rw[List.length_map];omega,_,as++[b],rfl,(s1.trans sb).kbn hL KB.write,by rw[af,List.map_append];rfl,by rw[List.length_append,la];rfl,fun c hc=>?_,?_,?_,?_⟩
   ·rcases List.mem_append.mp hc with z | z
    ·exact fr c z
    ·rw[List.mem_singleton.mp z];exact s1.free hb
   ·rw[List.nodup_append]
    exact⟨nd,by simp,fun x hx y hy e=>bn (by rw[←List.mem_singleton.mp hy,←e];exact hx)⟩
   ·intro z
    rcases List.mem_append.mp z with z | z
    ·exact nl z
    ·exact Cy (List.mem_singleton.mp z)
   ·rw[List.range_succ,List.map_append]
    refine bD.snoc (ls.keep fun c hc o q=>?_) ?_
    ·rw[ak (fun z:c=L=>nl (z▸hc))];exact sb _ _ q
    ·rw[ak Cy.symm,af];rfl
  rintro σ H3 ⟨v3,as,rfl,s3,l3,la,fr,nd,nl,ls⟩
  rw[List.length_map,l0] at la ls
  have e0:((List.range (b ^ os.length)).map fun _=>([]:List Nat))=lA (own b ss os) (b ^ os.length) 0:=by unfold lA;simp
  rw[e0] at ls
  dsimp only[ay]
  have NP:=s12.trans s3
  refine⟨_,rfl,_,rfl,m,_,_,.ref nm,rfl,rfl,.of (NP _ _ e1),aB (j:=0) rfl,_,rfl,b,nm,N,ss,os,rfl,hb0,hb4,hs,NP _ _ e2,(s2.trans s3) _ _ eN,by omega,PN,fun O H4 hO s4 eO=>?_⟩
  refine⟨_,rfl,⟨_,.of eO⟩,?_⟩
  have uw:=s3.trans s4
  refine DG (xs:=(ai (mU b ss os)).map V.int) (fun i σ H'=>∃v5 v6:Option V,σ=[some (.int (b:Nat)),some (.ref m),some (.str x),some (.ref N),some (.ref L),v5,v6]∧Same H2 H'∧H' O=some (.lst ((ai (mU b ss os)).map V.int))∧H' L=some (.lst (as.map V.ref))∧bD H' as (lA (own b ss os) (b ^ os.length) i))
   ⟨none,none,rfl,uw,eO,s4 _ _ l3,ls.keep fun c _ o q=>s4 _ _ q⟩ (fun i σ H' _ ⟨_,_,_,_,o',_⟩=>.of o') ?_ ?_
  ·rintro i y p σ H5 hy ⟨v5,v6,rfl,s5,o5,l5,lX⟩ hp
   have hi:i<b ^ ss.length:=by
    have:=(List.getElem?_eq_some_iff.mp hy).1
    rw[List.length_map,aD,pZ] at this;exact this
   rw[dy (by rw[pZ];exact hi)] at hy
   have hy':=Option.some.inj hy
   subst hy'
   have sp:=Same.new (o:=.tup [.int (i:Nat),.int ((mU b ss os).getD i 0:Nat)]) hp
   have hst:own b ss os i<b ^ os.length:=JX hb0 hi
   obtain⟨c,hc⟩:∃c,as[own b ss os i]? =some c:=⟨_,List.getElem?_eq_getElem (by rw[la];exact hst)⟩
   obtain⟨l,el,hl⟩:=lX.at hc
   rw[lV hst] at el
   have NQ:=Option.some.inj el
   have bL:L≠c:=fun z=>nl (z▸List.mem_of_getElem? hc)
   have Aa:H2 c=none:=fr c (List.mem_of_getElem? hc)
   have bO:O≠c:=fun z=>by
    rw[←z] at hl
    have z1:H3 O=none:=hO
    obtain⟨l9,e9⟩:=ls.mem (List.mem_of_getElem? hc)
    rw[←z,z1] at e9;cases e9
   refine⟨p,_,rfl,.of af,rfl,_,_,rfl,_,_,rfl,rfl,?_⟩
   refine⟨_,rfl,_,rfl,L,_,_,V.ref c,rfl,rfl,.of (sp _ _ l5),aB (by rw[List.getElem?_map];exact congrArg (Option.map V.ref) hc),Or.inl ⟨rfl,_,.of (sp _ _ hl)⟩,_,rfl,c,_,_,rfl,rfl,sp _ _ hl,?_,?_⟩
   ·rw[List.length_map,aD,←NQ]
    have:=List.length_filter_le (fun r=>own b ss os r == own b ss os i) (List.range i)
    rw[List.length_range] at this
    omega
   ·refine⟨_,_,rfl,(s5.trans sp).kbn Aa KB.write,by rw[ak bO];exact sp _ _ o5,by rw[ak bL];exact sp _ _ l5,?_⟩
    rw[Cw hst,NQ]
    have:=bD.set (l:=l++[i]) (lX.keep fun c _ o q=>sp c o q) nd hc
    rw[bj,List.map_append] at this
    exact this
  ·rintro σ H5 ⟨v5,v6,rfl,s5,o5,l5,lX⟩
   rw[List.length_map,aD,pZ] at lX
   refine⟨_,rfl,k L as H5 (s12.trans s5) l5 ?_⟩
   exact lX
structure oK (n:Nat) (mv:List (List Nat)) (cs:List Nat) (i j:Nat) (dO:List (List Nat)):Prop where
 len:dO.length=n
 size:∀(u:Nat) (l:List Nat),dO[u]? =some l→l.length≤i*cs.length+j
 mem:∀(u:Nat) (l:List Nat),dO[u]? =some l→∀r,r∈l↔(r<i∧∃c∈cs,stp mv r c=u)∨(r=i∧∃c∈cs.take j,stp mv i c=u)
theorem oK.begin {n:Nat} {mv:List (List Nat)} {cs:List Nat}:oK n mv cs 0 0 ((List.range n).map fun _=>[]):=by
 refine⟨by simp,fun u l h=>?_,fun u l h r=>?_⟩
 ·rw[List.getElem?_map] at h
  obtain⟨_,_,rfl⟩:=Option.map_eq_some_iff.mp h
  simp
 ·rw[List.getElem?_map] at h
  obtain⟨_,_,rfl⟩:=Option.map_eq_some_iff.mp h
  simp
theorem oK.put {n:Nat} {mv:List (List Nat)} {cs:List Nat} {i j c:Nat} {dO:List (List Nat)} {l:List Nat} (h:oK n mv cs i j dO) (hc:cs[j]? =some c) (hl:dO[stp mv i c]? =some l):oK n mv cs i (j+1) (dO.set (stp mv i c) (l++[i])):=by
 have hlt:=(List.getElem?_eq_some_iff.mp hl).1
 have tk:∀P:Nat→Prop,(∃x∈cs.take (j+1),P x)↔(∃x∈cs.take j,P x)∨P c:=fun P=>by
  rw[take_snoc hc]
  constructor
  ·rintro⟨x,hx,p⟩
   rcases List.mem_append.mp hx with z | z
   ·exact .inl ⟨x,z,p⟩
   ·rw[List.mem_singleton.mp z] at p;exact .inr p
  ·rintro(⟨x,hx,p⟩ | p)
   ·exact⟨x,List.mem_append.mpr (.inl hx),p⟩
   ·exact⟨c,List.mem_append.mpr (.inr (List.mem_singleton.mpr rfl)),p⟩
 refine⟨by rw[List.length_set];exact h.len,fun u m hm=>?_,fun u m hm r=>?_⟩
 ·by_cases e:stp mv i c=u
  ·subst e
   rw[List.getElem?_set_self hlt] at hm
   have:=Option.some.inj hm
   subst this
   have:=h.size _ _ hl
   rw[List.length_append,List.length_singleton];omega
  ·rw[List.getElem?_set_ne e] at hm
   have:=h.size _ _ hm
   omega
 ·rw[tk]
  by_cases e:stp mv i c=u
  ·subst e
   rw[List.getElem?_set_self hlt] at hm
   have:=Option.some.inj hm
   subst this
   rw[List.mem_append,h.mem _ _ hl r,List.mem_singleton]
   constructor
   ·rintro((z | ⟨z,y⟩) | z)
    ·exact .inl z
    ·exact .inr ⟨z,.inl y⟩
    ·exact .inr ⟨z,.inr rfl⟩
   ·rintro(z | ⟨z,y | y⟩)
    ·exact .inl (.inl z)
    ·exact .inl (.inr ⟨z,y⟩)
    ·exact .inr z
  ·rw[List.getElem?_set_ne e] at hm
   rw[h.mem _ _ hm r]
   refine or_congr Iff.rfl (and_congr Iff.rfl ?_)
   exact⟨.inl,fun z=>z.elim id fun y=>absurd y e⟩
theorem oK.next {n:Nat} {mv:List (List Nat)} {cs:List Nat} {i:Nat} {dO:List (List Nat)} (h:oK n mv cs i cs.length dO):oK n mv cs (i+1) 0 dO:=by
 refine⟨h.len,fun u l hl=>?_,fun u l hl r=>?_⟩
 ·have:=h.size u l hl
  rw[Nat.add_mul,Nat.one_mul];omega
 ·rw[h.mem u l hl r,List.take_length,List.take_zero]
  constructor
  ·rintro(⟨z,y⟩ | ⟨z,y⟩)
   ·exact .inl ⟨by omega,y⟩
   ·subst z;exact .inl ⟨by omega,y⟩
  ·rintro(⟨z,y⟩ | ⟨_,_,z,_⟩)
   ·by_cases e:r=i
    ·subst e;exact .inr ⟨rfl,y⟩
    ·exact .inl ⟨by omega,y⟩
   ·cases z
def ig (H:Hp) (m nm y v:Addr) (ps:List Addr) (bs:List Bool) (mv:List (List Nat)) (B:Nat):Prop:=H m=some (.tup [.ref nm,.ref y,.ref v])∧H y=some (.tup (bs.map V.bl))∧H v=some (.tup (ps.map V.ref))∧bX H ps (mv.map ai)∧Moves bs.length B mv
theorem ig.keep {H H':Hp} {m nm y v:Addr} {ps:List Addr} {bs:List Bool} {mv:List (List Nat)} {B:Nat} (h:ig H m nm y v ps bs mv B) (k:a_ H H'):ig H' m nm y v ps bs mv B:=by
 obtain⟨h1,h2,h3,h4,h5⟩:=h
 exact⟨k _ _ h1,k _ _ h2,k _ _ h3,h4.keep k,h5⟩
def M':Sp:=fun vs H Q _=>∃(m nm y v lt:Addr) (ps:List Addr) (bs:List Bool) (mv:List (List Nat)) (B:Nat) (cs:List Nat),vs=[.ref m,.ref lt]∧ig H m nm y v ps bs mv B∧H lt=some (.lst ((ai cs).map V.int))∧(∀c∈cs,c<B)∧bs.length≤62∧cs.length≤300∧
 ∀(t:Addr) (as:List Addr) (dO:List (List Nat)) (H':Hp),Same H H'→H' t=some (.lst (as.map V.ref))→bD H' as dO→dO.length=bs.length→(∀(u:Nat) (l:List Nat),dO[u]? =some l→l.length≤20000∧∀r,r∈l↔r<bs.length∧∃c∈cs,stp mv r c=u)→Q (.ref t) H'
theorem dP:aS ["machine","letters","before","room","leads","letter"] ["machine","letters"] (aj cU):=⟨rfl,rfl,rfl,by decide+kernel,rfl,by decide+kernel,by decide+kernel⟩
set_option maxHeartbeats 16000000 in
theorem qU {a:bW} (T:Txt K mg a):bf P w K mg base bT 1 a.fW a.ic ["machine","letters"] M':=by
 refine T.rV.ok dP (fun vs H Q E h=>?_) (fun cdv A outer s H vs Q E hr h=>?_)
 ·obtain⟨m,nm,y,v,lt,ps,bs,mv,B,cs,rfl,_⟩:=h
  rfl
 ·obtain⟨m,nm,y,v,lt,ps,bs,mv,B,cs,rfl,⟨e1,e2,e3,tp,dJ⟩,elt,hcs,hn,hc3,k⟩:=h
  refine⟨_,(ah (eV (i:=2) (aI.mk' (esc:=aj cU) (N:=["machine","letters","before","room","leads","letter"]) (own:=["room"]) (aF:=[]) (bJ:=[]) rfl rfl (by decide+kernel)) rfl (fF (aJ (aO K) (pv 0) ao (fun _ _=>rfl))) (fun _ _ _ _=>(az (i:=0) (show List.Nodup (["room"]:List Str) by decide+kernel) rfl (Or.inl rfl))) (fun _ _ _ _=>bU) (fun _ _ _ _=>(bz ag)) dP.nd rfl rfl)
  (ah (bq PassesOwn.never rfl (vP rfl T.lq (ae (aJ (aO K) (pv 0) ao (fun _ _=>rfl)) ag)) (nL rfl (dj (az (i:=3) dP.nd rfl (Or.inl rfl)) (dj (az (i:=4) dP.nd rfl (Or.inl rfl)) jD)))
   (au (bq PassesOwn.never rfl (cb (pv 1)) (az (i:=5) dP.nd rfl (Or.inl rfl))
    (au (bt (cf PySem.F.plainAttrs_list PySem.F.slot_list_append PySem.F.type_list_append aZ (aJ (bC K) (pv 2) (aJ (aO K) (pv 4) (pv 5) (fun _ _=>rfl)) (fun _ _=>rfl)) (ae (pv 3) ag)))))))
  (au (aR (pv 2))))),?_⟩
  have big:(100000:Nat)≤sizeLine:=by decide
  have lps:ps.length=bs.length:=by rw[Paired.length tp,List.length_map,dJ.len]
  refine⟨_,rfl,m,_,_,.ref y,rfl,rfl,.of e1,aB (j:=1) rfl,y,rfl,⟨_,.of e2⟩,fun L hL=>?_⟩
  refine iu (xs:=bs.map V.bl) (fun j σ H'=>∃(v:Option V) (as:List Addr),σ=[v]∧Same H H'∧H' L=some (.lst (as.map V.ref))∧as.length=j∧(∀b∈as,H b=none)∧as.Nodup∧L ∉ as∧bD H' as ((List.range j).map fun _=>[]))
   ⟨none,[],?sg,Same.new hL,af,rfl,fun b hb=>(by cases hb),by simp,by simp,.nil⟩ (fun j σ H' _ ⟨_,_,_,s',_⟩=>.of (s' _ _ e2)) ?_ ?_
  case sg=>rfl
  ·rintro j y σ H1 hy ⟨v,as,rfl,s1,l1,la,fr,nd,nl,ls⟩
   have hj:j<bs.length:=by
    have:=(List.getElem?_eq_some_iff.mp hy).1
    rw[List.length_map] at this;exact this
   refine⟨by show 0≤sizeLine;omega,fun b hb=>?_⟩
   have Cy:L≠b:=aq l1 hb
   have sb:=Same.new (o:=.lst []) hb
   have bn:b ∉ as:=fun z=>by obtain⟨l,e⟩:=ls.mem z;rw[hb] at e;cases e
   refine⟨_,sb _ _ l1,by rw[List.length_map];omega,_,as++[b],rfl,(s1.trans sb).kbn hL KB.write,by rw[af,List.map_append];rfl,by rw[List.length_append,la];rfl,fun c hc=>?_,?_,?_,?_⟩
   ·rcases List.mem_append.mp hc with z | z
    ·exact fr c z
    ·rw[List.mem_singleton.mp z];exact s1.free hb
   ·rw[List.nodup_append]
    exact⟨nd,by simp,fun x hx y hy e=>bn (by rw[←List.mem_singleton.mp hy,←e];exact hx)⟩
   ·intro z
    rcases List.mem_append.mp z with z | z
    ·exact nl z
    ·exact Cy (List.mem_singleton.mp z)
   ·rw[List.range_succ,List.map_append]
    refine bD.snoc (ls.keep fun c hc o q=>?_) ?_
    ·rw[ak (fun z:c=L=>nl (z▸hc))];exact sb _ _ q
    ·rw[ak Cy.symm,af];rfl
  rintro σ H1 ⟨v0,as,rfl,s1,l1,la,fr,nd,nl,ls⟩
  rw[List.length_map] at la ls
  dsimp only[ay]
  refine⟨_,rfl,m,_,_,.ref v,rfl,rfl,.of (s1 _ _ e1),aB (j:=2) rfl,_,rfl,⟨_,.of (s1 _ _ e3)⟩,?_⟩
  refine Bh (xs:=ps.map V.ref) (fun i σ H'=>∃(v3 v4 v5:Option V) (dO:List (List Nat)),σ=[some (.ref m),some (.ref lt),some (.ref L),v3,v4,v5]∧Same H H'∧H' L=some (.lst (as.map V.ref))∧bD H' as dO∧oK bs.length mv cs i 0 dO)
   ⟨none,none,none,_,rfl,s1,l1,ls,oK.begin⟩ (fun i σ H' _ ⟨_,_,_,_,_,s',_⟩=>.of (s' _ _ e3)) ?_ ?_
  ·rintro i z p σ H2 hy ⟨v3,v4,v5,dO,rfl,s2,l2,lY,yN⟩ hp
   obtain⟨q,rfl,eq⟩:=lQ hy
   have hi:i<bs.length:=by rw[←lps];exact(List.getElem?_eq_some_iff.mp eq).1
   obtain⟨r1,r2,r3⟩:=dJ.row (tp.keep s2.kt) hi
   rw[r1] at eq
   have eq':=Option.some.inj eq
   subst eq'
   have sp:=Same.new (o:=.tup [.int (i:Nat),.ref (ps.getD i 0)]) hp
   refine⟨p,_,rfl,.of af,rfl,_,_,rfl,_,_,rfl,rfl,?_⟩
   have NR:=s2.trans sp
   refine⟨_,rfl,_,rfl,⟨_,.of (NR _ _ elt)⟩,?_⟩
   refine iq (xs:=(ai cs).map V.int) (fun j σ H'=>∃(v5:Option V) (dO:List (List Nat)),σ=[some (.ref m),some (.ref lt),some (.ref L),some (.int (i:Nat)),some (.ref (ps.getD i 0)),v5]∧Same H H'∧H' L=some (.lst (as.map V.ref))∧bD H' as dO∧oK bs.length mv cs i j dO)
    ⟨_,_,rfl,NR,sp _ _ l2,lY.keep fun c _ o q=>sp _ _ q,yN⟩ (fun j σ H' _ ⟨_,_,_,s',_⟩=>.of (s' _ _ elt)) ?_ ?_
   ·rintro j z σ H3 hz ⟨v5,Tv,rfl,s3,l3,qV,Cz⟩
    have hj:j<cs.length:=by
     have:=(List.getElem?_eq_some_iff.mp hz).1
     rw[List.length_map,aD] at this;exact this
    rw[dy hj] at hz
    have hz':=Option.some.inj hz
    subst hz'
    have ej:=item_at 0 hj
    have hcB:=hcs _ (List.mem_of_getElem? ej)
    obtain⟨_,x2,_⟩:=dJ.row (tp.keep s3.kt) hi
    have hst:=dJ.stp hi hcB
    have ex:((ai (mv.getD i [])).map V.int)[cs.getD j 0]? =some (.int (stp mv i (cs.getD j 0):Nat)):=dy (by rw[r3];exact hcB)
    obtain⟨b,hb⟩:∃b,as[stp mv i (cs.getD j 0)]? =some b:=⟨_,List.getElem?_eq_getElem (by rw[la];exact hst)⟩
    obtain⟨l,el,hl⟩:=qV.at hb
    have bL:L≠b:=fun z=>nl (z▸List.mem_of_getElem? hb)
    have Aa:H b=none:=fr b (List.mem_of_getElem? hb)
    have lz:=Cz.size _ _ el
    have iz:i*cs.length≤62*300:=Nat.mul_le_mul (by omega) hc3
    refine⟨_,rfl,_,rfl,_,rfl,_,_,_,_,rfl,rfl,.of x2,aB ex,L,_,_,V.ref b,rfl,rfl,.of l3,aB (by rw[List.getElem?_map,hb];rfl),Or.inl ⟨rfl,_,.of hl⟩,_,rfl,b,_,_,rfl,rfl,hl,?_,?_⟩
    ·rw[List.length_map,aD];omega
    ·refine⟨_,_,rfl,s3.kbn Aa KB.write,by rw[ak bL];exact l3,?_,Cz.put ej el⟩
     have:=bD.set (l:=l++[i]) qV nd hb
     rw[bj,List.map_append] at this
     exact this
   ·rintro σ H3 ⟨v5,Tv,rfl,s3,l3,qV,Cz⟩
    rw[List.length_map,aD] at Cz
    exact⟨_,_,_,_,rfl,s3,l3,qV,Cz.next⟩
  ·rintro σ H2 ⟨v3,v4,v5,dO,rfl,s2,l2,lY,yN⟩
   rw[List.length_map,lps] at yN
   refine⟨_,rfl,k L as dO H2 s2 l2 lY yN.len fun u l hl=>⟨?_,fun r=>?_⟩⟩
   ·have:=yN.size u l hl
    have iz:bs.length*cs.length≤62*300:=Nat.mul_le_mul hn hc3
    omega
   ·rw[yN.mem u l hl r]
    exact⟨fun z=>z.elim id fun⟨_,_,y,_⟩=>(by rw[List.take_zero] at y;cases y),Or.inl⟩
def jj (bs:List Bool) (mv:List (List Nat)) (cs:List Nat) (r:Nat):Prop:=∃z:List Nat,(∀c∈z,c∈cs)∧lang bs mv r z=true
structure Go (bs:List Bool) (mv:List (List Nat)) (cs:List Nat) (X:Nat→Prop) (can:List Bool) (wa:List Nat):Prop where
 len:can.length=bs.length
 wl:∀r∈wa,r<bs.length∧can.getD r false=true
 yes:∀r,bs.getD r false=true→can.getD r false=true
 good:∀r,r<bs.length→can.getD r false=true→jj bs mv cs r
 shut:∀t,t<bs.length→can.getD t false=true→t ∉ wa→¬X t→∀r,r<bs.length→∀c∈cs,stp mv r c=t→can.getD r false=true
theorem Go.begin {bs:List Bool} {mv:List (List Nat)} {cs:List Nat} {wa:List Nat} (h:∀r,r∈wa↔r<bs.length∧bs.getD r false=true):Go bs mv cs (fun _=>False) bs wa:=
 ⟨rfl,fun r hr=>(h r).mp hr,fun _ e=>e,fun r hr e=>⟨[],fun _ z=>(by cases z),e⟩,fun t ht e n=>absurd ((h t).mpr ⟨ht,e⟩) n⟩
theorem Go.pop {bs:List Bool} {mv:List (List Nat)} {cs:List Nat} {can:List Bool} {wa:List Nat} {t:Nat} (g:Go bs mv cs (fun _=>False) can (wa++[t])):Go bs mv cs (fun u=>u=t) can wa:=by
 refine⟨g.len,fun r hr=>g.wl r (List.mem_append.mpr (.inl hr)),g.yes,g.good,fun u hu e n nt=>g.shut u hu e (fun z=>?_) id⟩
 rcases List.mem_append.mp z with y | y
 ·exact n y
 ·exact nt (List.mem_singleton.mp y)
theorem kQ {can:List Bool} {r t:Nat} (h:r<can.length):(can.set r true).getD t false=if t=r then true else can.getD t false:=by
 rw[List.getD_eq_getElem?_getD,List.getD_eq_getElem?_getD]
 by_cases e:t=r
 ·subst e;rw[List.getElem?_set_self h,if_pos rfl];rfl
 ·rw[List.getElem?_set_ne (Ne.symm e),if_neg e]
theorem Go.add {bs:List Bool} {mv:List (List Nat)} {cs:List Nat} {can:List Bool} {wa:List Nat} {t r c:Nat} (g:Go bs mv cs (fun u=>u=t) can wa) (ht:t<bs.length) (ct:can.getD t false=true) (hr:r<bs.length) (hc:c∈cs) (e:stp mv r c=t):Go bs mv cs (fun u=>u=t) (can.set r true) (wa++[r]):=by
 have gd:∀u,(can.set r true).getD u false=if u=r then true else can.getD u false:=fun u=>kQ (by rw[g.len];exact hr)
 have up:∀u,can.getD u false=true→(can.set r true).getD u false=true:=by
  intro u h
  rw[gd]
  by_cases z:u=r
  ·rw[if_pos z]
  ·rw[if_neg z];exact h
 refine⟨by rw[List.length_set];exact g.len,fun u hu=>?_,fun u h=>up u (g.yes u h),fun u hu h=>?_,fun u hu h n nt q hq d hd eq=>?_⟩
 ·rcases List.mem_append.mp hu with z | z
  ·exact⟨(g.wl u z).1,up u (g.wl u z).2⟩
  ·rw[List.mem_singleton.mp z];exact⟨hr,by rw[gd,if_pos rfl]⟩
 ·rw[gd] at h
  by_cases z:u=r
  ·subst z
   obtain⟨x,h1,h2⟩:=g.good t ht ct
   refine⟨c::x,fun d hd=>(List.mem_cons.mp hd).elim (fun y=>y▸hc) (h1 d),?_⟩
   show lang bs mv (stp mv u c) x=true
   rw[e];exact h2
  ·rw[if_neg z] at h;exact g.good u hu h
 ·have nr:u≠r:=fun z=>n (List.mem_append.mpr (.inr (List.mem_singleton.mpr z)))
  rw[gd,if_neg nr] at h
  exact up q (g.shut u hu h (fun z=>n (List.mem_append.mpr (.inl z))) nt q hq d hd eq)
theorem Go.done {bs:List Bool} {mv:List (List Nat)} {cs:List Nat} {can:List Bool} {wa:List Nat} {t:Nat} (g:Go bs mv cs (fun u=>u=t) can wa) (h:∀r,r<bs.length→∀c∈cs,stp mv r c=t→can.getD r false=true):Go bs mv cs (fun _=>False) can wa:=
 ⟨g.len,g.wl,g.yes,g.good,fun u hu e n _=>by
  by_cases z:u=t
  ·subst z;exact h
  ·exact g.shut u hu e n z⟩
theorem Go.fin {bs:List Bool} {mv:List (List Nat)} {cs:List Nat} {can:List Bool} {B:Nat} (m:Moves bs.length B mv) (hcs:∀c∈cs,c<B) (g:Go bs mv cs (fun _=>False) can []):∀r,r<bs.length→(can.getD r false=true↔jj bs mv cs r):=by
 have h:∀(z:List Nat) (r:Nat),r<bs.length→(∀c∈z,c∈cs)→lang bs mv r z=true→can.getD r false=true:=fun z=>by
  induction z with
  | nil=>intro r hr _ e;exact g.yes r e
  | cons c z ih=>
   intro r hr hz e
   have hc:=hz c List.mem_cons_self
   have hst:=m.stp hr (hcs c hc)
   exact g.shut _ hst (ih _ hst (fun d hd=>hz d (List.mem_cons_of_mem _ hd)) e) (fun z=>nomatch z) id r hr c hc rfl
 exact fun r hr=>⟨g.good r hr,fun⟨z,h1,h2⟩=>h z r hr h1 h2⟩
def PQ:Sp:=fun vs H Q _=>∃(m nm y v lt:Addr) (ps:List Addr) (bs:List Bool) (mv:List (List Nat)) (B:Nat) (cs:List Nat),vs=[.ref m,.ref lt]∧ig H m nm y v ps bs mv B∧H lt=some (.lst ((ai cs).map V.int))∧(∀c∈cs,c<B)∧bs.length≤62∧cs.length≤300∧
 ∀(C:Addr) (can:List Bool) (H':Hp),Same H H'→H' C=some (.lst (can.map V.bl))→can.length=bs.length→(∀r,r<bs.length→(can.getD r false=true↔jj bs mv cs r))→Q (.ref C) H'
theorem fw:aS ["machine","letters","before","can","waiting","reached","room"] ["machine","letters"] (aj fb):=⟨rfl,rfl,rfl,by decide+kernel,rfl,by decide+kernel,by decide+kernel⟩
set_option maxHeartbeats 16000000 in
theorem xP {a:bW} (T:Txt K mg a):bf P w K mg base bT 2 a.jw a.lg ["machine","letters"] PQ:=by
 have sk:=qU (P:=P) (w:=w) (base:=base) T
 refine T.zR.ok fw (fun vs H Q E h=>?_) (fun cdv A outer s H vs Q E hr h=>?_)
 ·obtain⟨m,nm,y,v,lt,ps,bs,mv,B,cs,rfl,_⟩:=h
  rfl
 ·obtain⟨m,nm,y,v,lt,ps,bs,mv,B,cs,rfl,gX,elt,hcs,hn,hc3,k⟩:=h
  have qW:aP 1 _:=hr
  refine⟨_,(ah (av (i:=2) fw.nd rfl (Or.inl rfl) (aC sk qW rfl T.rW T.rX T.rY .nil aN (ae (pv 0) (ae (pv 1) ag))))
  (ah (av (i:=3) fw.nd rfl (Or.inl rfl) (aY (zx K) (by rfl) T.qL oT (ae (aJ (aO K) (pv 0) ao (fun _ _=>rfl)) ag)))
  (ah (eV (i:=4) (aI.mk' (esc:=aj fb) (N:=["machine","letters","before","can","waiting","reached","room"]) (own:=["room","yes"]) (aF:=[]) (bJ:=[]) rfl rfl (by decide+kernel)) rfl (vP rfl T.lq (ae (aJ (aO K) (pv 0) ao (fun _ _=>rfl)) ag)) (fun _ _ _ _=>(yo K (n:=2) rfl (dj (az (i:=0) (show List.Nodup (["room","yes"]:List Str) by decide+kernel) rfl (Or.inl rfl)) (dj (az (i:=1) (show List.Nodup (["room","yes"]:List Str) by decide+kernel) rfl (Or.inl rfl)) jD)))) (fun _ _ _ _=>(jV (t7 K (pv 1) (fun _=>rfl)))) (fun _ _ _ _=>(pv 0)) fw.nd rfl rfl)
  (ah (ip PassesOwn.never (dB (pv 4) (fun _=>rfl))
   (ah (av (i:=5) fw.nd rfl (Or.inl rfl) (A4 PySem.F.plainAttrs_list PySem.F.slot_list_pop PySem.F.type_list_pop A5 (pv 4)))
   (au (bq PassesOwn.never rfl (cb (aJ (bC K) (pv 2) (pv 5) (fun _ _=>rfl))) (az (i:=6) fw.nd rfl (Or.inl rfl))
    (au (cX (lF (dB (aJ (bC K) (pv 3) (pv 6) (fun _ _=>rfl)) (fun _=>rfl)))
     (ah (qe iO (AJ (pv 3) (pv 6) set_list))
     (au (bt (cf PySem.F.plainAttrs_list PySem.F.slot_list_append PySem.F.type_list_append aZ (pv 4) (ae (pv 6) ag)))))
     bR))))))
  (au (aR (pv 3))))))),?_⟩
  have big:(100000:Nat)≤sizeLine:=by decide
  refine ax fun Y hY=>?_
  refine⟨_,rfl,_,rfl,m,nm,y,v,lt,ps,bs,mv,B,cs,rfl,gX,elt,hcs,hn,hc3,fun t as dO H1 s1 e1 yO lb PR=>?_⟩
  obtain⟨a1,a2,a3,tp,dJ⟩:=gX
  dsimp only[ay]
  subst hY
  refine ax fun Y hY=>?_
  refine⟨_,rfl,m,_,_,.ref y,rfl,rfl,.of (s1 _ _ a1),aB (j:=1) rfl,y,_,rfl,.inr (.of (s1 _ _ a2)),fun C hC=>?_⟩
  have sC:=Same.new (o:=.lst (bs.map V.bl)) hC
  have s2:=s1.trans sC
  dsimp only[ay]
  subst hY
  refine ax fun Y hY=>?_
  refine⟨_,rfl,m,_,_,.ref y,rfl,rfl,.of (s2 _ _ a1),aB (j:=1) rfl,_,rfl,⟨_,.of (s2 _ _ a2)⟩,fun D hD=>?_⟩
  generalize hH2:upd H1 C (.lst (bs.map V.bl))=H2 at sC s2 hD ⊢
  have eC:H2 C=some (.lst (bs.map V.bl)):=by rw[←hH2];exact af
  have lY:bD H2 as dO:=yO.keep fun b _ o q=>sC _ _ q
  have e2:=sC _ _ e1
  refine zD (xs:=bs.map V.bl) (fun i σ H'=>∃v0 v1:Option V,σ=[v0,v1]∧Same H2 H'∧H' D=some (.lst ((ai ((List.range i).filter fun r=>bs.getD r false)).map V.int)))
   ⟨none,none,?sg,Same.new hD,af⟩ (fun i σ H' _ ⟨_,_,_,s,_⟩=>.of (s _ _ (s2 _ _ a2))) ?_ ?_
  case sg=>rfl
  ·rintro i x p σ H3 hx ⟨v0,v1,rfl,s3,d3⟩ hp
   obtain⟨tv,rfl,et⟩:=En hx
   have hi:=(List.getElem?_eq_some_iff.mp et).1
   have sp:=Same.new (o:=.tup [.int (i:Nat),.bl tv]) hp
   have NS:bs.getD i false=tv:=by rw[List.getD_eq_getElem?_getD,et];rfl
   refine⟨p,_,rfl,.of af,rfl,_,_,rfl,_,_,rfl,rfl,?_⟩
   refine⟨_,rfl,tv,rfl,?_⟩
   refine dk (fun z=>?_) (fun z=>?_)
   ·refine⟨_,rfl,_,sp _ _ d3,?_,_,_,rfl,(s3.trans sp).kbn hD KB.write,?_⟩
    ·rw[List.length_map,aD]
     have:=List.length_filter_le (fun r=>bs.getD r false) (List.range i)
     rw[List.length_range] at this
     omega
    ·rw[af,List.range_succ,List.filter_append,List.filter_cons,if_pos (by rw[NS];exact z),bj,List.map_append];rfl
   ·exact⟨_,_,rfl,s3.trans sp,by rw[List.range_succ,List.filter_append,List.filter_cons,if_neg (by rw[NS];exact z),List.filter_nil,List.append_nil];exact sp _ _ d3⟩
  rintro σ H3 ⟨v0,v1,rfl,s3,d3⟩
  rw[List.length_map] at d3
  dsimp only[ay]
  subst hY
  have fC:H C=none:=s1.free hC
  have fD:H D=none:=s2.free hD
  have JZ:C≠D:=aq eC hD
  have NT:C ∉ as:=fun z=>by obtain⟨l,q⟩:=yO.mem z;rw[hC] at q;cases q
  have J_:D ∉ as:=fun z=>by obtain⟨l,q⟩:=lY.mem z;rw[hD] at q;cases q
  have tC:t≠C:=aq e1 hC
  have tD:t≠D:=aq e2 hD
  refine ax fun Y hY=>?_
  refine oZ (fun M σ H'=>∃(v5 v6:Option V) (can:List Bool) (wa:List Nat),M=2*can.count false+wa.length∧σ=[some (.ref m),some (.ref lt),some (.ref t),some (.ref C),some (.ref D),v5,v6]∧Same H H'∧H' t=some (.lst (as.map V.ref))∧bD H' as dO∧H' C=some (.lst (can.map V.bl))∧H' D=some (.lst ((ai wa).map V.int))∧Go bs mv cs (fun _=>False) can wa∧2*can.count false+wa.length≤1000)
   ⟨_,none,none,bs,_,rfl,rfl,s2.trans s3,s3 _ _ e2,lY.keep fun b _ o q=>s3 _ _ q,s3 _ _ eC,d3,Go.begin fun r=>?b,?c⟩ ?_ (fun σ H Q Q' h ⟨v,e,k,t,q⟩=>⟨v,e,k,t,h _ _ q⟩)
  case b=>rw[List.mem_filter,List.mem_range]
  case c=>
   have h1:=List.length_filter_le (fun r=>bs.getD r false) (List.range bs.length)
   rw[List.length_range] at h1
   have h2:bs.count false≤bs.length:=List.count_le_length
   omega
  ·rintro M σ H4 N hN ⟨v5,v6,can,wa,rfl,rfl,s4,t4,yP,c4,d4,FG,hM⟩
   refine⟨_,rfl,_,.inl ⟨_,.of d4,rfl⟩,?_⟩
   rcases List.eq_nil_or_concat wa with rfl | ⟨nB,u,eW⟩
   ·refine cm ?_
    subst hY
    exact⟨_,rfl,k C can H4 s4 c4 FG.len (FG.fin dJ hcs)⟩
   rw[List.concat_eq_append] at eW
   subst eW
   have ne1:(!((ai (nB++[u])).map V.int).isEmpty)=true:=by rw[bj,List.map_append];simp[ai]
   rw[ne1]
   refine fA ?_
   refine ax fun Y2 dM=>?_
   obtain⟨hu,cu⟩:=FG.wl u (List.mem_append_right _ (List.mem_singleton.mpr rfl))
   have Tw:=FG.pop
   refine⟨_,rfl,Or.inl ⟨rfl,_,.of d4⟩,D,_,.int (u:Nat),rfl,rfl,d4,?_,?_⟩
   ·rw[bj,List.map_append,List.length_append,List.getElem?_append_right (by simp[ai])]
    simp[ai]
   have Tx:((ai (nB++[u])).map V.int).dropLast=(ai nB).map V.int:=by rw[bj,List.map_append];exact List.dropLast_concat ..
   rw[Tx]
   rw[List.length_append,List.length_singleton] at hM hN
   have s5:Same H (upd H4 D (.lst ((ai nB).map V.int))):=s4.kbn fD KB.write
   have t5:(upd H4 D (.lst ((ai nB).map V.int))) t=some (.lst (as.map V.ref)):=by rw[ak tD];exact t4
   have lX:bD (upd H4 D (.lst ((ai nB).map V.int))) as dO:=yP.keep fun b hb o q=>by rw[ak (fun z:b=D=>J_ (z▸hb))];exact q
   have c5:(upd H4 D (.lst ((ai nB).map V.int))) C=some (.lst (can.map V.bl)):=by rw[ak JZ];exact c4
   have d5:(upd H4 D (.lst ((ai nB).map V.int))) D=some (.lst ((ai nB).map V.int)):=af
   generalize upd H4 D (.lst ((ai nB).map V.int))=H5 at s5 t5 lX c5 d5 ⊢
   dsimp only[ay]
   subst dM
   obtain⟨l,hl⟩:∃l,dO[u]? =some l:=⟨_,List.getElem?_eq_getElem (by rw[lb];exact hu)⟩
   obtain⟨WM,J0⟩:=PR u l hl
   obtain⟨bb,hbb,Tz⟩:=lX.back hl
   have WN:bb≠C:=fun z=>NT (z▸List.mem_of_getElem? hbb)
   have WO:bb≠D:=fun z=>J_ (z▸List.mem_of_getElem? hbb)
   refine⟨_,rfl,_,rfl,t,_,_,.ref bb,rfl,rfl,.of t5,aB (by rw[List.getElem?_map,hbb];rfl),_,rfl,⟨_,.of Tz⟩,?_⟩
   refine i_ (xs:=(ai l).map V.int) (fun j σ H'=>∃(v6:Option V) (cn:List Bool) (wa:List Nat),σ=[some (.ref m),some (.ref lt),some (.ref t),some (.ref C),some (.ref D),some (.int (u:Nat)),v6]∧Same H H'∧H' t=some (.lst (as.map V.ref))∧bD H' as dO∧H' C=some (.lst (cn.map V.bl))∧H' D=some (.lst ((ai wa).map V.int))∧Go bs mv cs (fun x=>x=u) cn wa∧cn.getD u false=true∧(∀r∈l.take j,cn.getD r false=true)∧2*cn.count false+wa.length≤2*can.count false+nB.length)
    ⟨_,can,nB,rfl,s5,t5,lX,c5,d5,Tw,cu,fun r hr=>(by rw[List.take_zero] at hr;cases hr),Nat.le_refl _⟩ (fun j σ H' _ ⟨_,_,_,_,_,_,ls',_⟩=>?g) ?_ ?_
   case g=>
    obtain⟨l2,q1,q2⟩:=ls'.at hbb
    rw[hl] at q1
    rw[Option.some.inj q1]
    exact .of q2
   ·rintro j z σ H6 N2 pC hz ⟨v6,eJ,CA,rfl,s6,t6,pD,c6,d6,CB,FH,FI,NU⟩
    have hj:j<l.length:=by
     have:=(List.getElem?_eq_some_iff.mp hz).1
     rw[List.length_map,aD] at this;exact this
    rw[dy hj] at hz
    have hz':=Option.some.inj hz
    subst hz'
    have ej:=item_at 0 hj
    generalize l.getD j 0=r at ej ⊢
    obtain⟨hrn,c,hc,est⟩:=(J0 r).mp (List.mem_of_getElem? ej)
    have lc:eJ.length=bs.length:=CB.len
    have er:(eJ.map V.bl)[r]? =some (.bl (eJ.getD r false)):=by rw[List.getElem?_map,item_at false (by rw[lc];exact hrn)];rfl
    refine⟨_,rfl,_,rfl,C,_,_,_,rfl,rfl,.of c6,aB er,_,rfl,?_⟩
    have tk:∀Ab:List Bool,(∀x,eJ.getD x false=true→Ab.getD x false=true)→Ab.getD r false=true→∀x∈l.take (j+1),Ab.getD x false=true:=fun Ab up hr x hx=>by
     rw[take_snoc ej] at hx
     rcases List.mem_append.mp hx with y | y
     ·exact up x (FI x y)
     ·rw[List.mem_singleton.mp y];exact hr
    cases oh:eJ.getD r false with
    | true=>
     refine cm ?_
     exact pC _ _ ⟨_,eJ,CA,rfl,s6,t6,pD,c6,d6,CB,FH,tk eJ (fun _ h=>h) oh,NU⟩
    | false=>
     refine fA ?_
     refine ax fun Y2 dM=>?_
     have wU:r<eJ.length:=by rw[lc];exact hrn
     have cnt:(eJ.set r true).count false+1=eJ.count false:=by
      have h1:=List.count_set (a:=true) (b:=false) wU
      have h2:eJ[r]=false:=by
       rw[List.getD_eq_getElem?_getD,List.getElem?_eq_getElem wU] at oh
       exact oh
      have h3:0<eJ.count false:=List.count_pos_iff.mpr (h2▸List.getElem_mem wU)
      rw[h2] at h1
      simp at h1
      omega
     have nc:eJ.count false≤eJ.length:=List.count_le_length
     refine⟨_,rfl,_,rfl,C,_,_,r,rfl,rfl,c6,by simp[ng,wU],?_⟩
     rw[show(eJ.map V.bl).set r (.bl true)=(eJ.set r true).map V.bl from(List.map_set ..).symm]
     have d7:(upd H6 C (.lst ((eJ.set r true).map V.bl))) D=some (.lst ((ai CA).map V.int)):=by rw[ak JZ.symm];exact d6
     subst dM
     dsimp only
     refine⟨_,rfl,Or.inl ⟨rfl,_,.of d7⟩,_,rfl,D,_,_,rfl,rfl,d7,by rw[List.length_map,aD];omega,?_⟩
     refine pC _ _ ⟨_,eJ.set r true,CA++[r],rfl,(s6.kbn fC KB.write).kbn fD KB.write,by rw[ak tD,ak tC];exact t6,pD.keep fun b hb o q=>?_,by rw[ak JZ];exact af,by rw[af,bj,List.map_append];rfl,CB.add hu FH hrn hc est,?_,tk _ ?_ ?_,?_⟩
     ·rw[ak (fun z:b=D=>J_ (z▸hb)),ak (fun z:b=C=>NT (z▸hb))];exact q
     ·rw[kQ wU]
      by_cases z:u=r
      ·rw[if_pos z]
      ·rw[if_neg z];exact FH
     ·intro x hx
      rw[kQ wU]
      by_cases z:x=r
      ·rw[if_pos z]
      ·rw[if_neg z];exact hx
     ·rw[kQ wU,if_pos rfl]
     ·rw[List.length_append,List.length_singleton];omega
   ·rintro σ H6 ⟨v6,eJ,CA,rfl,s6,t6,pD,c6,d6,CB,FH,FI,NU⟩
    rw[List.length_map,aD,List.take_length] at FI
    refine hN _ _ _ ?_ ⟨_,_,eJ,CA,rfl,rfl,s6,t6,pD,c6,d6,CB.done fun r hr c hc e=>FI r ((J0 r).mpr ⟨hr,c,hc,e⟩),?_⟩<;>omega
theorem pE {ns:List Int} {l k:List Nat} (hp:ns.Perm (ai l)) (hs:ns.Pairwise (· ≤ ·)) (hk:k.Pairwise (· < ·)) (hl:l.Nodup) (hm:∀r,r∈l↔r∈k):ns=ai k:=by
 have nk:k.Nodup:=hk.imp fun h=>Nat.ne_of_lt h
 have pk:l.Perm k:=(List.perm_ext_iff_of_nodup hl nk).mpr hm
 refine List.Perm.eq_of_pairwise (le:=(· ≤ ·)) (fun a b _ _ h1 h2=>Int.le_antisymm h1 h2) hs ?_ (hp.trans (pk.map _))
 unfold ai
 rw[List.pairwise_map]
 exact hk.imp fun h=>by omega
def ij (kvs:List (Key×V)) (ks:List Nat):Prop:=kvs.map (·.1)=(ai ks).map Sum.inl∧ks.Nodup
theorem ij.has {kvs:List (Key×V)} {ks:List Nat} (h:ij kvs ks) (t:Nat):(kvs.any fun kv=>decide (kv.1=Sum.inl (t:Int)))=true↔t∈ks:=by
 rw[List.any_eq_true]
 constructor
 ·rintro⟨kv,hkv,e⟩
  have e:=of_decide_eq_true e
  have:kv.1∈(ai ks).map (Sum.inl:Int→Key):=by rw[←h.1];exact List.mem_map.mpr ⟨kv,hkv,rfl⟩
  rw[e] at this
  obtain⟨z,hz,ez⟩:=List.mem_map.mp this
  injection ez with ez
  unfold ai at hz
  obtain⟨q,hq,eq⟩:=List.mem_map.mp hz
  have:q=t:=by omega
  exact this▸hq
 ·intro ht
  have:(Sum.inl (t:Int):Key)∈kvs.map (·.1):=by
   rw[h.1]
   exact List.mem_map.mpr ⟨(t:Int),List.mem_map.mpr ⟨t,ht,rfl⟩,rfl⟩
  obtain⟨kv,hkv,e⟩:=List.mem_map.mp this
  exact⟨kv,hkv,decide_eq_true e⟩
theorem ij.put {kvs:List (Key×V)} {ks:List Nat} (h:ij kvs ks) (t:Nat) (v:V):∃ks',ij (putK kvs (Sum.inl (t:Int)) v) ks'∧∀r,r∈ks'↔r∈ks∨r=t:=by
 unfold putK
 by_cases ht:t∈ks
 ·refine⟨ks,⟨?_,h.2⟩,fun r=>⟨.inl,fun z=>z.elim id fun e=>e▸ht⟩⟩
  rw[if_pos ((h.has t).mpr ht),←h.1,List.map_map]
  refine List.map_congr_left fun kv _=>?_
  show(if kv.1=_ then(kv.1,v) else kv).1=kv.1
  split<;>rfl
 ·refine⟨ks++[t],⟨?_,?_⟩,fun r=>by rw[List.mem_append,List.mem_singleton]⟩
  ·rw[if_neg fun z=>ht ((h.has t).mp z),List.map_append,h.1,bj,List.map_append];rfl
  ·rw[List.nodup_append]
   exact⟨h.2,by simp,fun a ha b hb e=>ht (by rw[←List.mem_singleton.mp hb,←e];exact ha)⟩
theorem ij.len {kvs:List (Key×V)} {ks:List Nat} (h:ij kvs ks):kvs.length=ks.length:=by
 have:=congrArg List.length h.1
 rwa [List.length_map,List.length_map,aD] at this
def fL (mv:List (List Nat)) (n:Nat) (S cs:List Nat):List Nat:=(List.range n).filter fun t=>S.any fun r=>cs.any fun c=>stp mv r c == t
theorem iJ {mv:List (List Nat)} {n t:Nat} {S cs:List Nat}:t∈fL mv n S cs↔t<n∧∃r∈S,∃c∈cs,stp mv r c=t:=by
 unfold fL
 rw[List.mem_filter,List.mem_range,List.any_eq_true]
 refine and_congr Iff.rfl ⟨fun⟨r,hr,e⟩=>?_,fun⟨r,hr,c,hc,e⟩=>⟨r,hr,List.any_eq_true.mpr ⟨c,hc,beq_iff_eq.mpr e⟩⟩⟩
 obtain⟨c,hc,e⟩:=List.any_eq_true.mp e
 exact⟨r,hr,c,hc,beq_iff_eq.mp e⟩
def gJ (mv:List (List Nat)) (S cs:List Nat) (i j r:Nat):Prop:=(∃q∈S.take i,∃c∈cs,stp mv q c=r)∨∃q,S[i]? =some q∧∃c∈cs.take j,stp mv q c=r
theorem gJ.put {mv:List (List Nat)} {S cs:List Nat} {i j q c r:Nat} (hq:S[i]? =some q) (hc:cs[j]? =some c):gJ mv S cs i (j+1) r↔gJ mv S cs i j r∨r=stp mv q c:=by
 unfold gJ
 rw[take_snoc hc,or_assoc]
 refine or_congr Iff.rfl ⟨?_,?_⟩
 ·rintro⟨q',hq',d,hd,e⟩
  rcases List.mem_append.mp hd with z | z
  ·exact .inl ⟨q',hq',d,z,e⟩
  ·rw[hq] at hq';cases hq'
   rw[List.mem_singleton.mp z] at e
   exact .inr e.symm
 ·rintro(⟨q',hq',d,hd,e⟩ | e)
  ·exact⟨q',hq',d,List.mem_append.mpr (.inl hd),e⟩
  ·exact⟨q,hq,c,List.mem_append.mpr (.inr (List.mem_singleton.mpr rfl)),e.symm⟩
theorem gJ.next {mv:List (List Nat)} {S cs:List Nat} {i q r:Nat} (hq:S[i]? =some q):gJ mv S cs i cs.length r↔gJ mv S cs (i+1) 0 r:=by
 unfold gJ
 rw[List.take_length,List.take_zero,take_snoc hq]
 constructor
 ·rintro(⟨q',hq',h⟩ | ⟨q',hq',h⟩)
  ·exact .inl ⟨q',List.mem_append.mpr (.inl hq'),h⟩
  ·rw[hq] at hq';cases hq'
   exact .inl ⟨q,List.mem_append.mpr (.inr (List.mem_singleton.mpr rfl)),h⟩
 ·rintro(⟨q',hq',h⟩ | ⟨_,_,_,z,_⟩)
  ·rcases List.mem_append.mp hq' with z | z
   ·exact .inl ⟨q',z,h⟩
   ·rw[List.mem_singleton.mp z] at h;exact .inr ⟨q,hq,h⟩
  ·cases z
def FJ:Sp:=fun vs H Q _=>∃(m nm y v sa lt:Addr) (ps:List Addr) (bs:List Bool) (mv:List (List Nat)) (B:Nat) (S cs:List Nat),vs=[.ref m,.ref sa,.ref lt]∧ig H m nm y v ps bs mv B∧H sa=some (.tup ((ai S).map V.int))∧(∀r∈S,r<bs.length)∧H lt=some (.lst ((ai cs).map V.int))∧(∀c∈cs,c<B)∧bs.length≤62∧
 ∀(p:Addr) (H':Hp),Same H H'→H' p=some (.tup ((ai (fL mv bs.length S cs)).map V.int))→Q (.ref p) H'
theorem i8:aS ["machine","some","letters","found","room","leads","letter"] ["machine","some","letters"] (aj iy):=⟨rfl,rfl,rfl,by decide+kernel,rfl,by decide+kernel,by decide+kernel⟩
set_option maxHeartbeats 16000000 in
theorem CD {a:bW} (T:Txt K mg a):bf P w K mg base bT 1 a.j4 a.ky ["machine","some","letters"] FJ:=by
 refine T.D7.ok i8 (fun vs H Q E h=>?_) (fun cdv A outer s H vs Q E hr h=>?_)
 ·obtain⟨m,nm,y,v,sa,lt,ps,bs,mv,B,S,cs,rfl,_⟩:=h
  rfl
 ·obtain⟨m,nm,y,v,sa,lt,ps,bs,mv,B,S,cs,rfl,⟨a1,a2,a3,tp,dJ⟩,eS,hS,elt,hcs,hn,k⟩:=h
  refine⟨_,(ah (av (i:=3) i8.nd rfl (Or.inl rfl) DF)
  (ah (bq PassesOwn.never rfl (fF (pv 1)) (az (i:=4) i8.nd rfl (Or.inl rfl))
   (ah (av (i:=5) i8.nd rfl (Or.inl rfl) (aJ (aO K) (aJ (aO K) (pv 0) ao (fun _ _=>rfl)) (pv 4) (fun _ _=>rfl)))
   (au (bq PassesOwn.never rfl (cb (pv 2)) (az (i:=6) i8.nd rfl (Or.inl rfl))
    (au (jE (cY hr) (pv 3) (aJ (aO K) (pv 5) (pv 6) (fun _ _=>rfl)) iO rfl))))))
  (au (aR (aY (aX K) (by rfl) T.bS bB (ae (aA (xD rfl) (by rfl) T.pX nX (ae (pv 3) ag)) ag)))))),?_⟩
  have big:(100000:Nat)≤sizeLine:=by decide
  refine fun F hF=>?_
  have sF:=Same.new (o:=.dK []) hF
  dsimp only[ay]
  have few:∀{i j:Nat} {ks:List Nat},ks.Nodup→(∀r,r∈ks↔gJ mv S cs i j r)→ks.length≤bs.length:=fun {i j ks} nd hm=>by
   have:=List.Nodup.length_le_of_subset (l₂:=List.range bs.length) nd fun r hr=>List.mem_range.mpr ?_
   ·rw[List.length_range] at this;exact this
   ·rcases(hm r).mp hr with⟨q,hq,c,hc,e⟩ | ⟨q,hq,c,hc,e⟩
    ·rw[←e];exact dJ.stp (hS q (List.mem_of_mem_take hq)) (hcs c hc)
    ·rw[←e];exact dJ.stp (hS q (List.mem_of_getElem? hq)) (hcs c (List.mem_of_mem_take hc))
  refine⟨_,rfl,sa,rfl,⟨_,.of (sF _ _ eS)⟩,x8 (xs:=(ai S).map V.int) (fun i σ H'=>∃(v4 v5 v6:Option V) (kvs:List (Key×V)) (ks:List Nat),σ=[some (.ref m),some (.ref sa),some (.ref lt),some (.ref F),v4,v5,v6]∧Same H H'∧H' F=some (.dK kvs)∧ij kvs ks∧∀r,r∈ks↔gJ mv S cs i 0 r)
   ⟨none,none,none,[],[],rfl,sF,af,⟨rfl,by simp⟩,fun r=>?z⟩ (fun i σ H' _ ⟨_,_,_,_,_,_,s',_⟩=>.of (s' _ _ eS)) ?_ ?_⟩
  case z=>unfold gJ;simp
  ·rintro i z σ H1 hz ⟨v4,v5,v6,kvs,ks,rfl,s1,f1,CF,CG⟩
   obtain⟨q,rfl,eq⟩:=fv hz
   have hq:=hS q (List.mem_of_getElem? eq)
   obtain⟨r1,r2,r3⟩:=dJ.row (tp.keep s1.kt) hq
   refine⟨_,rfl,m,_,_,.ref v,rfl,rfl,.of (s1 _ _ a1),aB (j:=2) rfl,_,rfl,v,_,_,.ref (ps.getD q 0),rfl,rfl,.of (s1 _ _ a3),aB (by rw[List.getElem?_map,r1];rfl),?_⟩
   dsimp only[ay]
   refine⟨_,rfl,lt,rfl,⟨_,.of (s1 _ _ elt)⟩,iq (xs:=(ai cs).map V.int) (fun j σ H'=>∃(v6:Option V) (kvs:List (Key×V)) (ks:List Nat),σ=[some (.ref m),some (.ref sa),some (.ref lt),some (.ref F),some (.int (q:Nat)),some (.ref (ps.getD q 0)),v6]∧Same H H'∧H' F=some (.dK kvs)∧ij kvs ks∧∀r,r∈ks↔gJ mv S cs i j r)
    ⟨_,kvs,ks,rfl,s1,f1,CF,CG⟩ (fun j σ H' _ ⟨_,_,_,_,s',_⟩=>.of (s' _ _ elt)) ?_ ?_⟩
   ·rintro j z σ H2 hz ⟨v6,J8,uh,rfl,s2,f2,CH,CI⟩
    obtain⟨c,rfl,ec⟩:=fv hz
    have hcB:=hcs c (List.mem_of_getElem? ec)
    obtain⟨_,x2,_⟩:=dJ.row (tp.keep s2.kt) hq
    have ex:((ai (mv.getD q [])).map V.int)[c]? =some (.int (stp mv q c:Nat)):=dy (by rw[r3];exact hcB)
    obtain⟨TC,TF,TH⟩:=CH.put (stp mv q c) (.bl true)
    have lk:=few CH.2 CI
    refine⟨_,rfl,_,rfl,_,rfl,_,_,_,_,rfl,rfl,.of x2,aB ex,F,_,rfl,jc.k (k:=Sum.inl (stp mv q c:Int)) f2 ?len,?_⟩
    case len=>rw[CH.len];omega
    exact⟨_,_,TC,rfl,s2.kbn hF KB.write,af,TF,fun r=>by rw[TH,CI,gJ.put eq ec]⟩
   ·rintro σ H2 ⟨v6,J8,uh,rfl,s2,f2,CH,CI⟩
    rw[List.length_map,aD] at CI
    exact⟨_,_,_,J8,uh,rfl,s2,f2,CH,fun r=>by rw[CI,gJ.next eq]⟩
  ·rintro σ H1 ⟨v4,v5,v6,kvs,ks,rfl,s1,f1,CF,CG⟩
   rw[List.length_map,aD] at CG
   have lk:=few CF.2 CG
   refine⟨_,rfl,F,kvs,ai ks,rfl,f1,CF.1,by rw[aD];omega,fun p ns hp pm ps=>?_⟩
   have hk:(fL mv bs.length S cs).Pairwise (· < ·):=List.pairwise_lt_range.filter _
   have e:=pE pm ps hk CF.2 fun r=>by
    rw[CG,iJ]
    unfold gJ
    rw[List.take_length]
    constructor
    ·rintro(⟨q,hq,c,hc,e⟩ | ⟨q,hq,c,hc,e⟩)
     ·exact⟨by rw[←e];exact dJ.stp (hS q hq) (hcs c hc),q,hq,c,hc,e⟩
     ·rw[List.take_zero] at hc;cases hc
    ·rintro⟨_,h⟩
     exact .inl h
   subst e
   refine⟨p,_,rfl,.inl ⟨.of af,fun p2 hp2=>?_⟩⟩
   exact k p2 _ ((s1.trans (Same.new hp)).trans (Same.new hp2)) af
theorem o3 (x:List Nat):(x.map fun(z:Nat)=>V.int (z:Int))=(ai x).map V.int:=by unfold ai;rw[List.map_map];rfl
theorem apart2 {p q:Pos×Str} (h:p.1.line≠q.1.line):Apart [p,q]:=fun a ha b hb e _=>by
 rcases List.mem_cons.mp ha with z | z<;>rcases List.mem_cons.mp hb with y | y
 ·rw[z,y]
 ·rw[z,List.mem_singleton.mp y] at e;exact absurd e h
 ·rw[y,List.mem_singleton.mp z] at e;exact absurd e.symm h
 ·rw[List.mem_singleton.mp z,List.mem_singleton.mp y]
def yQ (mv:List (List Nat)) (n:Nat) (LL:List (List Nat)) (S:List Nat) (l:Nat):List Nat:=fL mv n S (LL.getD l [])
def gm (n:Nat) (S:List Nat):Prop:=∃p:Nat→Bool,S=(List.range n).filter p
theorem gm.lt {n:Nat} {S:List Nat} (h:gm n S):∀r∈S,r<n:=fun r hr=>by
 obtain⟨p,rfl⟩:=h
 exact List.mem_range.mp (List.mem_filter.mp hr).1
theorem jH (mv:List (List Nat)) (n:Nat) (S cs:List Nat):gm n (fL mv n S cs):=⟨_,rfl⟩
theorem eU {n:Nat} (h:0<n):gm n [0]:=by
 refine⟨fun r=>r == 0,?_⟩
 obtain⟨m,rfl⟩:∃m,n=m+1:=⟨n-1,by omega⟩
 rw[List.range_succ_eq_map,List.filter_cons,if_pos (show((0:Nat) == 0)=true from rfl)]
 congr 1
 symm
 rw[List.filter_eq_nil_iff]
 intro a ha
 obtain⟨z,_,rfl⟩:=List.mem_map.mp ha
 simp
def fz:Nat→List (List Nat)
 | 0=>[[]]
 | n+1=>fz n++(fz n).map (· ++[n])
theorem lC:∀n,(fz n).length=2 ^ n
 | 0=>rfl
 | n+1=>by
  show(fz n++(fz n).map (· ++[n])).length=_
  rw[List.length_append,List.length_map,lC n,Nat.pow_succ];omega
theorem iU (p:Nat→Bool):∀n,(List.range n).filter p∈fz n
 | 0=>by simp[fz]
 | n+1=>by
  show _∈fz n++(fz n).map (· ++[n])
  rw[List.range_succ,List.filter_append,List.mem_append]
  cases h:p n with
  | true=>
   refine .inr (List.mem_map.mpr ⟨_,iU p n,?_⟩)
   rw[List.filter_cons,if_pos h];rfl
  | false=>
   refine .inl ?_
   rw[List.filter_cons,if_neg (by rw[h];decide),List.filter_nil,List.append_nil]
   exact iU p n
theorem Ht {n:Nat} {l:List (List Nat)} (nd:l.Nodup) (h:∀x∈l,gm n x):l.length≤2 ^ n:=by
 rw[←lC n]
 refine List.Nodup.length_le_of_subset nd fun x hx=>?_
 obtain⟨p,rfl⟩:=h x hx
 exact iU p n
theorem o6 {n B:Nat} {mv:List (List Nat)} {LL:List (List Nat)}:∀{w:List Nat} {x:List Nat},gm n x→gm n (dD (yQ mv n LL) x w)
 | [],x,hx=>hx
 | a::w,x,hx=>o6 (B:=B) (w:=w) (jH mv n x _)
def Ex (can:List Bool) (S:List Nat):Bool:=S.any fun r=>can.getD r false
structure i9 (m nm y v:Addr) (ps:List Addr) (bs:List Bool) (mv:List (List Nat)) (B:Nat) (ov:Addr) (as:List Addr) (LL:List (List Nat)) (cn:Addr) (can:List Bool) (H:Hp):Prop where
 mc:ig H m nm y v ps bs mv B
 o:H ov=some (.lst (as.map V.ref))
 ls:bD H as LL
 c:H cn=some (.lst (can.map V.bl))
theorem i9.keep {m nm y v:Addr} {ps:List Addr} {bs:List Bool} {mv:List (List Nat)} {B:Nat} {ov:Addr} {as:List Addr} {LL:List (List Nat)} {cn:Addr} {can:List Bool} {H H':Hp} (e:i9 m nm y v ps bs mv B ov as LL cn can H) (kt:a_ H H') (kl:∀b xs,H b=some (.lst xs)→H' b=some (.lst xs)):i9 m nm y v ps bs mv B ov as LL cn can H':=
 ⟨e.mc.keep kt,kl _ _ e.o,e.ls.keep fun b hb o q=>by obtain⟨l,z⟩:=e.ls.mem hb;rw[z] at q;cases q;exact kl _ _ z,kl _ _ e.c⟩
theorem i9.kx {a:bW} {m nm y v:Addr} {ps:List Addr} {bs:List Bool} {mv:List (List Nat)} {B:Nat} {ov:Addr} {as:List Addr} {LL:List (List Nat)} {cn:Addr} {can:List Bool} {H H':Hp} (e:i9 m nm y v ps bs mv B ov as LL cn can H) (k:KX a H H'):i9 m nm y v ps bs mv B ov as LL cn can H':=e.keep k.kt fun b xs z=>k _ _ z fun _ y=>nomatch y
theorem i9.same {m nm y v:Addr} {ps:List Addr} {bs:List Bool} {mv:List (List Nat)} {B:Nat} {ov:Addr} {as:List Addr} {LL:List (List Nat)} {cn:Addr} {can:List Bool} {H H':Hp} (e:i9 m nm y v ps bs mv B ov as LL cn can H) (s:Same H H'):i9 m nm y v ps bs mv B ov as LL cn can H':=e.keep s.kt fun b xs z=>s _ _ z
theorem i9.cL {m nm y v:Addr} {ps:List Addr} {bs:List Bool} {mv:List (List Nat)} {B:Nat} {ov:Addr} {as:List Addr} {LL:List (List Nat)} {cn:Addr} {can:List Bool} {H:Hp} {D:List Addr} (hD:∀a∈D,∃φ,H a=some (.ext φ)) (e:i9 m nm y v ps bs mv B ov as LL cn can H):i9 m nm y v ps bs mv B ov as LL cn can (L2.cL D H):=
 e.keep (fun b xs z=>gF hD z (fun _ y=>nomatch y)) fun b xs z=>gF hD z (fun _ y=>nomatch y)
def J9 (P:Program) (w:World) (K:PySem.W.Frag) (mg:Str→Option Value) (base:Heap) (a:bW):Sp:=fun vs H Q _=>∃(b:Nat) (m nm y v:Addr) (ps:List Addr) (ss:List Str) (x:Str) (bs:List Bool) (mv:List (List Nat)),vs=[.int b,.ref m,.str x]∧0<b∧b≤4∧ss.length≤4∧ig H m nm y v ps bs mv (b ^ ss.length)∧H nm=some (.tup (ss.map V.str))∧bs.length≤62∧TB a H∧
 ∀(g z0 f1 f2 ov cn:Addr) (as:List Addr) (can:List Bool) (D:List Addr) (H':Hp),KX a H H'→TB a H'→(∀a∈D,∃φ,H' a=some (.ext φ))→i9 m nm y v ps bs mv (b ^ ss.length) ov as (bA b ss (oth ss x)) cn can H'→can.length=bs.length→(∀r,r<bs.length→(can.getD r false=true↔jj bs mv ((bA b ss (oth ss x)).getD 0 []) r))→
  H' z0=some (.tup [.int ((0:Nat):Int)])→H' g=some (.tup [.ref z0,.ref f1,.ref f2])→
  j3 P w K mg base H' D 2 f1 2 (wJ j0 (b ^ (oth ss x).length) (yQ mv bs.length (bA b ss (oth ss x))) (gm bs.length) (i9 m nm y v ps bs mv (b ^ ss.length) ov as (bA b ss (oth ss x)) cn can))→
  j3 P w K mg base H' D 2 f2 1 (Eo j0 (Ex can) (gm bs.length) (i9 m nm y v ps bs mv (b ^ ss.length) ov as (bA b ss (oth ss x)) cn can))→Q (.ref g) H'
theorem Hu {b:Nat} {ss os:List Str} {l:Nat} {cs:List Nat} (h:(bA b ss os)[l]? =some cs):(∀c∈cs,c<b ^ ss.length)∧cs.length≤b ^ ss.length:=by
 have hl:l<b ^ os.length:=by
  have:=(List.getElem?_eq_some_iff.mp h).1
  unfold bA at this
  rwa [iI] at this
 unfold bA at h
 rw[lV hl] at h
 have:=Option.some.inj h
 subst this
 refine⟨fun c hc=>List.mem_range.mp (List.mem_filter.mp hc).1,?_⟩
 have:=List.length_filter_le (fun r=>own b ss os r == l) (List.range (b ^ ss.length))
 rwa [List.length_range] at this
theorem fZ:aS ["base","machine","name","over","can","onward"] ["base","machine","name"] (aj bw):=⟨rfl,rfl,rfl,by decide+kernel,rfl,by decide+kernel,by decide+kernel⟩
set_option maxHeartbeats 16000000 in
theorem lZ {a:bW} (T:Txt K mg a) (hB:dY mg base):bf P w K mg base bT 4 a.cJ a.iF ["base","machine","name"] (J9 P w K mg base a):=by
 have sv:=qT (P:=P) (w:=w) (base:=base) T
 have Ac:=xP (P:=P) (w:=w) (base:=base) T
 refine T.uR.okR fZ (fun vs H Q E h=>?_) (fun Ar outer sh H vs Q E inj hr h=>?_)
 ·obtain⟨b,m,nm,y,v,ps,ss,x,bs,mv,rfl,_⟩:=h
  rfl
 ·obtain⟨b,m,nm,y,v,ps,ss,x,bs,mv,rfl,hb0,hb4,ur,gX,gb,hn,tb,q⟩:=h
  have qX:aP 3 _:=hr
  have xQ:aP 2 _:=hr.mono (by decide)
  refine⟨_,rN (av (i:=3) fZ.nd rfl (Or.inr rfl) (aC sv qX rfl T.rQ T.rR T.rS .nil aN (ae (pv 0) (ae (pv 1) (ae (pv 2) ag)))))
   (rN (av (i:=4) fZ.nd rfl (Or.inr rfl) (aC Ac xQ rfl T.zS T.zT T.zU .nil aN (ae (pv 1) (ae (aJ (bC K) (pv 3) ao (fun _ _=>rfl)) ag))))
   (rN (av (i:=5) fZ.nd rfl (Or.inl rfl) (yw (T:=a.cK) (L:=FF) rfl T.ni hB rfl rfl (List.mem_cons_self) (apart2 (by decide)) rfl))
   (Jl (bP (ae (bP (ae ao ag)) (ae (pv 5) (ae (yw (T:=a.cK) (L:=FF) rfl T.ni hB rfl rfl (List.mem_cons_of_mem _ List.mem_cons_self) (apart2 (by decide)) rfl) ag))))))),?_⟩
  have big:(10000:Nat)≤sizeLine:=by decide
  have hB2:b ^ ss.length≤256:=cp hb4 (by omega)
  refine⟨_,rfl,_,rfl,_,rfl,b,m,nm,y,v,ss,x,rfl,hb0,hb4,gX.1,gb,ur,fun ov as H1 s1 o1 yO=>?_⟩
  generalize yR:bA b ss (oth ss x)=LL at yO q
  have hl0:0<LL.length:=by rw[←yR];unfold bA;rw[iI];exact Nat.pow_pos hb0
  obtain⟨l0,hl⟩:∃l,LL[0]? =some l:=⟨_,List.getElem?_eq_getElem hl0⟩
  have Ey:∀{i:Nat} {cs:List Nat},LL[i]? =some cs→(∀c∈cs,c<b ^ ss.length)∧cs.length≤b ^ ss.length:=fun {i cs} h=>by rw[←yR] at h;exact Hu h
  have e0:LL.getD 0 []=l0:=by rw[List.getD_eq_getElem?_getD,hl];rfl
  obtain⟨b0,PU,TJ⟩:=yO.back hl
  dsimp only[ay]
  refine⟨_,rfl,_,rfl,ov,_,_,.ref b0,rfl,rfl,.of o1,aB (j:=0) (by rw[List.getElem?_map,PU];rfl),m,nm,y,v,b0,ps,bs,mv,b ^ ss.length,l0,rfl,gX.keep s1.kt,TJ,(Ey hl).1,hn,by have:=(Ey hl).2;omega,fun cn can H2 s2 c2 lc hcan=>?_⟩
  have ev2:i9 m nm y v ps bs mv (b ^ ss.length) ov as LL cn can H2:=⟨gX.keep (s1.trans s2).kt,s2 _ _ o1,yO.keep fun _ _ _ z=>s2 _ _ z,c2⟩
  have s12:=s1.trans s2
  have tb2:=tb.same s12
  dsimp only[ay]
  refine⟨tb2.sg,fun f1 d1 Ww H3 hf1 TK TL Ez kb3=>?_⟩
  have k3:KX a H2 H3:=KX.kb tb2.sg kb3
  have j':=tb2.ksg T kb3 Ez
  dsimp only[ay]
  refine⟨by show 1≤sizeLine;decide,fun z hz=>?_⟩
  have sz:=Same.new (o:=.tup [.int ((0:Nat):Int)]) hz
  have qY:=j'.same sz
  refine⟨_,rfl,qY.sg,fun f2 d2 Wx H5 hf2 TN TQ PV NV=>?_⟩
  have k5:KX a (upd H3 z (.tup [.int ((0:Nat):Int)])) H5:=KX.kb qY.sg NV
  have wV:=qY.ksg T NV PV
  have TR:H5 z=some (.tup [.int ((0:Nat):Int)]):=k5 _ _ af fun _ y=>nomatch y
  have TU:KX a H3 H5:=(KX.same sz).trans k5
  refine⟨by show 3≤sizeLine;decide,fun g hg=>?_⟩
  have sg:=Same.new (o:=.tup [.ref z,.ref f1,.ref f2]) hg
  obtain⟨c1,h1⟩:∃c,(PyProof.Rows.envOfC "sets_growth" (aj bw) sh.heap.objs.size a.cJ (.ref a.dF)).cells.lookup ("machine":Str)=some c:=gC rfl
  obtain⟨c2',h2⟩:∃c,(PyProof.Rows.envOfC "sets_growth" (aj bw) sh.heap.objs.size a.cJ (.ref a.dF)).cells.lookup ("over":Str)=some c:=gC rfl
  obtain⟨c3,h3⟩:∃c,(PyProof.Rows.envOfC "sets_growth" (aj bw) sh.heap.objs.size a.cJ (.ref a.dF)).cells.lookup ("can":Str)=some c:=gC rfl
  let l:List (Nat×Str×Addr×V):=[(1,"machine",c1,.ref m),(3,"over",c2',.ref ov),(4,"can",c3,.ref cn)]
  have C:vW (jQ bT P w K mg base ["base","machine","name","over","can","onward"] "sets_growth" (aj bw) a.cJ (.ref a.dF) Ar outer sh H E) [some (.int (b:Nat)),some (.ref m),some (.str x),some (.ref ov),some (.ref cn),some (.ref f1)] l:=
   ⟨List.forall_mem_cons.mpr ⟨⟨rfl,rfl,rfl,h1⟩,List.forall_mem_cons.mpr ⟨⟨rfl,rfl,rfl,h2⟩,List.forall_mem_cons.mpr ⟨⟨rfl,rfl,rfl,h3⟩,fun _ h=>nomatch h⟩⟩⟩,show(["machine","over","can"]:List Str).Nodup by decide+kernel⟩
  refine⟨om l,C.cells,fun fr=>?_⟩
  have sm:=oj fr
  have g1:=C.got inj (upd H5 g (.tup [.ref z,.ref f1,.ref f2])) (q:=(1,"machine",c1,.ref m)) (by simp[l])
  have g2:=C.got inj (upd H5 g (.tup [.ref z,.ref f1,.ref f2])) (q:=(3,"over",c2',.ref ov)) (by simp[l])
  have g3:=C.got inj (upd H5 g (.tup [.ref z,.ref f1,.ref f2])) (q:=(4,"can",c3,.ref cn)) (by simp[l])
  have s6:=sg.trans sm
  have FK:=TU.trans (KX.same s6)
  have J':=FK _ _ TK fun _ y=>nomatch y
  have Ka:=FK _ _ TL fun _ y=>nomatch y
  have Kb:=s6 _ _ TN
  have Kc:=s6 _ _ TQ
  have FL:=ev2.kx (k3.trans FK)
  have NW:∀x∈[f1,d1,f2,d2,c1,c2',c3],∃φ,j1 (om l) (upd H5 g (.tup [.ref z,.ref f1,.ref f2])) x=some (.ext φ):=fun x hx=>by
   simp only[List.mem_cons,List.not_mem_nil,or_false] at hx
   rcases hx with z | z | z | z | z | z | z
   ·rw[z];exact⟨_,J'⟩
   ·rw[z];exact⟨_,Ka⟩
   ·rw[z];exact⟨_,Kb⟩
   ·rw[z];exact⟨_,Kc⟩
   ·rw[z];exact⟨_,g1⟩
   ·rw[z];exact⟨_,g2⟩
   ·rw[z];exact⟨_,g3⟩
  refine q g z f1 f2 ov cn as can [f1,d1,f2,d2,c1,c2',c3] _ ((KX.same s12).trans (k3.trans FK)) (wV.same s6) NW FL lc (by rw[e0];exact hcan) (s6 _ _ TR) (sm _ _ af) ?_ ?_
  ·refine j3.lam J' (by simp) Ka (by simp) (ps:=["some","letter"]) (aF:=["machine","over"]) (fvs:=[.ref m,.ref ov]) (gE.mk' rfl rfl rfl (by decide+kernel) (by decide+kernel) (by decide+kernel) (by decide+kernel) (by decide+kernel)) inj (List.forall_mem_cons.mpr ⟨⟨rfl,List.mem_of_getElem? (i:=1) rfl⟩,List.forall_mem_cons.mpr ⟨⟨rfl,List.mem_of_getElem? (i:=0) rfl⟩,fun _ h=>nomatch h⟩⟩)
    (.cons ⟨c1,rfl,h1,by simp,g1⟩ (.cons ⟨c2',rfl,h2,by simp,g2⟩ .nil)) (fun us hl=>match us,hl with | [_,_],_=>rfl) (fun vs H Q E h=>?_) (fun base' W A outer s H vs Q E hr h=>?_)
   ·obtain⟨x,v,c,rfl,_⟩:=h
    rfl
   ·obtain⟨S,vv,c,rfl,⟨pp,rfl,ep⟩,jr,hc,ev,kk⟩:=h
    have EA:bf P w K mg base' bT 1 a.j4 a.ky ["machine","some","letters"] FJ:=CD T
    have hr1:aP 1 _:=hr
    refine⟨_,aC EA hr1 (by rfl) T.D8 T.D9 T.Ea .nil aN (ae (pv 2) (ae (pv 0) (ae (aJ (bC K) (pv 3) (pv 1) (fun _ _=>rfl)) ag))),?_⟩
    have TV:c<LL.length:=by rw[←yR];unfold bA;rw[iI];exact hc
    have NX:LL[c]? =some (LL.getD c []):=item_at [] TV
    obtain⟨bc,hbc,TX⟩:=ev.ls.back NX
    rw[o3] at ep
    refine⟨_,rfl,_,rfl,_,rfl,_,rfl,ov,_,_,.ref bc,rfl,rfl,.of ev.o,aB (by rw[List.getElem?_map,hbc];rfl),m,nm,y,v,pp,bc,ps,bs,mv,b ^ ss.length,S,_,rfl,ev.mc,ep,jr.lt,TX,(Ey NX).1,hn,fun p H' s' ep'=>?_⟩
    exact kk _ H' s' ⟨p,rfl,by rw[o3];exact ep'⟩
  ·refine j3.lam Kb (by simp) Kc (by simp) (ps:=["some"]) (aF:=["can"]) (fvs:=[.ref cn]) (gE.mk' rfl rfl rfl (by decide+kernel) (by decide+kernel) (by decide+kernel) (by decide+kernel) (by decide+kernel)) inj (List.forall_mem_cons.mpr ⟨⟨rfl,List.mem_of_getElem? (i:=0) rfl⟩,fun _ h=>nomatch h⟩)
    (.cons ⟨c3,rfl,h3,by simp,g3⟩ .nil) (fun us hl=>match us,hl with | [_],_=>rfl) (fun vs H Q E h=>?_) (fun base' W A outer s H vs Q E hr h=>?_)
   ·obtain⟨x,v,rfl,_⟩:=h
    rfl
   ·obtain⟨S,vv,rfl,⟨pp,rfl,ep⟩,jr,ev,kk⟩:=h
    refine⟨_,aA (n8 K rfl) (by rfl) T.zZ vJ (ae (cF (aI.mk' (N:=["some","can"]) (own:=["room"]) (aF:=["can"]) (bJ:=[1]) rfl rfl (by rfl)) rfl (fF (pv 0)) (fun _ _ _ _=>(az (i:=0) (show List.Nodup (["room","can"]:List Str) by decide+kernel) rfl (Or.inl rfl))) (fun _ _ _ _=>bU) (fun _ _ _ _=>(aJ (bC K) (pv 1) (pv 0) (fun _ _=>rfl)))) ag),?_⟩
    rw[o3] at ep
    have lS:S.length≤bs.length:=by
     obtain⟨p,rfl⟩:=jr
     have:=List.length_filter_le p (List.range bs.length)
     rwa [List.length_range] at this
    refine⟨_,rfl,pp,rfl,⟨_,.of ep⟩,fun L hL=>?_⟩
    refine iu (xs:=(ai S).map V.int) (fun j σ H'=>∃(v:Option V),σ=[v,some (.ref cn)]∧Same H H'∧H' L=some (.lst (((S.take j).map fun r=>can.getD r false).map V.bl)))
     ⟨none,?sg,Same.new hL,af⟩ (fun j σ H' _ ⟨_,_,s',_⟩=>.of (s' _ _ ep)) ?_ ?_
    case sg=>rfl
    ·rintro j z σ H7 hz ⟨v7,rfl,s7,l7⟩
     obtain⟨r,rfl,er⟩:=fv hz
     have hr:=jr.lt r (List.mem_of_getElem? er)
     have hj:=(List.getElem?_eq_some_iff.mp er).1
     refine⟨_,rfl,_,rfl,cn,_,_,.bl (can.getD r false),rfl,rfl,.of (s7 _ _ ev.c),aB (by rw[List.getElem?_map,item_at false (by rw[lc];exact hr)];rfl),_,l7,?_,_,rfl,s7.kbn hL KB.write,?_⟩
     ·rw[List.length_map,List.length_map,List.length_take];omega
     ·rw[af,take_snoc er,List.map_append,List.map_append];rfl
    rintro σ H7 ⟨v7,rfl,s7,l7⟩
    rw[List.length_map,aD,List.take_length] at l7
    refine⟨L,_,rfl,.of l7,?_⟩
    rw[List.any_map]
    exact kk H7 s7
def aQ (l:List Nat):Str:=⟨(l.map (97+ ·)).toArray⟩
def lD:Str:="abcdefghijklmnopqrstuvwxyz"
theorem wW:lD.length≤sizeLine:=by
 have:lD.length=26:=by decide+kernel
 rw[this];decide
theorem Hv:∀c,c<26→Builtin.Str.occurrences lD ⟨#[97+c]⟩ 0 lD.length 1=[c]:=by decide+kernel
theorem CJ:∀c,c<26→lD.cps.toList[c]? =some (97+c):=by decide+kernel
theorem ka (a b:List Nat):aQ a++aQ b=aQ (a++b):=by
 show(⟨_⟩:Str)=⟨_⟩
 simp[aQ]
theorem fM (l:List Nat):(aQ l).length=l.length:=by
 show(l.map (97+ ·)).toArray.size=_
 rw[List.size_toArray,List.length_map]
theorem CK {a b:List Nat} (h:aQ a=aQ b):a=b:=by
 have h1:(a.map (97+ ·)).toArray=(b.map (97+ ·)).toArray:=congrArg Str.cps h
 have h2:a.map (97+ ·)=b.map (97+ ·):=congrArg Array.toList h1
 exact(List.map_inj_right (fun x y z=>by omega)).mp h2
theorem xR {l:List Nat} (h:∀c∈l,c<26):(aQ l).cps.all (· <128)=true:=by
 unfold aQ
 rw[List.all_toArray,List.all_map,List.all_eq_true]
 intro c hc
 exact decide_eq_true (by have:=h c hc;show 97+c<128;omega)
theorem kc (l:List Nat):og (aQ l)=aQ l.reverse:=by
 show(⟨_⟩:Str)=⟨_⟩
 simp[aQ]
theorem CL {l:List Nat} {i x:Nat} (h:(aQ l).cps[i]? =some x):∃c,l[i]? =some c∧x=97+c:=by
 have h1:(l.map (97+ ·))[i]? =some x:=by
  rw[←h]
  show _=(l.map (97+ ·)).toArray[i]?
  rw[List.getElem?_toArray]
 rw[List.getElem?_map] at h1
 obtain⟨c,hc,e⟩:=Option.map_eq_some_iff.mp h1
 exact⟨c,hc,e.symm⟩
def cO:List Nat→List Nat×Nat
 | []=>([],1)
 | c::cs=>(((c+(cO cs).2) % 26)::(cO cs).1,(c+(cO cs).2) / 26)
theorem kS:∀l,(cO l).1.length=l.length
 | []=>rfl
 | c::cs=>by rw[cO,List.length_cons,List.length_cons,kS cs]
theorem mV:∀{l},(∀c∈l,c<26)→(cO l).2≤1
 | [],_=>Nat.le_refl _
 | c::cs,h=>by
  have h1:=mV (l:=cs) fun x hx=>h x (List.mem_cons_of_mem _ hx)
  have h2:=h c List.mem_cons_self
  show(c+(cO cs).2) / 26≤1
  omega
theorem wX:∀{l},(∀c∈l,c<26)→∀c∈(cO l).1,c<26
 | [],_,c,hc=>by cases hc
 | c::cs,h,x,hx=>by
  rcases List.mem_cons.mp (show x∈((c+(cO cs).2) % 26)::(cO cs).1 from hx) with e | e
  ·omega
  ·exact wX (l:=cs) (fun y hy=>h y (List.mem_cons_of_mem _ hy)) x e
def oM (l:List Nat):List Nat:=((cO l).1++List.replicate (cO l).2 0).take 3
structure iV (l:List Nat):Prop where
 ne:0<l.length
 le:l.length≤3
 lt:∀c∈l,c<26
def rk:List Nat→Nat
 | [a]=>a
 | [a,b]=>26+26*a+b
 | [a,b,c]=>702+676*a+26*b+c
 | _=>0
theorem iV.cases {l:List Nat} (h:iV l):(∃a,l=[a]∧a<26)∨(∃a b,l=[a,b]∧a<26∧b<26)∨∃a b c,l=[a,b,c]∧a<26∧b<26∧c<26:=by
 have h1:=h.ne
 have h2:=h.le
 have h3:=h.lt
 match l,h1,h2,h3 with
 | [a],_,_,h3=>exact .inl ⟨a,rfl,h3 a (by simp)⟩
 | [a,b],_,_,h3=>exact .inr (.inl ⟨a,b,rfl,h3 a (by simp),h3 b (by simp)⟩)
 | [a,b,c],_,_,h3=>exact .inr (.inr ⟨a,b,c,rfl,h3 a (by simp),h3 b (by simp),h3 c (by simp)⟩)
 | _::_::_::_::_,_,h2,_=>simp at h2
theorem Kd {l:List Nat} (h:iV l):rk (oM l) % 17576=(rk l+1) % 17576:=by
 rcases h.cases with⟨a,rfl,ha⟩ | ⟨a,b,rfl,ha,hb⟩ | ⟨a,b,c,rfl,ha,hb,hc⟩
 ·have e:(a+1) / 26=0∨(a+1) / 26=1:=by omega
  have E:oM [a]=([(a+1) % 26]++List.replicate ((a+1) / 26) 0).take 3:=rfl
  rcases e with e | e<;>rw[E,e]
  ·show((a+1) % 26) % 17576=(a+1) % 17576
   omega
  ·show(26+26*((a+1) % 26)+0) % 17576=(a+1) % 17576
   omega
 ·have e:(a+(b+1) / 26) / 26=0∨(a+(b+1) / 26) / 26=1:=by omega
  have E:oM [a,b]=([(a+(b+1) / 26) % 26,(b+1) % 26]++List.replicate ((a+(b+1) / 26) / 26) 0).take 3:=rfl
  rcases e with e | e<;>rw[E,e]
  ·show(26+26*((a+(b+1) / 26) % 26)+(b+1) % 26) % 17576=(26+26*a+b+1) % 17576
   omega
  ·show(702+676*((a+(b+1) / 26) % 26)+26*((b+1) % 26)+0) % 17576=(26+26*a+b+1) % 17576
   omega
 ·have e:(a+(b+(c+1) / 26) / 26) / 26=0∨(a+(b+(c+1) / 26) / 26) / 26=1:=by omega
  have E:oM [a,b,c]=([(a+(b+(c+1) / 26) / 26) % 26,(b+(c+1) / 26) % 26,(c+1) % 26]++List.replicate ((a+(b+(c+1) / 26) / 26) / 26) 0).take 3:=rfl
  have G:rk [(a+(b+(c+1) / 26) / 26) % 26,(b+(c+1) / 26) % 26,(c+1) % 26] % 17576=(702+676*a+26*b+c+1) % 17576:=by
   show(702+676*((a+(b+(c+1) / 26) / 26) % 26)+26*((b+(c+1) / 26) % 26)+(c+1) % 26) % 17576=_
   omega
  rcases e with e | e<;>rw[E,e]<;>exact G
theorem EB {l:List Nat} (h:iV l):iV (oM l):=by
 have h1:=kS l
 have h0:=h.ne
 refine⟨?_,?_,fun c hc=>?_⟩
 ·rw[oM,List.length_take,List.length_append,h1];omega
 ·rw[oM,List.length_take];omega
 ·rcases List.mem_append.mp (List.mem_of_mem_take hc) with z | z
  ·exact wX h.lt c z
  ·rw[(List.mem_replicate.mp z).2];decide
theorem Ke (l:List Nat) (h0:0<l.length) (h:l.length≤4):Txt.slice (aQ l) none (some 3)=aQ (l.take 3):=by
 match l,h0,h with
 | [a],_,_=>with_unfolding_all rfl
 | [a,b],_,_=>with_unfolding_all rfl
 | [a,b,c],_,_=>with_unfolding_all rfl
 | [a,b,c,d],_,_=>with_unfolding_all rfl
theorem Ad (n:Nat) (h:n≤1):Txt.mul "a" (n:Int)=aQ (List.replicate n 0):=by
 match n,h with
 | 0,_=>with_unfolding_all rfl
 | 1,_=>with_unfolding_all rfl
theorem Kf (l:List Nat) (h:l.length≤3):Txt.join "" (l.map fun c=>aQ [c])=aQ l:=by
 match l,h with
 | [],_=>with_unfolding_all rfl
 | [a],_=>with_unfolding_all rfl
 | [a,b],_=>with_unfolding_all rfl
 | [a,b,c],_=>with_unfolding_all rfl
 | _::_::_::_::_,h=>simp at h
def Hw:Sp:=fun vs H Q _=>∃l:List Nat,vs=[.str (aQ l)]∧iV l∧Q (.str (aQ (oM l))) H
theorem dQ:aS ["_law_word","_law_letters_here","_law_found","_law_more","_law_sign","_law_number"] ["_law_word"] (aj gQ):=⟨rfl,rfl,rfl,by decide+kernel,rfl,by decide+kernel,by decide+kernel⟩
theorem Ae {a:bW} (T:Txt K mg a):bf P w K mg base bT 1 a.kC a.mM ["_law_word"] Hw:=by
 refine T.BS.ok dQ (fun vs H Q E h=>?_) (fun cdv A outer s H vs Q E hr h=>?_)
 ·obtain⟨l,rfl,_⟩:=h
  rfl
 ·obtain⟨l,rfl,hw,k⟩:=h
  refine⟨_,(ah (av (i:=1) dQ.nd rfl (Or.inl rfl) bG)
  (ah (av (i:=2) dQ.nd rfl (Or.inl rfl) bG)
  (ah (av (i:=3) dQ.nd rfl (Or.inl rfl) ao)
  (ah (bq PassesOwn.never rfl (I0 (G5 (pv 0) d_ d_ (fP (u_ qg ao)))) (az (i:=4) dQ.nd rfl (Or.inl rfl))
   (ah (av (i:=5) dQ.nd rfl (Or.inl rfl) (aG cP (cf PySem.F.plainAttrs_str PySem.F.slot_str_index PySem.F.type_str_index DQ (pv 1) (ae (pv 4) ag)) (pv 3)))
   (ah (av (i:=2) dQ.nd rfl (Or.inl rfl) (aG qj (aJ AY (pv 1) (aG gL (pv 5) ao) (fun _ _=>rfl)) (pv 2)))
   (au (av (i:=3) dQ.nd rfl (Or.inl rfl) (aG pK (pv 5) ao))))))
  (au (aR (gD IQ (aG qj (pv 2) (aG G6 bG (pv 3))) d_ (fP ao)))))))),?_⟩
  have lw:=fM l
  have WQ:=hw.le
  have big:(100:Nat)≤sizeLine:=by decide
  dsimp only[nK,kX,tC,ay]
  refine⟨_,rfl,_,rfl,_,rfl,aQ l,rfl,rfl,rfl,rfl,by omega,og (aQ l),rfl,?asc,G4 (fun i σ H'=>∃v4 v5:Option V,σ=[some (.str (aQ l)),some (.str lD),some (.str (aQ (cO (l.drop (l.length-i))).1)),some (.int ((cO (l.drop (l.length-i))).2:Nat)),v4,v5]∧H'=H)
   ⟨none,none,?st,rfl⟩ ?_ ?_⟩
  case asc=>rw[kc];exact xR fun c hc=>hw.lt c (List.mem_reverse.mp hc)
  case st=>rw[Nat.sub_zero,List.drop_length];rfl
  ·rintro i x σ H1 hx ⟨v4,v5,rfl,rfl⟩
   rw[kc] at hx
   obtain⟨c,hc,rfl⟩:=CL hx
   have hi:i<l.length:=by have:=(List.getElem?_eq_some_iff.mp hc).1;rwa [List.length_reverse] at this
   rw[List.getElem?_reverse hi] at hc
   have PX:=hw.lt c (List.mem_of_getElem? hc)
   have ed:l.drop (l.length-(i+1))=c::l.drop (l.length-i):=by
    have h1:l.length-(i+1)=l.length-1-i:=by omega
    have h2:l.length-i=l.length-1-i+1:=by omega
    rw[h1,h2]
    exact List.drop_eq_getElem?_toList_append.trans (by rw[hc];rfl)
   have hm:=mV (l:=l.drop (l.length-i)) fun x hx=>hw.lt x (List.mem_of_mem_drop hx)
   have hlen:=kS (l.drop (l.length-i))
   rw[List.length_drop] at hlen
   have ea:cO (c::l.drop (l.length-i))=(((c+(cO (l.drop (l.length-i))).2) % 26)::(cO (l.drop (l.length-i))).1,(c+(cO (l.drop (l.length-i))).2) / 26):=rfl
   rw[ed,ea]
   generalize cO (l.drop (l.length-i))=g at hm hlen ⊢
   have eN:((c:Int)+(g.2:Int)) % 26=(((c+g.2) % 26:Nat):Int):=by rw[Int.natCast_emod,Int.natCast_add];rfl
   have eD:((c:Int)+(g.2:Int)) / 26=(((c+g.2) / 26:Nat):Int):=by rw[Int.natCast_ediv,Int.natCast_add];rfl
   refine⟨_,rfl,rfl,_,rfl,lD,⟨#[97+c]⟩,c,[],rfl,rfl,Hv c PX,_,rfl,_,_,rfl,rfl,?_⟩
   refine⟨_,rfl,_,rfl,_,_,rfl,rfl,cpos (by decide),lD,_,97+(c+g.2) % 26,rfl,rfl,wW,by rw[eN];exact aB (CJ _ (Nat.mod_lt _ (by decide))),_,rfl,_,_,rfl,rfl,?len,_,rfl,_,_,rfl,rfl,⟨by decide,by decide⟩,?_⟩
   case len=>
    have e1:Str.length (⟨#[97+(c+g.2) % 26]⟩:Str)=1:=rfl
    rw[e1,fM]
    omega
   refine⟨some (.str ⟨#[97+c]⟩),some (.int ((c:Int)+(g.2:Int))),?_,rfl⟩
   show[some (V.str (aQ l)),some (V.str lD),some (V.str ((⟨#[97+(c+g.2) % 26]⟩:Str)++aQ g.1)),some (V.int (((c:Int)+(g.2:Int)) / 26)),some (V.str ⟨#[97+c]⟩),some (V.int ((c:Int)+(g.2:Int)))]=_
   have e2:(⟨#[97+(c+g.2) % 26]⟩:Str)++aQ g.1=aQ (((c+g.2) % 26)::g.1):=ka [(c+g.2) % 26] g.1
   rw[e2,eD]
  ·rintro σ H1 ⟨v4,v5,rfl,rfl⟩
   have es:(og (aQ l)).cps.size=l.length:=by
    rw[kc]
    exact(fM _).trans List.length_reverse
   rw[es,Nat.sub_self,List.drop_zero]
   have hm:=mV hw.lt
   have hlen:=kS l
   have h0:=hw.ne
   have ef:oM l=((cO l).1++List.replicate (cO l).2 0).take 3:=rfl
   rw[ef] at k
   generalize cO l=g at hm hlen k ⊢
   refine⟨_,rfl,_,rfl,"a",(g.2:Int),rfl,rfl,by omega,by omega,(by show 1≤1000;decide),_,_,rfl,rfl,?len,_,rfl,_,rfl,?len2,?_⟩
   case len=>
    rw[Ad _ hm,fM,fM,List.length_replicate]
    omega
   case len2=>
    rw[Ad _ hm,ka,fM,List.length_append,List.length_replicate]
    omega
   rw[Ad _ hm,ka,Ke _ (by rw[List.length_append];omega) (by rw[List.length_append,List.length_replicate];omega)]
   exact k
theorem Hx (l:List Str):(l.map V.str).all fQ=true:=by rw[List.all_map];exact List.all_eq_true.mpr fun _ _=>rfl
theorem bp.ux {H:Hp} {F L N:Addr} (h:bp H F L) (e:H N=none):N≠F∧N≠L:=by
 obtain⟨ms,n,sd,a,b,_⟩:=h.ex
 exact⟨(aq a e).symm,(aq b e).symm⟩
theorem bp.lo {H H':Hp} {F L N:Addr} (h:bp H' F L) (k:cB F L H H') (e:H' N=none):H N=none:=by
 obtain⟨n1,n2⟩:=h.ux e
 cases z:H N with
 | none=>rfl
 | some o=>have:=k N o z n1 n2;rw[e] at this;cases this
theorem bp.upd {H:Hp} {F L N:Addr} {o:HO} (h:bp H F L) (n:N≠F∧N≠L):bp (upd H N o) F L:=by
 obtain⟨ms,m,sd,a,b,c⟩:=h.ex
 exact⟨ms,m,sd,by rw[ak n.1.symm];exact a,by rw[ak n.2.symm];exact b,c⟩
theorem cB.oN {H H':Hp} {F L N:Addr} {o:HO} (k:cB F L H H') (e:H N=none):cB F L H (upd H' N o):=fun b p h n m=>by
 rw[ak (aq h e)]
 exact k b p h n m
theorem Kg {T:(Bool→Hp→Prop)→Prop} {Qf:Bool→Hp→Prop} {c:Bool} (S:Hp→Prop) (h:∀Qc:Bool→Hp→Prop,(∀H',S H'→Qc c H')→T Qc) (x:∀H',S H'→Qf c H'):T Qf:=h Qf x
def iK:List Str:=["and","not","or"]
structure md (ss:List Str):Prop where
 once:ss.Nodup
 words:∀s∈ss,∃l,iV l∧s=aQ l
 no:∀s∈ss,s ∉ iK
theorem md.perm {ss rs:List Str} (h:md ss) (p:rs.Perm ss):md rs:=⟨p.nodup_iff.mpr h.once,fun s hs=>h.words s (p.mem_iff.mp hs),fun s hs=>h.no s (p.mem_iff.mp hs)⟩
structure Met (B:List Str) (l:List Nat) (vis:List Str):Prop where
 once:vis.Nodup
 sub:∀v∈vis,v∈B
 ex:∃r0,rk l % 17576=(r0+vis.length) % 17576∧∀(j:Nat) (v:Str),vis[j]? =some v→∃l',v=aQ l'∧rk l' % 17576=(r0+j) % 17576
theorem Met.step {B:List Str} {l:List Nat} {vis:List Str} (h:Met B l vis) (hw:iV l) (hB:B.length≤20) (hl:aQ l∈B):Met B (oM l) (vis++[aQ l]):=by
 obtain⟨r0,h1,h2⟩:=h.ex
 have len:=n_ h.once h.sub
 have fresh:aQ l ∉ vis:=fun z=>by
  obtain⟨j,hj⟩:=List.getElem?_of_mem z
  obtain⟨l',e,e2⟩:=h2 j _ hj
  rw[←CK e,h1] at e2
  have:=(List.getElem?_eq_some_iff.mp hj).1
  omega
 refine⟨?_,fun v hv=>?_,r0,?_,fun j v hj=>?_⟩
 ·rw[List.nodup_append]
  exact⟨h.once,by simp,fun a ha b hb e=>fresh (by rw[←List.mem_singleton.mp hb,←e];exact ha)⟩
 ·rcases List.mem_append.mp hv with z | z
  ·exact h.sub v z
  ·rw[List.mem_singleton.mp z];exact hl
 ·rw[Kd hw,List.length_append]
  show(rk l+1) % 17576=(r0+(vis.length+1)) % 17576
  omega
 ·by_cases lt:j<vis.length
  ·rw[List.getElem?_append_left lt] at hj
   exact h2 j v hj
  ·have hl2:=(List.getElem?_eq_some_iff.mp hj).1
   rw[List.length_append] at hl2
   have hl3:j<vis.length+1:=hl2
   have e:j=vis.length:=by omega
   subst e
   rw[List.getElem?_append_right (Nat.le_refl _),Nat.sub_self] at hj
   have e2:aQ l=v:=Option.some.inj hj
   exact⟨l,e2.symm,h1⟩
def Hy:Sp:=fun vs H Q _=>∃(F L:Addr) (m:Nat),vs=[.ref F,.int m]∧bp H F L∧m≤6∧
 ∀(D:Addr) (ss:List Str) (H':Hp),H D=none→cB F L H H'→bp H' F L→H' D=some (.tup (ss.map V.str))→ss.length=m→md ss→PyProof.Rows.sortedS ss=true→Q (.ref D) H'
theorem f_:aS ["_law_feed_here","_law_many","_law_found","_law_k","_law_signs","_law_word"] ["_law_feed_here","_law_many"] (aj eQ):=⟨rfl,rfl,rfl,by decide+kernel,rfl,by decide+kernel,by decide+kernel⟩
theorem Af {a:bW} (T:Txt K mg a):bf P w K mg base bT 2 a.kD a.mN ["_law_feed_here","_law_many"] Hy:=by
 have bV:=kK (P:=P) (w:=w) (base:=base) T
 have CM:=Ae (P:=P) (w:=w) (base:=base) T
 refine T.BX.ok f_ (fun vs H Q E h=>?_) (fun cdv A outer s H vs Q E hr h=>?_)
 ·obtain⟨F,L,m,rfl,_⟩:=h
  rfl
 ·obtain⟨F,L,m,rfl,hf,hm,k⟩:=h
  have bE:aP 1 _:=hr
  have Ag:aP 1 _:=hr
  refine⟨_,(ah (av (i:=2) f_.nd rfl (Or.inl rfl) (bz ag))
  (ah (bq PassesOwn.never rfl (bM rfl T.cq (ae (pv 1) ag)) (az (i:=3) f_.nd rfl (Or.inl rfl))
   (ah (eV (i:=4) (aI.mk' (esc:=aj eQ) (N:=["_law_feed_here","_law_many","_law_found","_law_k","_law_signs","_law_word"]) (own:=["_law_sign"]) (aF:=["_law_feed_here"]) (bJ:=[0]) rfl rfl (by decide+kernel)) rfl (bM rfl T.cq (ae (aG cP ao (aC bV bE rfl T.cy T.cz T.cA .nil aN (ae (pv 0) (ae ao ag)))) ag)) (fun _ _ _ _=>(az (i:=0) (show List.Nodup (["_law_sign","_law_feed_here"]:List Str) by decide+kernel) rfl (Or.inl rfl))) (fun _ _ _ _=>bU) (fun _ _ _ _=>(aC bV bE rfl T.cy T.cz T.cA .nil aN (ae (pv 1) (ae ao ag)))) f_.nd rfl rfl)
   (ah (av (i:=5) f_.nd rfl (Or.inl rfl) (cf PySem.F.plainAttrs_str PySem.F.slot_str_join PySem.F.type_str_join (DK K) bG (ae (cF (aI.mk' (esc:=aj eQ) (N:=["_law_feed_here","_law_many","_law_found","_law_k","_law_signs","_law_word"]) (own:=["_law_sign"]) (aF:=[]) (bJ:=[]) rfl rfl (by decide+kernel)) rfl (cb (pv 4)) (fun _ _ _ _=>(az (i:=0) (show List.Nodup (["_law_sign"]:List Str) by decide+kernel) rfl (Or.inl rfl))) (fun _ _ _ _=>bU) (fun _ _ _ _=>(aJ AY bG (pv 0) (fun _ _=>rfl)))) ag)))
   (ah (ip PassesOwn.never (PW.pt (qc (bo (qx K) (pv 5) (pv 2) (by with_unfolding_all rfl)) (nJ (bo (qx K) (pv 5) (bP (ae bG (ae bG (ae bG ag)))) (by with_unfolding_all rfl)))))
    (au (av (i:=5) f_.nd rfl (Or.inl rfl) (aC CM Ag rfl T.BU T.BV T.BW .nil aN (ae (pv 5) ag)))))
   (au (bt (cf PySem.F.plainAttrs_list PySem.F.slot_list_append PySem.F.type_list_append aZ (pv 2) (ae (pv 5) ag))))))))
  (au (aR (aY (aX K) (by rfl) T.bS bB (ae (aA (xC K) (by rfl) T.pX nX (ae (pv 2) ag)) ag)))))),?_⟩
  have p3:(3:Nat)<2 ^ 1000:=Nat.lt_of_lt_of_le (show 3<2 ^ 2 by decide) (Nat.pow_le_pow_right (by decide) (by decide))
  have TY:(26:Nat)<2 ^ 1000:=Nat.lt_of_lt_of_le (show 26<2 ^ 6 by decide) (Nat.pow_le_pow_right (by decide) (by decide))
  have big:(100:Nat)≤sizeLine:=by decide
  refine⟨by decide,fun N hN=>?_⟩
  have nN:=hf.ux hN
  refine⟨_,rfl,_,rfl,by omega,by omega,kh (n:=(m:Int).toNat) (fun i σ H'=>∃(fs:List Str) (v3 v4 v5:Option V),σ=[some (.ref F),some (.int (m:Nat)),some (.ref N),v3,v4,v5]∧cB F L H H'∧bp H' F L∧H' N=some (.lst (fs.map V.str))∧fs.length=i∧md fs)
   ⟨[],none,none,none,rfl,(Same.new hN).kb2,hf.same (Same.new hN),af,rfl,⟨List.nodup_nil,fun s hs=>(by cases hs),fun s hs=>(by cases hs)⟩⟩ ?_ ?_⟩
  ·rintro i σ H1 hi ⟨fs,v3,v4,v5,rfl,k1,f1,n1,lf,ok⟩
   rw[Int.toNat_natCast] at hi
   refine⟨_,rfl,F,L,3,rfl,f1,by decide,p3,fun t H2 t1 k2 f2=>⟨_,_,rfl,rfl,_,rfl,by omega,by omega,fun C hC=>?_⟩⟩
   have n2:=k2 _ _ n1 nN.1 nN.2
   have nC:=f2.ux hC
   have WR:N≠C:=aq n2 hC
   refine fR (fun j σ H'=>∃(rs:List Nat) (v:Option V),σ=[v,some (.ref F)]∧cB F L H2 H'∧bp H' F L∧H' C=some (.lst (rs.map fun r=>V.int (r:Nat)))∧rs.length=j∧∀r∈rs,r<26)
    ⟨[],none,rfl,(Same.new hC).kb2,f2.same (Same.new hC),af,rfl,fun r hr=>(by cases hr)⟩ ?_ ?_
   ·rintro j σ H3 hj ⟨rs,v,rfl,k3,f3,c3,lr,hrs⟩
    refine⟨_,rfl,F,L,26,rfl,f3,by decide,TY,fun r H4 r1 k4 f4=>?_⟩
    have c4:=k4 _ _ c3 nC.1 nC.2
    refine⟨_,c4,?_,rs++[r],_,rfl,cB.oN (k3.trans k4) hC,f4.upd nC,?_,?_,fun x hx=>?_⟩
    ·rw[List.length_map];omega
    ·rw[af,List.map_append];rfl
    ·rw[List.length_append,lr];rfl
    ·rcases List.mem_append.mp hx with z | z
     ·exact hrs x z
     ·rw[List.mem_singleton.mp z];exact r1
   rintro σ H3 ⟨rs,v,rfl,k3,f3,c3,lr,hrs⟩
   have n3:=k3 _ _ n2 nN.1 nN.2
   have WS:rs.length=t+1:=by omega
   dsimp only[ay]
   refine⟨rfl,_,rfl,C,rfl,⟨_,.of c3⟩,fun D hD=>?_⟩
   refine dH (xs:=rs.map fun r=>V.int (r:Nat)) (fun j σ H'=>∃(v:Option V),σ=[v]∧Same H3 H'∧H' D=some (.lst (((rs.take j).map fun c=>aQ [c]).map V.str)))
    ⟨none,?sg,Same.new hD,af⟩ (fun j σ H' _ ⟨_,_,s,_⟩=>.of (s _ _ c3)) ?_ ?_
   case sg=>rfl
   ·rintro j y σ H4 hy ⟨v,rfl,s4,e4⟩
    rw[List.getElem?_map] at hy
    obtain⟨r,er,rfl⟩:=Option.map_eq_some_iff.mp hy
    have hj:j<rs.length:=(List.getElem?_eq_some_iff.mp er).1
    refine⟨_,rfl,lD,_,97+r,rfl,rfl,wW,aB (CJ r (hrs r (List.mem_of_getElem? er))),_,e4,?_,_,rfl,s4.kbn hD KB.write,?_⟩
    ·rw[List.length_map,List.length_map,List.length_take];omega
    ·rw[af,take_snoc er,List.map_append,List.map_append];rfl
   rintro σ H4 ⟨v,rfl,s4,e4⟩
   rw[List.length_map,List.take_length] at e4
   refine⟨"",D,rs.map fun c=>aQ [c],rfl,rfl,.of e4,?jl,fun z hz NY=>?_⟩
   case jl=>
    have e0:(Str.length ("":Str))=0:=rfl
    have e1:((rs.map fun c=>aQ [c]).map (·.length)).sum=rs.length:=by
     rw[List.map_map]
     have:(fun c=>(aQ [c]).length)=fun _=>1:=funext fun c=>fM [c]
     show(rs.map fun c=>(aQ [c]).length).sum=_
     rw[this,List.map_const']
     induction rs.length with
     | zero=>rfl
     | succ n ih=>rw[List.replicate_succ,List.sum_cons,ih];omega
    rw[e0,e1];omega
   rw[Kf rs (by omega)] at NY
   subst NY
   have wd:iV rs:=⟨by omega,by omega,hrs⟩
   have n4:=s4 _ _ n3
   have k4:cB F L H H4:=((k1.trans k2).trans k3).trans s4.kb2
   have f4:=f3.same s4
   dsimp only[ay]
   refine yC (fun mm σ H'=>∃(l:List Nat) (vis:List Str),mm=50-vis.length∧σ=[some (.ref F),some (.int (m:Nat)),some (.ref N),some (.int (0+(i:Int))),some (.ref C),some (.str (aQ l))]∧Same H4 H'∧iV l∧Met (fs++iK) l vis)
    ⟨_,rs,[],rfl,rfl,.refl _,wd,List.nodup_nil,fun v hv=>(by cases hv),rk rs,rfl,fun j v hj=>(by simp at hj)⟩ ?_ ?_
   ·rintro mm σ H5 ⟨l,vis,rfl,rfl,s5,hw,met⟩
    have n5:=s5 _ _ n4
    refine Kg (c:=decide (aQ l∈fs++iK)) (Same H5) (fun Qc hq=>?_) (fun H6 s6=>?_)
    ·refine⟨_,rfl,_,rfl,N,_,rfl,.inl (.of n5),rfl,Hx fs,_,rfl,?_⟩
     rw[if_neg Bool.false_ne_true,pL]
     refine dk (fun z=>?_) (fun z=>?_)
     ·have z':aQ l∈fs:=of_decide_eq_true z
      have:=hq H5 (.refl _)
      rwa [decide_eq_true (List.mem_append.mpr (.inl z'))] at this
     ·have z':aQ l ∉ fs:=fun y=>z (decide_eq_true y)
      refine⟨_,rfl,by show 3≤sizeLine;decide,fun Z hZ=>⟨Z,_,rfl,.inr (.of af),rfl,rfl,_,rfl,?_⟩⟩
      have:=hq _ (Same.new (o:=.tup [.str "and",.str "not",.str "or"]) hZ)
      have ee:decide (aQ l∈fs++iK)=(if false=true then !inV (V.str (aQ l)) [.str "and",.str "not",.str "or"] else inV (V.str (aQ l)) [.str "and",.str "not",.str "or"]):=by
       rw[if_neg (by decide),show([.str "and",.str "not",.str "or"]:List V)=iK.map V.str from rfl,pL]
       exact decide_eq_decide.mpr ⟨fun y=>(List.mem_append.mp y).resolve_left z',fun y=>List.mem_append.mpr (.inr y)⟩
      rw[ee] at this
      exact this
    ·refine dk (fun z=>?_) (fun z=>?_)
     ·have z':=of_decide_eq_true z
      have lB:(fs++iK).length≤20:=by rw[List.length_append];show fs.length+3≤20;omega
      have PY:=met.step hw lB z'
      have lv:=n_ met.once met.sub
      refine⟨_,rfl,l,rfl,hw,50-(vis++[aQ l]).length,?_,oM l,vis++[aQ l],rfl,rfl,s5.trans s6,EB hw,PY⟩
      rw[List.length_append]
      show 50-(vis.length+1)<_
      omega
     ·have z':aQ l ∉ fs++iK:=fun y=>z (decide_eq_true y)
      have n6:=s6 _ _ n5
      refine⟨_,rfl,.inl ⟨rfl,_,.of n6⟩,_,rfl,N,_,_,rfl,rfl,n6,?_,fs++[aQ l],_,_,_,rfl,?_,?_,?_,?_,?_⟩
      ·rw[List.length_map];omega
      ·exact cB.oN (k4.trans (s5.trans s6).kb2) hN
      ·exact(f4.same (s5.trans s6)).upd nN
      ·rw[af,List.map_append];rfl
      ·rw[List.length_append,lf];rfl
      ·refine⟨?_,fun s hs=>?_,fun s hs=>?_⟩
       ·rw[List.nodup_append]
        exact⟨ok.once,by simp,fun a ha b hb e=>z' (List.mem_append.mpr (.inl (by rw[←List.mem_singleton.mp hb,←e];exact ha)))⟩
       ·rcases List.mem_append.mp hs with y | y
        ·exact ok.words s y
        ·exact⟨l,hw,List.mem_singleton.mp y⟩
       ·rcases List.mem_append.mp hs with y | y
        ·exact ok.no s y
        ·rw[List.mem_singleton.mp y];exact fun x=>z' (List.mem_append.mpr (.inr x))
   ·rintro σ H Q Q' hQ ⟨v,e1,v2,e2,a,xs,e3,e4,e5,e6,b,e7,q⟩
    refine⟨v,e1,v2,e2,a,xs,e3,e4,e5,e6,b,e7,?_⟩
    revert q
    cases b with
    | true=>exact fun q=>hQ _ _ q
    | false=>
     rintro⟨v,e1,z,q⟩
     refine⟨v,e1,z,fun p hp=>?_⟩
     obtain⟨a,xs,e3,e4,e5,e6,b,e7,q⟩:=q p hp
     exact⟨a,xs,e3,e4,e5,e6,b,e7,hQ _ _ q⟩
  ·rintro σ H1 ⟨fs,v3,v4,v5,rfl,k1,f1,n1,lf,ok⟩
   rw[Int.toNat_natCast] at lf
   refine⟨_,rfl,N,fs,rfl,.of n1,by omega,fun p ss hp perm FN=>?_⟩
   have sp:=Same.new (o:=.lst (ss.map V.str)) hp
   refine⟨p,_,rfl,.inl ⟨.of af,fun D hD=>?_⟩⟩
   have sD:=Same.new (o:=.tup (ss.map V.str)) hD
   have kk:=k1.trans sp.kb2
   have ff:=f1.same sp
   exact k D ss _ (ff.lo kk hD) (kk.trans sD.kb2) (ff.same sD) af (by rw[perm.length_eq,lf]) (ok.perm perm) FN
theorem Moves.at {n b:Nat} {mv:List (List Nat)} (h:Moves n b mv) {r f:Nat} (hr:r<n) (hf:f<b):((mv.getD r []).getD f 0)<n:=by
 have h1:mv[r]? =some (mv.getD r []):=item_at [] (by rw[h.len];exact hr)
 obtain⟨l1,l2⟩:=h.lead _ (List.mem_of_getElem? h1)
 have h2:=item_at 0 (show f<(mv.getD r []).length by omega)
 exact l2 _ (List.mem_of_getElem? h2)
def bQ (f:Nat→Nat):Nat→Nat→Nat
 | 0,x=>x
 | k+1,x=>f (bQ f k x)
theorem me (f:Nat→Nat):∀a b x,bQ f (a+b) x=bQ f a (bQ f b x)
 | 0,b,x=>by rw[Nat.zero_add];rfl
 | a+1,b,x=>by rw[Nat.succ_add];exact congrArg f (me f a b x)
theorem oO {f:Nat→Nat} {n:Nat} (h:∀x,x<n→f x<n):∀k x,x<n→bQ f k x<n
 | 0,x,hx=>hx
 | k+1,x,hx=>h _ (oO h k x hx)
theorem NZ:∀(n:Nat) (g:Nat→Nat),(∀k,k≤n→g k<n)→∃i j,i<j∧j≤n∧g i=g j
 | 0,g,h=>absurd (h 0 (Nat.le_refl _)) (Nat.not_lt_zero _)
 | n+1,g,h=>by
  by_cases e:∃i,i≤n∧g i=g (n+1)
  ·obtain⟨i,hi,e⟩:=e
   exact⟨i,n+1,by omega,Nat.le_refl _,e⟩
  ·have ne:∀i,i≤n→g i≠g (n+1):=fun i hi z=>e ⟨i,hi,z⟩
   have hv:=h (n+1) (Nat.le_refl _)
   obtain⟨i,j,hij,hj,eq⟩:=NZ n (fun k=>if g (n+1)<g k then g k-1 else g k) (fun k hk=>by
    have h1:=h k (by omega)
    have h2:=ne k hk
    show(if g (n+1)<g k then g k-1 else g k)<n
    split<;>omega)
   refine⟨i,j,hij,by omega,?_⟩
   have h1:=ne i (by omega)
   have h2:=ne j hj
   have eq':(if g (n+1)<g i then g i-1 else g i)=(if g (n+1)<g j then g j-1 else g j):=eq
   split at eq'<;>split at eq'<;>omega
theorem ring {f:Nat→Nat} {n r:Nat} (h:∀x,x<n→f x<n) (hr:r<n):∃p,0<p∧p≤n∧bQ f p (bQ f n r)=bQ f n r:=by
 obtain⟨i,j,hij,hj,e⟩:=NZ n (fun k=>bQ f k r) (fun k _=>oO h k r hr)
 refine⟨j-i,by omega,by omega,?_⟩
 have e1:bQ f n r=bQ f (n-j) (bQ f j r):=by rw[←me];congr 1;omega
 have e2:bQ f (j-i) (bQ f n r)=bQ f (n-i) (bQ f j r):=by rw[e1,←me];congr 1;omega
 have e3:bQ f n r=bQ f (n-i) (bQ f i r):=by rw[←me];congr 1;omega
 rw[e2,e3]
 exact congrArg _ e.symm
theorem kT (f:Nat→Nat):∀k x,bQ f k (f x)=bQ f (k+1) x
 | 0,_=>rfl
 | k+1,x=>congrArg f (kT f k x)
def mf (f:Nat→Nat) (n x m:Nat):Prop:=(∃k,m=bQ f k (bQ f n x))∧∀k,m≤bQ f k (bQ f n x)
theorem mf.next {f:Nat→Nat} {n x m m':Nat} (h:∀x,x<n→f x<n) (hx:x<n) (a:mf f n x m) (b:mf f n (f x) m'):m'=m:=by
 obtain⟨p,p0,_,hp⟩:=ring h hx
 have e:bQ f n (f x)=f (bQ f n x):=kT f n x
 unfold mf at a b
 rw[e] at b
 generalize bQ f n x=c at a b hp
 obtain⟨⟨k1,e1⟩,l1⟩:=a
 obtain⟨⟨k2,e2⟩,l2⟩:=b
 rw[kT] at e2
 have h1:=l1 (k2+1)
 have h3:bQ f k1 c=bQ f (k1+(p-1)) (f c):=by
  rw[kT,show k1+(p-1)+1=k1+p by omega,me,hp]
 have h2:=l2 (k1+(p-1))
 rw[←h3] at h2
 omega
def Hz:Sp:=fun vs H Q _=>∃(M:Addr) (ps:List Addr) (n b:Nat) (mv:List (List Nat)),vs=[.ref M]∧H M=some (.lst (ps.map V.ref))∧bX H ps (mv.map ai)∧Moves n b mv∧0<b∧n≤2000∧
 ∀(D:Addr) (rs:List Nat) (H':Hp),H D=none→Same H H'→H' D=some (.lst ((ai rs).map V.int))→rs.length=n→(∀r∈rs,r<n)→(∀r,r<n→rs.getD (stp mv r 0) 0=rs.getD r 0)→Q (.ref D) H'
theorem fe:aS ["_law_moves","_law_found","_law_room","_law_at","_law_turn","_law_ring"] ["_law_moves"] (aj gR):=⟨rfl,rfl,rfl,by decide+kernel,rfl,by decide+kernel,by decide+kernel⟩
theorem Ah {a:bW} (T:Txt K mg a):bf P w K mg base bT 1 a.kE a.mO ["_law_moves"] Hz:=by
 refine T.B1.ok fe (fun vs H Q E h=>?_) (fun cdv A outer s H vs Q E hr h=>?_)
 ·obtain⟨M,ps,n,b,mv,rfl,_⟩:=h
  rfl
 ·obtain⟨M,ps,n,b,mv,rfl,eM,tp,hm,hb,hn,k⟩:=h
  refine⟨_,(ah (av (i:=1) fe.nd rfl (Or.inl rfl) (bz ag))
  (ah (bq PassesOwn.never rfl (bM rfl T.cq (ae (aA (aM K) (by rfl) T.bF bg (ae (pv 0) ag)) ag)) (az (i:=2) fe.nd rfl (Or.inl rfl))
   (ah (av (i:=3) fe.nd rfl (Or.inl rfl) (pv 2))
   (ah (bq PassesOwn.never rfl (cb (pv 0)) (az (i:=4) fe.nd rfl (Or.inl rfl))
    (au (av (i:=3) fe.nd rfl (Or.inl rfl) (aJ (aO K) (aJ (bC K) (pv 0) (pv 3) (fun _ _=>rfl)) ao (fun _ _=>rfl)))))
   (ah (av (i:=5) fe.nd rfl (Or.inl rfl) (bz (ae (pv 3) ag)))
   (ah (ip PassesOwn.never (bo my (aJ (aO K) (aJ (bC K) (pv 0) (aJ (bC K) (pv 5) (u_ qg ao) (fun _ _=>rfl)) (fun _ _=>rfl)) ao (fun _ _=>rfl)) (pv 3) (aU _))
    (au (bt (cf PySem.F.plainAttrs_list PySem.F.slot_list_append PySem.F.type_list_append aZ (pv 5) (ae (aJ (aO K) (aJ (bC K) (pv 0) (aJ (bC K) (pv 5) (u_ qg ao) (fun _ _=>rfl)) (fun _ _=>rfl)) ao (fun _ _=>rfl)) ag)))))
   (au (bt (cf PySem.F.plainAttrs_list PySem.F.slot_list_append PySem.F.type_list_append aZ (pv 1) (ae (aA (By K rfl) (by rfl) T.M_ IG (ae (pv 5) ag)) ag)))))))))
  (au (aR (pv 1))))),?_⟩
  have big:(10000:Nat)≤sizeLine:=by decide
  have lp:ps.length=n:=by rw[Paired.length tp,List.length_map,hm.len]
  let f:Nat→Nat:=fun x=>(mv.getD x []).getD 0 0
  have hf:∀x,x<n→f x<n:=fun x hx=>hm.at hx hb
  have look:∀{H':Hp} (x:Nat),Same H H'→x<n→br K H' M (ps.map V.ref)∧lI (ps.map V.ref) (x:Int)=some (.ref (ps.getD x 0))∧bH K H' (ps.getD x 0) ((ai (mv.getD x [])).map V.int)∧lI ((ai (mv.getD x [])).map V.int) 0=some (.int (f x:Nat)):=fun x s hx=>by
   obtain⟨h1,h2,h3⟩:=hm.row tp hx
   exact⟨.of (s _ _ eM),aB (by rw[List.getElem?_map,h1];rfl),.of (s _ _ h2),aB (j:=0) (dy (by omega))⟩
  refine ax fun Y hY=>?_
  refine⟨by decide,fun D hD=>?_⟩
  dsimp only[ay]
  subst hY
  refine ax fun Y hY=>?_
  have sD:=Same.new (o:=.lst []) hD
  have WT:M≠D:=aq eM hD
  refine⟨_,rfl,_,n,rfl,.inl ⟨_,.of (sD _ _ eM),by rw[List.length_map,lp]⟩,_,rfl,by omega,by omega,dw (n:=(n:Int).toNat) (fun i σ H'=>∃(rs:List Nat) (v2 v3 v4 v5:Option V),σ=[some (.ref M),some (.ref D),v2,v3,v4,v5]∧Same H H'∧H' D=some (.lst ((ai rs).map V.int))∧rs.length=i∧(∀r∈rs,r<n)∧∀j,j<i→mf f n j (rs.getD j 0))
   ⟨[],none,none,none,none,rfl,sD,af,rfl,fun r hr=>(by cases hr),fun j hj=>absurd hj (Nat.not_lt_zero _)⟩ ?_ ?_⟩
  ·rintro i σ H1 N hN hi ⟨rs,v2,v3,v4,v5,rfl,s1,d1,lr,hrs,hra⟩
   rw[Int.toNat_natCast] at hi
   have ei:(0:Int)+(i:Int)=((bQ f 0 i:Nat):Int):=by show _=(i:Int);omega
   dsimp only[ay]
   refine ax fun Y2 dM=>?_
   refine⟨_,rfl,?_⟩
   dsimp only[ay]
   subst dM
   refine ax fun Y2 dM=>?_
   refine⟨_,rfl,M,rfl,⟨_,.of (s1 _ _ eM)⟩,i_ (xs:=ps.map V.ref) (fun j σ H'=>∃v4:Option V,σ=[some (.ref M),some (.ref D),some (.int (0+(i:Int))),some (.int (bQ f j i:Nat)),v4,v5]∧H'=H1)
    ⟨v4,?st,rfl⟩ (fun j σ H' _ ⟨_,_,e⟩=>by rw[e];exact .of (s1 _ _ eM)) ?_ ?_⟩
   case st=>rw[←ei];rfl
   ·rintro j x σ H2 N2 pC hx ⟨v4,rfl,rfl⟩
    obtain⟨l1,l2,l3,l4⟩:=look (bQ f j i) s1 (oO hf j i hi)
    exact⟨_,rfl,_,rfl,M,_,_,_,rfl,rfl,l1,l2,_,_,_,_,rfl,rfl,l3,l4,pC _ _ ⟨some x,rfl,rfl⟩⟩
   rintro σ H2 ⟨v4,rfl,rfl⟩
   rw[List.length_map,lp]
   have hat:=oO hf n i hi
   obtain⟨p,hp0,hpn,hp⟩:=ring hf hi
   generalize PZ:bQ f n i=at_ at hat hp ⊢
   subst dM
   dsimp only
   refine ax fun Y2 dM=>?_
   refine⟨_,rfl,by show 1≤sizeLine;decide,fun R hR=>?_⟩
   have sR:=Same.new (o:=.lst [.int (at_:Nat)]) hR
   have N_:D≠R:=aq d1 hR
   have T_:H R=none:=s1.free hR
   dsimp only[ay]
   subst dM
   refine ax fun Y2 dM=>?_
   refine oZ (fun m σ H'=>∃(ks:List Nat) (j:Nat),m=p-j∧j<p∧σ=[some (.ref M),some (.ref D),some (.int (0+(i:Int))),some (.int (at_:Nat)),v4,some (.ref R)]∧Same H H'∧H' D=some (.lst ((ai rs).map V.int))∧H' R=some (.lst ((ai (ks++[bQ f j at_])).map V.int))∧ks.length=j∧(∀x∈ks,x<n)∧ks=(List.range j).map fun k=>bQ f k at_)
    ⟨_,[],0,rfl,hp0,rfl,s1.trans sR,by rw[ak N_];exact d1,af,rfl,fun x hx=>(by cases hx),rfl⟩ ?_ ?_
   ·rintro m σ H2 N3 T2 ⟨ks,j,rfl,hj,rfl,s2,d2,r2,lk,hks,ek⟩
    have hc:=oO hf j at_ hat
    have stp:bQ f (j+1) at_=f (bQ f j at_):=rfl
    obtain⟨l1,l2,l3,l4⟩:=look (bQ f j at_) s2 hc
    have lst:∀c:Nat,(ai (ks++[c])).map V.int=(ai ks).map V.int++[.int (c:Nat)]:=fun c=>by rw[bj,List.map_append];rfl
    have la:lI ((ai (ks++[bQ f j at_])).map V.int) (-1)=some (.int (bQ f j at_:Nat)):=by rw[lst];exact DC _ _
    have len:((ai (ks++[bQ f j at_])).map V.int).length<sizeLine:=by rw[List.length_map,aD,List.length_append,lk];show j+1<_;omega
    generalize hcj:bQ f j at_=c at*
    refine⟨_,rfl,_,rfl,_,rfl,R,_,_,_,rfl,rfl,.of r2,la,M,_,_,_,rfl,rfl,l1,l2,_,_,_,_,rfl,rfl,l3,l4,_,rfl,rfl,_,rfl,?_⟩
    refine dk (fun z=>?_) (fun zz=>?_)
    ·have ne:f c≠at_:=fun y=>by rw[y] at z;simp at z
     have lt:j+1<p:=by
      rcases Nat.lt_or_ge (j+1) p with y | y
      ·exact y
      ·have e:p=j+1:=by omega
       rw[e,stp] at hp
       exact absurd hp ne
     refine⟨_,rfl,.inl ⟨rfl,_,.of r2⟩,_,rfl,_,rfl,_,rfl,R,_,_,_,rfl,rfl,.of r2,la,M,_,_,_,rfl,rfl,l1,l2,_,_,_,_,rfl,rfl,l3,l4,R,_,_,rfl,rfl,r2,len,T2 _ _ (p-(j+1)) (by omega) ⟨ks++[c],j+1,rfl,lt,rfl,s2.kbn T_ KB.write,by rw[ak N_];exact d2,?_,by rw[List.length_append,lk];rfl,fun x hx=>?_,by rw[List.range_succ,List.map_append,ek];exact congrArg (fun q=>(List.range j).map (fun k=>bQ f k at_)++[q]) hcj.symm⟩⟩
     ·rw[af,stp,bj (ks++[c]),List.map_append];rfl
     ·rcases List.mem_append.mp hx with y | y
      ·exact hks x y
      ·rw[List.mem_singleton.mp y];exact hc
    ·subst dM
     dsimp only
     refine⟨_,rfl,.inl ⟨rfl,_,.of d2⟩,_,rfl,R,_,rfl,.of r2,?nn,fun m hmm hle=>?_⟩
     case nn=>intro z;have:=congrArg List.length z;rw[aD,List.length_append] at this;cases this
     obtain⟨x,hx,rfl⟩:=List.mem_map.mp hmm
     have hxn:x<n:=by
      rcases List.mem_append.mp hx with y | y
      ·exact hks x y
      ·rw[List.mem_singleton.mp y];exact hc
     refine⟨D,_,_,rfl,rfl,d2,?_,hN _ _ ⟨rs++[x],_,_,_,_,rfl,s2.kbn hD KB.write,?_,by rw[List.length_append,lr];rfl,fun r hr=>?_,fun q hq=>?_⟩⟩
     ·rw[List.length_map,aD];omega
     ·rw[af,bj,List.map_append];rfl
     ·rcases List.mem_append.mp hr with y | y
      ·exact hrs r y
      ·rw[List.mem_singleton.mp y];exact hxn
     ·by_cases T3:q<i
      ·rw[List.getD_eq_getElem?_getD,List.getElem?_append_left (by omega),←List.getD_eq_getElem?_getD];exact hra q T3
      ·have T4:q=i:=by omega
       subst T4
       rw[List.getD_eq_getElem?_getD,List.getElem?_append_right (by omega),show q-rs.length=0 by omega]
       have fc:f c=at_:=Classical.byContradiction fun y=>zz (by rw[Bool.not_eq_true',decide_eq_false_iff_not];intro w;injection w with w;exact y (by omega))
       have all:∀k,bQ f k at_∈ks++[c]:=fun k=>by
        have eL:ks++[c]=(List.range (j+1)).map fun k=>bQ f k at_:=by rw[List.range_succ,List.map_append,ek];exact congrArg (fun q=>(List.range j).map (fun k=>bQ f k at_)++[q]) hcj.symm
        rw[eL]
        induction k with
        | zero=>exact List.mem_map.mpr ⟨0,List.mem_range.mpr (by omega),rfl⟩
        | succ k ih=>
         obtain⟨q,hq,e⟩:=List.mem_map.mp ih
         have hq:=List.mem_range.mp hq
         show f (bQ f k at_)∈_
         rw[←e]
         by_cases WU:q<j
         ·exact List.mem_map.mpr ⟨q+1,List.mem_range.mpr (by omega),rfl⟩
         ·have:q=j:=by omega
          subst this
          rw[show f (bQ f q at_)=at_ by rw[hcj];exact fc]
          exact List.mem_map.mpr ⟨0,List.mem_range.mpr (by omega),rfl⟩
       have ex:∃k,x=bQ f k at_:=by
        rcases List.mem_append.mp hx with y | y
        ·rw[ek] at y
         obtain⟨k,_,e⟩:=List.mem_map.mp y
         exact⟨k,e.symm⟩
        ·rw[List.mem_singleton.mp y];exact⟨j,hcj.symm⟩
       have le:∀k,x≤bQ f k at_:=fun k=>by
        have:=hle _ (List.mem_map.mpr ⟨_,all k,rfl⟩)
        omega
       unfold mf
       rw[PZ]
       exact⟨ex,le⟩
   ·rintro σ H Q Q' hQ ⟨v1,e1,v2,e2,v3,e3,a1,x1,i1,w1,e4,e5,h6,h7,a2,x2,i2,w2,e8,e9,h10,h11,a3,x3,i3,w3,JQ,T5,h14,h15,v4,T6,T7,b,T9,q⟩
    exact⟨v1,e1,v2,e2,v3,e3,a1,x1,i1,w1,e4,e5,h6,h7,a2,x2,i2,w2,e8,e9,h10,h11,a3,x3,i3,w3,JQ,T5,h14,h15,v4,T6,T7,b,T9,hQ _ _ q⟩
  ·rintro σ H1 ⟨rs,v2,v3,v4,v5,rfl,s1,d1,lr,hrs,hra⟩
   rw[Int.toNat_natCast] at lr hra
   subst hY
   exact⟨_,rfl,k D rs H1 hD s1 d1 lr hrs fun r hr=>(hra r hr).next hf hr (hra _ (hf r hr))⟩
theorem bp.ktu {H H':Hp} {F L:Addr} (h:bp H F L) (k:cB F L H H'):a_ H H':=fun b ys e=>by
 obtain⟨ms,n,sd,e1,e2,_⟩:=h.ex
 exact k b _ e (kg e e1 (fun z=>nomatch z)) (kg e e2 (fun z=>nomatch z))
def CN:Sp:=fun vs H Q _=>∃(F L nm:Addr) (b most:Nat) (ss:List Str),vs=[.ref F,.int b,.ref nm,.int most]∧bp H F L∧2≤b∧b≤4∧H nm=some (.tup (ss.map V.str))∧ss.length≤3∧0<most∧most≤1000∧
 ∀(ma:Addr) (bs:List Bool) (mv:List (List Nat)) (H':Hp),H ma=none→cB F L H H'→bp H' F L→fK H' ma nm bs mv→Moves bs.length (b ^ ss.length) mv→0<bs.length→bs.length≤most→(∀r,r<bs.length→bs.getD (stp mv r 0) false=bs.getD r false)→Q (.ref ma) H'
theorem dg:aS ["_law_feed_here","_law_base","_law_names_here","_law_most","_law_many","_law_letters_here","_law_name","_law_moves","_law_room","_law_yes"] ["_law_feed_here","_law_base","_law_names_here","_law_most"] (aj c_):=⟨rfl,rfl,rfl,by decide+kernel,rfl,by decide+kernel,by decide+kernel⟩
theorem wY {a:bW} (T:Txt K mg a):bf P w K mg base bT 2 a.iQ a.j5 ["_law_feed_here","_law_base","_law_names_here","_law_most"] CN:=by
 have bV:=kK (P:=P) (w:=w) (base:=base) T
 have CO:=Ah (P:=P) (w:=w) (base:=base) T
 refine T.xG.ok dg (fun vs H Q E h=>?_) (fun cdv A outer s H vs Q E hr h=>?_)
 ·obtain⟨F,L,nm,b,most,ss,rfl,_⟩:=h
  rfl
 ·obtain⟨F,L,nm,b,most,ss,rfl,hf,hb2,hb4,gb,N0,hm0,hm1,k⟩:=h
  have bE:aP 1 _:=hr
  have Ai:aP 1 _:=hr
  refine⟨_,(ah (av (i:=4) dg.nd rfl (Or.inr rfl) (aG cP ao (aC bV bE rfl T.cy T.cz T.cA .nil aN (ae (pv 0) (ae (pv 3) ag)))))
  (ah (av (i:=5) dg.nd rfl (Or.inl rfl) ao)
  (ah (bq PassesOwn.never rfl (fF (pv 2)) (az (i:=6) dg.nd rfl (Or.inl rfl))
   (au (av (i:=5) dg.nd rfl (Or.inl rfl) (aG fm (pv 5) (pv 1)))))
  (ah (av (i:=7) dg.nd rfl (Or.inl rfl) (bz ag))
  (ah (bq PassesOwn.never rfl (bM rfl T.cq (ae (pv 4) ag)) (az (i:=8) dg.nd rfl (Or.inl rfl))
   (au (bt (cf PySem.F.plainAttrs_list PySem.F.slot_list_append PySem.F.type_list_append aZ (pv 7) (ae (aY (aX K) (by rfl) T.bS bB (ae (cF (aI.mk' (esc:=aj c_) (N:=["_law_feed_here","_law_base","_law_names_here","_law_most","_law_many","_law_letters_here","_law_name","_law_moves","_law_room","_law_yes"]) (own:=["_law_letter"]) (aF:=["_law_feed_here","_law_many"]) (bJ:=[0,4]) rfl rfl (by decide+kernel)) rfl (bM rfl T.cq (ae (pv 5) ag)) (fun _ _ _ _=>(az (i:=0) (show List.Nodup (["_law_letter","_law_feed_here","_law_many"]:List Str) by decide+kernel) rfl (Or.inl rfl))) (fun _ _ _ _=>bU) (fun _ _ _ _=>(aC bV bE rfl T.cy T.cz T.cA .nil aN (ae (pv 1) (ae (pv 2) ag))))) ag)) ag)))))
  (ah (av (i:=9) dg.nd rfl (Or.inr rfl) (cF (aI.mk' (esc:=aj c_) (N:=["_law_feed_here","_law_base","_law_names_here","_law_most","_law_many","_law_letters_here","_law_name","_law_moves","_law_room","_law_yes"]) (own:=["_law_room"]) (aF:=["_law_feed_here"]) (bJ:=[0]) rfl rfl (by decide+kernel)) rfl (cb (pv 7)) (fun _ _ _ _=>(az (i:=0) (show List.Nodup (["_law_room","_law_feed_here"]:List Str) by decide+kernel) rfl (Or.inl rfl))) (fun _ _ _ _=>bU) (fun _ _ _ _=>(di hJ (aC bV bE rfl T.cy T.cz T.cA .nil aN (ae (pv 1) (ae ao ag))) ao (aU _)))))
  (au (aR (bP (ae (pv 2) (ae (aY (aX K) (by rfl) T.bS bB (ae (cF (aI.mk' (esc:=aj c_) (N:=["_law_feed_here","_law_base","_law_names_here","_law_most","_law_many","_law_letters_here","_law_name","_law_moves","_law_room","_law_yes"]) (own:=["_law_room"]) (aF:=["_law_yes"]) (bJ:=[9]) rfl rfl (by decide+kernel)) rfl (cb (aC CO Ai rfl T.B2 T.B3 T.B4 .nil aN (ae (pv 7) ag))) (fun _ _ _ _=>(az (i:=0) (show List.Nodup (["_law_room","_law_yes"]:List Str) by decide+kernel) rfl (Or.inl rfl))) (fun _ _ _ _=>bU) (fun _ _ _ _=>(aJ (bC K) (pv 1) (pv 0) (fun _ _=>rfl)))) ag)) (ae (aY (aX K) (by rfl) T.bS bB (ae (pv 7) ag)) ag)))))))))))),?_⟩
  have wZ:(2 ^ 10:Nat)<2 ^ 1000:=Nat.pow_lt_pow_right (by decide) (by decide)
  have big:(10000:Nat)≤sizeLine:=by decide
  have small:∀x:Nat,x≤1000→x<2 ^ 1000:=fun x hx=>Nat.lt_trans (show x<2 ^ 10 by omega) wZ
  refine ax fun Y hY=>?_
  refine⟨_,rfl,_,rfl,F,L,most,rfl,hf,hm0,small _ hm1,fun r H1 r1 k1 f1=>⟨_,_,rfl,rfl,?_⟩⟩
  have en:(1:Int)+(r:Int)=((1+r:Nat):Int):=by omega
  dsimp only[ay]
  subst hY
  refine ax fun Y hY=>?_
  dsimp only[kX,tC,ay]
  subst hY
  have N1:=hf.ktu k1
  rw[en]
  generalize hN:1+r=n
  have n0:0<n:=by omega
  have n1:n≤most:=by omega
  refine ax fun Y hY=>?_
  refine⟨_,rfl,nm,rfl,⟨_,.of (N1 _ _ gb)⟩,mJ (xs:=ss.map V.str) (fun i σ H'=>∃v6:Option V,σ=[some (.ref F),some (.int (b:Nat)),some (.ref nm),some (.int (most:Nat)),some (.int (n:Nat)),some (.int (b ^ i:Nat)),v6,none,none,none]∧H'=H1)
   ⟨none,rfl,rfl⟩ (fun i σ H' _ ⟨_,_,e⟩=>by rw[e];exact .of (N1 _ _ gb)) ?_ ?_⟩
  ·rintro i x σ H2 N hN hx ⟨v6,rfl,rfl⟩
   have hi:i<ss.length:=by have:=(List.getElem?_eq_some_iff.mp hx).1;rwa [List.length_map] at this
   refine⟨_,rfl,_,rfl,_,_,rfl,rfl,.inr (by constructor<;>omega),hN _ _ ⟨some x,?_,rfl⟩⟩
   have e1:(b ^ (i+1):Nat)=b ^ i*b:=Nat.pow_succ ..
   have e2:((b ^ i:Nat):Int)*(b:Int)=((b ^ (i+1):Nat):Int):=by rw[e1,Int.natCast_mul]
   rw[←e2]
   rfl
  rintro σ H2 ⟨v6,rfl,rfl⟩
  rw[List.length_map]
  have Kh:0<b ^ ss.length:=Nat.pow_pos (by omega)
  have P_:b ^ ss.length≤64:=Nat.le_trans (Nat.pow_le_pow_left hb4 _) (Nat.le_trans (Nat.pow_le_pow_right (show 0<4 by decide) N0) (by decide))
  generalize b ^ ss.length=B at Kh P_ k ⊢
  subst hY
  dsimp only
  refine ax fun Y hY=>?_
  refine⟨by decide,fun M hM=>?_⟩
  have nM:=f1.ux hM
  have oC:=f1.lo k1 hM
  dsimp only[ay]
  subst hY
  refine ax fun Y hY=>?_
  refine⟨_,rfl,_,rfl,by omega,by omega,dw (n:=(n:Int).toNat) (fun i σ H'=>∃(ps:List Addr) (mv:List (List Nat)) (v8:Option V),σ=[some (.ref F),some (.int (b:Nat)),some (.ref nm),some (.int (most:Nat)),some (.int (n:Nat)),some (.int (B:Nat)),v6,some (.ref M),v8,none]∧cB F L H H'∧bp H' F L∧H' M=some (.lst (ps.map V.ref))∧bX H' ps (mv.map ai)∧mv.length=i∧∀l∈mv,l.length=B∧∀x∈l,x<n)
   ⟨[],[],none,rfl,k1.trans (Same.new hM).kb2,f1.same (Same.new hM),af,.nil,rfl,fun l hl=>(by cases hl)⟩ ?_ ?_⟩
  ·rintro i σ H2 N hN hi ⟨ps,mv,v8,rfl,k2,f2,m2,CP,lm,ok⟩
   rw[Int.toNat_natCast] at hi
   refine⟨_,rfl,.inl ⟨rfl,_,.of m2⟩,_,rfl,_,rfl,by omega,by omega,fun C hC=>?_⟩
   have nC:=f2.ux hC
   have WV:=f2.lo k2 hC
   have Ua:M≠C:=aq m2 hC
   refine fR (fun j σ H'=>∃(rs:List Nat) (v:Option V),σ=[v,some (.ref F),some (.int (n:Nat))]∧cB F L H2 H'∧bp H' F L∧H' C=some (.lst ((ai rs).map V.int))∧rs.length=j∧∀r∈rs,r<n)
    ⟨[],none,?sg,(Same.new hC).kb2,f2.same (Same.new hC),af,rfl,fun r hr=>(by cases hr)⟩ ?_ ?_
   case sg=>rfl
   ·rintro j σ H3 hj ⟨rs,v,rfl,k3,f3,c3,lr,hrs⟩
    rw[Int.toNat_natCast] at hj
    refine⟨_,rfl,_,rfl,F,L,n,rfl,f3,n0,small _ (by omega),fun q H4 q1 k4 f4=>?_⟩
    refine⟨_,k4 _ _ c3 nC.1 nC.2,?_,rs++[q],_,rfl,cB.oN (k3.trans k4) hC,f4.upd nC,?_,by rw[List.length_append,lr];rfl,fun x hx=>?_⟩
    ·rw[List.length_map,aD];omega
    ·rw[af,bj,List.map_append];rfl
    ·rcases List.mem_append.mp hx with z | z
     ·exact hrs x z
     ·rw[List.mem_singleton.mp z];exact q1
   rintro σ H3 ⟨rs,v,rfl,k3,f3,c3,lr,hrs⟩
   rw[Int.toNat_natCast] at lr
   have m3:=k3 _ _ m2 nM.1 nM.2
   refine⟨C,_,rfl,.inl ⟨.of c3,fun D hD=>?_⟩⟩
   have sD:=Same.new (o:=.tup ((ai rs).map V.int)) hD
   have m4:=sD _ _ m3
   have w_:bX (upd H3 D (.tup ((ai rs).map V.int))) ps (mv.map ai):=(CP.keep (f2.ktu k3)).keep sD.kt
   have lps:ps.length=i:=by rw[Paired.length CP,List.length_map,lm]
   have ktM:a_ (upd H3 D (.tup ((ai rs).map V.int))) (upd (upd H3 D (.tup ((ai rs).map V.int))) M (.lst (ps.map V.ref++[.ref D]))):=a_.lst m4
   refine⟨M,_,_,rfl,rfl,m4,?_,hN _ _ ⟨ps++[D],mv++[rs],_,rfl,?_,?_,?_,?_,by rw[List.length_append,lm];rfl,fun l hl=>?_⟩⟩
   ·rw[List.length_map,lps];omega
   ·exact cB.oN ((k2.trans k3).trans sD.kb2) oC
   ·exact(f3.same sD).upd nM
   ·rw[af,List.map_append];rfl
   ·rw[List.map_append]
    exact bu (w_.keep ktM) (.cons (ktM _ _ af) .nil)
   ·rcases List.mem_append.mp hl with z | z
    ·exact ok l z
    ·rw[List.mem_singleton.mp z];exact⟨lr,hrs⟩
  rintro σ H2 ⟨ps,mv,v8,rfl,k2,f2,m2,CP,lm,ok⟩
  rw[Int.toNat_natCast] at lm
  have dJ:Moves n B mv:=⟨lm,ok⟩
  have lps:ps.length=n:=by rw[Paired.length CP,List.length_map,lm]
  subst hY
  dsimp only
  refine ax fun W hW=>?_
  refine⟨_,rfl,M,rfl,⟨_,.of m2⟩,fun Y hY=>?_⟩
  have nY:=f2.ux hY
  have WW:M≠Y:=aq m2 hY
  refine dH (xs:=ps.map V.ref) (fun j σ H'=>∃(bs:List Bool) (v:Option V),σ=[v,some (.ref F)]∧cB F L H2 H'∧bp H' F L∧H' Y=some (.lst (bs.map V.bl))∧bs.length=j)
   ⟨[],none,?sg,(Same.new hY).kb2,f2.same (Same.new hY),af,rfl⟩ (fun j σ H' _ ⟨_,_,_,k',_⟩=>.of (k' _ _ m2 nM.1 nM.2)) ?_ ?_
  case sg=>rfl
  ·rintro j x σ H3 hx ⟨bs,v,rfl,k3,f3,y3,lb⟩
   have hj:j<ps.length:=by have:=(List.getElem?_eq_some_iff.mp hx).1;rwa [List.length_map] at this
   refine⟨_,rfl,F,L,2,rfl,f3,by decide,small _ (by decide),fun q H4 q1 k4 f4=>⟨rfl,?_⟩⟩
   refine⟨_,k4 _ _ y3 nY.1 nY.2,?_,bs++[decide (V.int (q:Nat)=V.int 0)],_,rfl,cB.oN (k3.trans k4) hY,f4.upd nY,?_,by rw[List.length_append,lb];rfl⟩
   ·rw[List.length_map];omega
   ·rw[af,List.map_append];rfl
  rintro σ H3 ⟨bs,v,rfl,k3,f3,y3,lb⟩
  rw[List.length_map,lps] at lb
  have m3:=k3 _ _ m2 nM.1 nM.2
  have Ct:=CP.keep (f2.ktu k3)
  have Wy:=hf.ktu (k2.trans k3) _ _ gb
  have kk:=k2.trans k3
  dsimp only[ay]
  subst hW
  refine⟨_,rfl,_,rfl,M,ps,n,B,mv,rfl,m3,Ct,dJ,Kh,by omega,fun R rs H4 hR s4 r4 lr hrs hst=>?_⟩
  have y4:=s4 _ _ y3
  refine⟨R,rfl,⟨_,.of r4⟩,fun C hC=>?_⟩
  refine dH (xs:=(ai rs).map V.int) (fun j σ H'=>∃(cs:List Bool) (v:Option V),σ=[v,some (.ref Y)]∧Same H4 H'∧H' C=some (.lst (cs.map V.bl))∧cs.length=j∧cs=(rs.take j).map fun r=>bs.getD r false)
   ⟨[],none,?sg2,Same.new hC,af,rfl,rfl⟩ (fun j σ H' _ ⟨_,_,_,s',_⟩=>.of (s' _ _ r4)) ?_ ?_
  case sg2=>rfl
  ·rintro j x σ H5 hx ⟨cs,v,rfl,s5,c5,lc,FO⟩
   obtain⟨q,rfl,eq⟩:=fv hx
   have hq:=hrs q (List.mem_of_getElem? eq)
   have hj:j<rs.length:=(List.getElem?_eq_some_iff.mp eq).1
   obtain⟨y,ey⟩:∃y,bs[q]? =some y:=⟨_,List.getElem?_eq_getElem (by omega)⟩
   refine⟨_,rfl,_,rfl,Y,_,_,.bl y,rfl,rfl,.of (s5 _ _ y4),aB (by rw[List.getElem?_map,ey];rfl),_,c5,?_,cs++[y],_,rfl,s5.kbn hC KB.write,?_,by rw[List.length_append,lc];rfl,?_⟩
   ·rw[List.length_map];omega
   ·rw[af,List.map_append];rfl
   ·rw[take_snoc eq,List.map_append,←FO]
    show cs++[y]=cs++[bs.getD q false]
    rw[List.getD_eq_getElem?_getD,ey];rfl
  rintro σ H5 ⟨cs,v,rfl,s5,c5,lc,FO⟩
  rw[List.length_map,aD,lr] at lc
  rw[List.length_map,aD,List.take_length] at FO
  have N4:∀r,r<n→cs.getD r false=bs.getD (rs.getD r 0) false:=fun r hr=>by
   rw[FO,List.getD_eq_getElem?_getD,List.getElem?_map,item_at 0 (by omega:r<rs.length)];rfl
  refine⟨C,_,rfl,.inl ⟨.of c5,fun D hD=>?_⟩⟩
  have sD:=Same.new (o:=.tup (cs.map V.bl)) hD
  have CQ:=(s4.trans s5).trans sD
  refine⟨_,rfl,M,_,rfl,.inl ⟨.of (CQ _ _ m3),fun N hN=>?_⟩⟩
  have sN:=Same.new (o:=.tup (ps.map V.ref)) hN
  refine⟨by show 3≤sizeLine;decide,fun ma hma=>?_⟩
  have qZ:=Same.new (o:=.tup [.ref nm,.ref D,.ref N]) hma
  have df:=CQ.trans sN
  refine k ma cs mv _ (bp.lo (f3.same df) (kk.trans df.kb2) hma) (kk.trans (df.trans qZ).kb2) (f3.same (df.trans qZ)) ⟨D,N,ps,af,qZ _ _ (sN _ _ af),qZ _ _ af,Ct.keep (df.trans qZ).kt⟩ (by rw[lc];exact dJ) (by omega) (by omega) (fun r hr=>by rw[N4 _ (dJ.stp (by omega) Kh),N4 _ (by omega),hst r (by omega)])
theorem eK:aS ["_law_base","_law_many","_law_found","_law_turn","_law_more","_law_letter"] ["_law_base","_law_many"] (aj dW):=⟨rfl,rfl,rfl,by decide+kernel,rfl,by decide+kernel,by decide+kernel⟩
theorem w4 {a:bW} (T:Txt K mg a):bf P w K mg base bT 1 a.iR a.j6 ["_law_base","_law_many"] uq:=by
 refine T.xK.ok eK (fun vs H Q E h=>?_) (fun cdv A outer s H vs Q E hr h=>?_)
 ·obtain⟨b,n,rfl,_⟩:=h
  rfl
 ·obtain⟨b,n,rfl,hb,hn,k⟩:=h
  refine⟨_,(ah (av (i:=2) eK.nd rfl (Or.inl rfl) (bz (ae (bP ag) ag)))
  (ah (bq PassesOwn.never rfl (bM rfl T.cq (ae (pv 1) ag)) (az (i:=3) eK.nd rfl (Or.inl rfl))
   (ah (av (i:=4) eK.nd rfl (Or.inl rfl) (bz ag))
   (ah (bq PassesOwn.never rfl (cb (pv 2)) (az (i:=5) eK.nd rfl (Or.inr rfl))
    (au (bt (cf PySem.F.plainAttrs_list PySem.F.slot_list_extend PySem.F.type_list_extend kj (pv 4) (ae (cF (aI.mk' (esc:=aj dW) (N:=["_law_base","_law_many","_law_found","_law_turn","_law_more","_law_letter"]) (own:=["_law_figure"]) (aF:=["_law_letter"]) (bJ:=[5]) rfl rfl (by decide+kernel)) rfl (bM rfl T.cq (ae (pv 0) ag)) (fun _ _ _ _=>(az (i:=0) (show List.Nodup (["_law_figure","_law_letter"]:List Str) by decide+kernel) rfl (Or.inl rfl))) (fun _ _ _ _=>bU) (fun _ _ _ _=>(aG (vM K) (pv 1) (bP (ae (pv 0) ag))))) ag)))))
   (au (av (i:=2) eK.nd rfl (Or.inl rfl) (pv 4))))))
  (au (aR (pv 2))))),?_⟩
  refine⟨by decide,fun p hp=>⟨by show 1≤sizeLine;decide,fun D hD=>?_⟩⟩
  have pA:H D=none:=(Same.new hp).free hD
  refine⟨_,rfl,n,rfl,by omega,by omega,kh (lo:=0) (n:=(n:Int).toNat) (fun i σ H'=>∃(D:Addr) (ps:List Addr) (v3 v4 v5:Option V),σ=[some (.int b),some (.int n),some (.ref D),v3,v4,v5]∧H D=none∧Same H H'∧H' D=some (.lst (ps.map V.ref))∧bX H' ps (lets b i))
   ⟨D,[p],none,none,none,rfl,pA,(Same.new hp).trans (Same.new hD),af,.cons (by rw[ak (aq (o:=.tup []) af hD)];exact af) .nil⟩ ?_ ?_⟩
  ·rintro i σ H1 hi ⟨D,ps,v3,v4,v5,rfl,hD,s1,eD,t1⟩
   rw[Int.toNat_natCast] at hi
   have lps:ps.length=b ^ i:=by rw[Paired.length t1,dX]
   have bi:b ^ i≤256:=cp hb (by omega)
   have S8:b ^ (i+1)≤256:=cp hb (by omega)
   refine⟨by decide,fun E hE=>?_⟩
   have Cf:H E=none:=s1.free hE
   have wF:D≠E:=aq eD hE
   refine⟨_,rfl,D,rfl,⟨ps.map V.ref,.of (by rw[ak wF];exact eD)⟩,iq (xs:=ps.map V.ref) (fun j σ H'=>∃(qs:List Addr) (v5:Option V),σ=[some (.int b),some (.int n),some (.ref D),some (.int (0+(i:Int))),some (.ref E),v5]∧
     Same H H'∧H' D=some (.lst (ps.map V.ref))∧bX H' ps (lets b i)∧H' E=some (.lst (qs.map V.ref))∧bX H' qs (((lets b i).take j).flatMap fun l=>(List.range b).map fun(f:Nat)=>l++[(f:Int)]))
    ⟨[],v5,rfl,s1.trans (Same.new hE),by rw[ak wF];exact eD,t1.keep (Same.new hE).kt,af,.nil⟩ (fun j σ H' _ ⟨_,_,_,_,h,_⟩=>.of h) ?_ ?_⟩
   ·rintro j y σ H2 hj ⟨qs,v5,rfl,s2,wG,t2,oB,u2⟩
    rw[List.getElem?_map] at hj
    cases ep:ps[j]? with
    | none=>rw[ep] at hj;cases hj
    | some p=>
     rw[ep] at hj
     have ey:y=.ref p:=(Option.some.inj hj).symm
     subst ey
     obtain⟨l,el,hl⟩:=t2.get ep
     have S9:j<ps.length:=(List.getElem?_eq_some_iff.mp ep).1
     refine⟨_,rfl,.inl ⟨rfl,_,.of oB⟩,_,rfl,b,rfl,by omega,by omega,fun C hC=>?_⟩
     have Ta:E≠C:=aq oB hC
     have Tb:D≠C:=aq wG hC
     refine fR (fun f σ H'=>∃(rs:List Addr) (v:Option V),σ=[v,some (.ref p)]∧Same H2 H'∧H' C=some (.lst (rs.map V.ref))∧bX H' rs ((List.range f).map fun(f:Nat)=>l++[(f:Int)]))
      ⟨[],none,rfl,Same.new hC,af,.nil⟩ ?_ ?_
     ·rintro f σ H3 hf ⟨rs,v,rfl,s3,lR,t3⟩
      refine⟨_,rfl,_,rfl,by show 1≤sizeLine;decide,fun q hq=>?_⟩
      have lrs:rs.length=f:=by rw[Paired.length t3];simp
      have wH:C≠q:=aq lR hq
      have ll:l.length=i:=pY b i l (List.mem_of_getElem? el)
      have e0:(0:Int)+(f:Int)=(f:Int):=by omega
      have hq2:H2 q=none:=s3.free hq
      have Cg:(rs.map V.ref).length<sizeLine:=by rw[List.length_map,lrs];exact Nat.lt_of_lt_of_le (show f<10 by omega) (by decide)
      have s4:Same H2 (upd H3 q (.tup [.int (0+(f:Int))])):=s3.trans (Same.new hq)
      have t4:=t3.keep (Same.new (o:=.tup [.int (0+(f:Int))]) hq).kt
      refine⟨p,q,l.map V.int,[.int (0+(f:Int))],rfl,rfl,.of (s4 _ _ hl),.of af,by simp,?_,fun hl0=>?_,fun hl0 r hr=>?_⟩
      ·rw[List.length_map,ll];exact Nat.le_trans (show i+1≤10 by omega) (by decide)
      ·have hl1:l=[]:=by cases l with | nil=>rfl | cons _ _=>cases hl0
       subst hl1
       have j7:(upd H3 q (.tup [.int (0+(f:Int))])) C=some (.lst (rs.map V.ref)):=by rw[ak wH];exact lR
       refine⟨rs.map V.ref,j7,Cg,rs++[q],_,rfl,?_,by rw[af,List.map_append];rfl,?_⟩
       ·exact s4.kbn hC KB.write
       ·rw[List.range_succ,List.map_append]
        refine bu (t4.keep (a_.lst j7)) (.cons (a_.lst j7 _ _ ?_) .nil)
        rw[af]
        simp
      ·have JC:C≠r:=aq (by rw[ak wH];exact lR) hr
       have j7:(upd (upd H3 q (.tup [.int (0+(f:Int))])) r (.tup (l.map V.int++[.int (0+(f:Int))]))) C=some (.lst (rs.map V.ref)):=by rw[ak JC,ak wH];exact lR
       refine⟨rs.map V.ref,j7,Cg,rs++[r],_,rfl,?_,by rw[af,List.map_append];rfl,?_⟩
       ·exact(s4.trans (Same.new hr)).kbn hC KB.write
       ·rw[List.range_succ,List.map_append]
        refine bu ((t4.keep (Same.new hr).kt).keep (a_.lst j7)) (.cons (a_.lst j7 _ _ ?_) .nil)
        rw[af]
        simp
     ·rintro σ H3 ⟨rs,v,rfl,s3,lR,t3⟩
      have lrs:rs.length=b:=by rw[Paired.length t3];simp
      have Td:qs.length≤1024:=by
       rw[Paired.length u2,wD,List.length_take]
       have:=Nat.mul_le_mul (show min j (lets b i).length≤256 by rw[dX];omega) hb
       omega
      have Ci:=s3 _ _ oB
      refine⟨E,C,qs.map V.ref,rs.map V.ref,rfl,rfl,Ci,lR,?_,?_⟩
      ·rw[List.length_map,List.length_map,lrs];exact Nat.le_trans (show qs.length+b≤2000 by omega) (by decide)
      ·have kt:=a_.lst (o:=.lst (qs.map V.ref++rs.map V.ref)) Ci
       refine⟨qs++rs,_,rfl,(s2.trans s3).kbn Cf KB.write,?_,(t2.keep s3.kt).keep kt,?_,?_⟩
       ·rw[ak wF];exact s3 _ _ wG
       ·rw[af,List.map_append]
       ·have e1:(lets b i).take (j+1)=(lets b i).take j++[l]:=by rw[List.take_add_one,el];rfl
        rw[e1,List.flatMap_append]
        refine bu ((u2.keep s3.kt).keep kt) ?_
        rw[List.flatMap_singleton]
        have:=t3.keep kt
        rwa [show((b:Nat):Int).toNat=b from Int.toNat_natCast b] at this
   ·rintro σ H2 ⟨qs,v5,rfl,s2,wG,t2,oB,u2⟩
    refine⟨_,rfl,E,qs,_,_,_,rfl,Cf,s2,oB,?_⟩
    have e1:(lets b i).take (ps.map V.ref).length=lets b i:=by rw[List.length_map,Paired.length t2];exact List.take_length ..
    rw[e1] at u2
    exact u2
  ·rintro σ H1 ⟨D,ps,v3,v4,v5,rfl,hD,s1,eD,t1⟩
   exact⟨_,rfl,k D ps H1 hD s1 eD (by rwa [Int.toNat_natCast] at t1)⟩
def EC {α:Type} (R:fS α) (many:Nat) (on:α→Nat→α) (Ok:α→Prop) (Ev:Hp→Prop) (f1:Addr):Sp:=fun vs H Q _=>∃(x0:α) (v0:V) (most bd:Nat),vs=[v0,.int many,.ref f1,.int most]∧R.Rep x0 v0 H∧Ok x0∧Ev H∧(∀l:List α,l.Nodup→(∀x∈l,∃w,cN many w∧x=dD on x0 w)→l.length≤bd)∧bd≤most∧bd≤10000∧many≤1000∧
 ∀(xs:List α) (mv:List (List Nat)) (vs:List V) (p Rr va:Addr) (ps:List Addr) (H':Hp),Same H H'→H Rr=none→mv.length=xs.length→bZ x0 on many xs mv→H' p=some (.tup [.ref Rr,.ref va])→H' Rr=some (.lst vs)→eF R H' vs xs→H' va=some (.tup (ps.map V.ref))→bX H' ps (mv.map ai)→Q (.ref p) H'
theorem fg:aS ["_law_first","_law_many","_law_onward","_law_most","_law_came","_law_numbers","_law_moves","_law_found","_law_k","_law_room"] ["_law_first","_law_many","_law_onward","_law_most"] (aj gT):=⟨rfl,rfl,rfl,by decide+kernel,rfl,by decide+kernel,by decide+kernel⟩
set_option maxHeartbeats 16000000 in
theorem Aj {a:bW} (T:Txt K mg a) {α:Type} (R:fS α) {many:Nat} {on:α→Nat→α} {Ok:α→Prop} {Ev:Hp→Prop} {f1:Addr} {k:Nat}
  (F1:FnAt P w K mg base k f1 2 (wJ R many on Ok Ev)) (jr:∀x a,Ok x→a<many→Ok (on x a)) (wK:∀H H',Ev H→Same H H'→Ev H'):
  bf P w K mg base bT (k+1) a.kF a.mP ["_law_first","_law_many","_law_onward","_law_most"] (EC R many on Ok Ev f1):=by
 obtain⟨o1,Te,ps1,ho1,hf1,hl1,hb1,G1⟩:=F1
 refine T.B5.ok fg (fun vs H Q E h=>?_) (fun cdv Ar outer sh H vs Q E hr h=>?_)
 ·obtain⟨x0,v0,most,bd,rfl,_⟩:=h
  rfl
 ·obtain⟨x0,v0,most,bd,rfl,r0,k0,yH,hbd,hbm,hb1',M6,q⟩:=h
  refine⟨_,(ah (av (i:=4) fg.nd rfl (Or.inl rfl) (bz (ae (pv 0) ag)))
  (ah (av (i:=5) fg.nd rfl (Or.inl rfl) (R.DV (cY hr) (pv 0) ao))
  (ah (av (i:=6) fg.nd rfl (Or.inl rfl) (bz ag))
  (ah (ip PassesOwn.never (bo Fg (aA (aM K) (by rfl) T.bF bg (ae (pv 6) ag)) (aA (aM K) (by rfl) T.bF bg (ae (pv 4) ag)) (aU _))
   (ah (av (i:=7) fg.nd rfl (Or.inl rfl) (bz ag))
   (ah (bq PassesOwn.never rfl (bM rfl T.cq (ae (pv 1) ag)) (az (i:=8) fg.nd rfl (Or.inl rfl))
    (ah (av (i:=9) fg.nd rfl (Or.inl rfl) (pN (i:=2) G1 ho1 hf1 hr hb1 rfl (Or.inl rfl) (ae (aJ (bC K) (pv 4) (aA (aM K) (by rfl) T.bF bg (ae (pv 6) ag)) (fun _ _=>rfl)) (ae (pv 8) ag))))
    (ah (cX (AH (tQ (cY hr) (pv 9) (pv 5)) (by with_unfolding_all rfl))
     (ah (jE (cY hr) (pv 5) (pv 9) (aA (aM K) (by rfl) T.bF bg (ae (pv 4) ag)) rfl)
     (au (bt (cf PySem.F.plainAttrs_list PySem.F.slot_list_append PySem.F.type_list_append aZ (pv 4) (ae (pv 9) ag)))))
     bR)
    (au (bt (cf PySem.F.plainAttrs_list PySem.F.slot_list_append PySem.F.type_list_append aZ (pv 7) (ae (d9 (cY hr) (pv 5) (pv 9) (fun _ _=>rfl)) ag)))))))
   (ah (bt (cf PySem.F.plainAttrs_list PySem.F.slot_list_append PySem.F.type_list_append aZ (pv 6) (ae (aY (aX K) (by rfl) T.bS bB (ae (pv 7) ag)) ag)))
   (au (cX (bo qh (aA (aM K) (by rfl) T.bF bg (ae (pv 4) ag)) (pv 3) (aU _))
    (au (aR fk))
    bR))))))
  (au (aR (bP (ae (pv 4) (ae (aY (aX K) (by rfl) T.bS bB (ae (pv 6) ag)) ag))))))))),?_⟩
  have big:(100000:Nat)≤sizeLine:=by decide
  have vd:∀(w:List Nat) (x:α),Ok x→cN many w→Ok (dD on x w):=by
   intro w
   induction w with
   | nil=>intro x hx _;exact hx
   | cons c w ih=>intro x hx hw;exact ih _ (jr x c hx (hw c List.mem_cons_self)) fun z hz=>hw z (List.mem_cons_of_mem _ hz)
  refine ax fun Y hY=>?_
  refine⟨_,rfl,by show 1≤sizeLine;omega,fun Rr hR=>?_⟩
  have sR:=Same.new (o:=.lst [v0]) hR
  dsimp only[ay]
  subst hY
  refine ax fun Y hY=>?_
  refine⟨x0,v0,rfl,R.same r0 sR.kt,fun D H2 hD s2 num=>?_⟩
  have Cm:H2 Rr=some (.lst [v0]):=s2 _ _ af
  have pA:H D=none:=sR.free hD
  have DR:Rr≠D:=aq (show(upd H Rr (.lst [v0])) Rr=some (.lst [v0]) from af) hD
  dsimp only[ay]
  subst hY
  refine ax fun Y hY=>?_
  refine⟨by show 0≤sizeLine;omega,fun M hM=>?_⟩
  have sM:=Same.new (o:=.lst []) hM
  have oC:H M=none:=sR.free (s2.free hM)
  have MR:M≠Rr:=(aq Cm hM).symm
  obtain⟨oD,JD,_,_⟩:=R.isD num
  have MD:M≠D:=(aq JD hM).symm
  have Cn:=(sR.trans s2).trans sM
  dsimp only[ay]
  subst hY
  refine ax fun Y hY=>?_
  refine oZ (fun m σ H'=>∃(xs:List α) (mv:List (List Nat)) (vs:List V) (ps:List Addr) (v7 v8 v9:Option V),m=bd+1-mv.length∧σ=[some v0,some (.int (many:Nat)),some (.ref f1),some (.int (most:Nat)),some (.ref Rr),some (.ref D),some (.ref M),v7,v8,v9]∧Same H H'∧
    H' Rr=some (.lst vs)∧eF R H' vs xs∧R.Num H' D xs∧H' M=some (.lst (ps.map V.ref))∧bX H' ps (mv.map ai)∧bZ x0 on many xs mv∧mv.length≤xs.length)
   ⟨_,[x0],[],[v0],[],none,none,none,rfl,rfl,Cn,sM _ _ Cm,.cons (R.same r0 Cn.kt) .nil,R.keep num (ak MD.symm),af,.nil,bZ.begin,by simp⟩ ?_ ?_
  ·rintro m σ H4 N hN ⟨xs,mv,vs,ps,v7,v8,v9,rfl,rfl,s4,eR,rp,nm,eM,tp,g,hl⟩
   have lx:=hbd xs g.once g.reach
   have wL:vs.length=xs.length:=Paired.length rp
   have lps:ps.length=mv.length:=by rw[Paired.length tp,List.length_map]
   refine⟨_,rfl,_,ps.length,rfl,.inl ⟨_,.of eM,by rw[List.length_map]⟩,_,rfl,_,vs.length,rfl,.inl ⟨_,.of eR,rfl⟩,_,_,rfl,rfl,_,rfl,?_⟩
   by_cases hlt:mv.length<xs.length
   ·rw[show decide (((ps.length:Nat):Int)<((vs.length:Nat):Int))=true from decide_eq_true (by omega)]
    refine fA ?_
    refine ax fun Y2 dM=>?_
    obtain⟨x,ex⟩:∃x,xs[mv.length]? =some x:=⟨_,List.getElem?_eq_getElem hlt⟩
    have wM:=g.reach x (List.mem_of_getElem? ex)
    have okx:Ok x:=by obtain⟨w,hw,ew⟩:=wM;rw[ew];exact vd w x0 k0 hw
    refine⟨by show 0≤sizeLine;omega,fun L hL=>?_⟩
    have sL:=Same.new (o:=.lst []) hL
    have hL0:H L=none:=s4.free hL
    have LR:L≠Rr:=(aq eR hL).symm
    have LM:L≠M:=(aq eM hL).symm
    obtain⟨Ti,Ep,_,_⟩:=R.isD nm
    have LD:L≠D:=(aq Ep hL).symm
    dsimp only[ay]
    subst dM
    refine ax fun Y2 dM=>?_
    refine⟨_,rfl,_,rfl,by omega,by omega,dw (n:=(many:Int).toNat) (fun j σ H'=>∃(ys:List α) (us:List V) (leads:List Nat) (v8 v9:Option V),σ=[some v0,some (.int (many:Nat)),some (.ref f1),some (.int (most:Nat)),some (.ref Rr),some (.ref D),some (.ref M),some (.ref L),v8,v9]∧Same H H'∧a_ H4 H'∧
      H' Rr=some (.lst us)∧eF R H' us ys∧R.Num H' D ys∧H' M=some (.lst (ps.map V.ref))∧H' L=some (.lst ((ai leads).map V.int))∧leads.length=j∧gH x0 on many xs x leads ys)
     ⟨xs,vs,[],v8,v9,rfl,s4.trans sL,sL.kt,sL _ _ eR,rp.keep sL.kt,R.keep nm (ak LD.symm),sL _ _ eM,af,rfl,gH.start g⟩ ?_ ?_⟩
    ·rintro j σ H5 N2 pC hj ⟨ys,us,leads,v8,v9,rfl,s5,oE,lT,kO,oF,nz,wN,ll,gr⟩
     have ej:(0:Int)+(j:Int)=((j:Nat):Int):=by omega
     rw[ej]
     have JG:j<many:=by omega
     have ly:=hbd ys gr.once gr.reach
     have FD:us.length=ys.length:=Paired.length kO
     obtain⟨more,qR⟩:=gr.pre
     obtain⟨vx,JF,rx⟩:=kO.at (show ys[mv.length]? =some x by rw[qR];exact jF ex)
     dsimp only[ay]
     refine ax fun Y3 CS=>?_
     refine⟨rfl,_,rfl,_,rfl,_,ps.length,rfl,.inl ⟨_,.of nz,by rw[List.length_map]⟩,Rr,_,_,vx,rfl,rfl,.of lT,aB (by rw[lps];exact JF),_,rfl,x,vx,j,rfl,rx,okx,JG,wK _ _ yH s5,fun to H6 s6 oG=>?_⟩
     have nA:=s6 _ _ lT
     have lU:=s6 _ _ nz
     have Co:=s6 _ _ wN
     have oH:=kO.keep s6.kt
     obtain⟨JH,j9,JI,Cp⟩:=R.isD oF
     have qN:=R.keep oF ((s6 _ _ j9).trans j9.symm)
     have Er:=s6 _ _ j9
     have JJ:a_ H4 H6:=fun b l z=>s6 _ _ (oE _ _ z)
     have Cq:=s5.trans s6
     dsimp only[ay]
     subst CS
     refine gN (t:=mr _ _ _) (u:=zh _) (fun σ H'=>∃(zs:List α) (ws:List V) (t:Nat),σ=[some v0,some (.int (many:Nat)),some (.ref f1),some (.int (most:Nat)),some (.ref Rr),some (.ref D),some (.ref M),some (.ref L),some (.int (j:Nat)),some to]∧Same H H'∧a_ H6 H'∧
      H' Rr=some (.lst ws)∧eF R H' ws zs∧R.Num H' D zs∧H' M=some (.lst (ps.map V.ref))∧H' L=some (.lst ((ai leads).map V.int))∧zs[t]? =some (on x j)∧gH x0 on many xs x (leads++[t]) zs) ?JK (fun Y3 qO=>?_)
     case JK=>
      rintro σ H7 ⟨zs,ws,t,rfl,s7,qP,kP,JL,qQ,JM,wO,hz,Cr⟩
      refine⟨_,rfl,Or.inl ⟨rfl,_,.of wO⟩,_,rfl,_,rfl,D,_,rfl,R.there qQ (R.same oG qP) Cr.once hz,L,_,_,rfl,rfl,wO,by rw[List.length_map,aD];omega,?_⟩
      have kL:a_ H7 (upd H7 L (.lst ((ai leads).map V.int++[.int (t:Nat)]))):=jG wO (fun l z=>nomatch z)
      refine pC _ _ ⟨zs,ws,leads++[t],_,_,rfl,s7.kbn hL0 KB.write,fun b l z=>kL _ _ (qP _ _ (JJ _ _ z)),by rw[ak LR.symm];exact kP,JL.keep kL,R.keep qQ (ak LD.symm),by rw[ak LM.symm];exact JM,?_,by rw[List.length_append,ll];rfl,Cr⟩
      rw[af,bj,List.map_append];rfl
     by_cases hm:on x j∈ys
     ·obtain⟨i,hi⟩:=List.getElem?_of_mem hm
      refine⟨_,rfl,_,rfl,D,_,rfl,R.there qN oG gr.once hi,_,rfl,?_⟩
      refine cm ?_
      exact qO _ _ ⟨ys,us,i,rfl,Cq,fun _ _ z=>z,nA,oH,qN,lU,Co,hi,gr.old (by rw[ll];exact hi)⟩
     ·refine⟨_,rfl,_,rfl,D,_,rfl,R.miss qN oG hm,_,rfl,?_⟩
      refine fA ?_
      obtain⟨H7,Es,oI,qQ⟩:=R.put qN oG hm (by omega)
      have Cs:=gr.new (by omega) wM (by rw[ll];exact hm)
      rw[ll] at Cs
      have kP:=oI _ _ nA DR
      refine⟨_,rfl,_,us.length,rfl,.inl ⟨_,.of nA,rfl⟩,_,rfl,_,rfl,D,H7,rfl,by rw[FD];exact Es,?_⟩
      refine⟨_,rfl,Or.inl ⟨rfl,_,.of kP⟩,_,rfl,Rr,_,_,rfl,rfl,kP,by omega,?_⟩
      have qP:a_ H6 H7:=Ck Er Cp oI
      have kR:a_ H7 (upd H7 Rr (.lst (us++[to]))):=jG kP (fun l z=>nomatch z)
      have oJ:a_ H6 (upd H7 Rr (.lst (us++[to]))):=fun b l z=>kR _ _ (qP _ _ z)
      refine qO _ _ ⟨ys++[on x j],us++[to],ys.length,rfl,(Cq.kbn pA oI).kbn hR KB.write,oJ,af,?_,R.keep qQ (ak DR.symm),by rw[ak MR];exact oI _ _ lU MD,by rw[ak LR];exact oI _ _ Co LD,by rw[List.getElem?_append_right (Nat.le_refl _),Nat.sub_self];rfl,Cs⟩
      exact iT (oH.keep oJ) (R.same oG oJ)
    ·rintro σ H5 ⟨ys,us,leads,v8,v9,rfl,s5,oE,lT,kO,oF,nz,wN,ll,gr⟩
     subst dM
     dsimp only
     refine ax fun Y2 dM=>?_
     have JN:leads.length=many:=by rw[ll];omega
     have g2:=g.next ex gr JN
     have ly:=hbd ys gr.once gr.reach
     obtain⟨more,qR⟩:=gr.pre
     have Tj:xs.length≤ys.length:=by rw[qR,List.length_append];omega
     have FD:us.length=ys.length:=Paired.length kO
     refine⟨_,rfl,Or.inl ⟨rfl,_,.of nz⟩,_,rfl,L,_,rfl,.inl ⟨.of wN,fun t ht=>?_⟩⟩
     have sT:=Same.new (o:=.tup ((ai leads).map V.int)) ht
     have JO:M≠t:=aq nz ht
     have Tn:Rr≠t:=aq lT ht
     obtain⟨JH,j9,JI,Cp⟩:=R.isD oF
     have JP:D≠t:=aq j9 ht
     have lU:=sT _ _ nz
     refine⟨M,_,_,rfl,rfl,lU,by rw[List.length_map];omega,?_⟩
     have kM:a_ (upd H5 t (.tup ((ai leads).map V.int))) (upd (upd H5 t (.tup ((ai leads).map V.int))) M (.lst (ps.map V.ref++[.ref t]))):=jG lU (fun l z=>nomatch z)
     have kA:a_ H5 (upd (upd H5 t (.tup ((ai leads).map V.int))) M (.lst (ps.map V.ref++[.ref t]))):=fun b l z=>kM _ _ (sT.kt _ _ z)
     have kP:(upd (upd H5 t (.tup ((ai leads).map V.int))) M (.lst (ps.map V.ref++[.ref t]))) Rr=some (.lst us):=by rw[ak MR.symm];exact sT _ _ lT
     subst dM
     dsimp only
     refine⟨_,rfl,_,us.length,rfl,.inl ⟨_,.of kP,rfl⟩,_,rfl,_,_,rfl,rfl,_,rfl,?_⟩
     rw[show decide ((most:Int)<((us.length:Nat):Int))=false from decide_eq_false (by omega)]
     refine cm ?_
     refine hN _ _ _ ?_ ⟨ys,mv++[leads],us,ps++[t],_,_,_,rfl,rfl,(s5.trans sT).kbn oC KB.write,kP,kO.keep kA,R.keep oF (by rw[ak MD.symm,ak JP]),by rw[af,List.map_append];rfl,?_,g2,by rw[List.length_append];simp;omega⟩
     ·rw[List.length_append];simp;omega
     ·rw[List.map_append]
      exact iT ((tp.keep oE).keep kA) (by rw[ak JO.symm,af])
   ·have e:mv.length=xs.length:=by omega
    rw[show decide (((ps.length:Nat):Int)<((vs.length:Nat):Int))=false from decide_eq_false (by omega)]
    refine cm ?_
    subst hY
    dsimp only
    refine⟨_,rfl,_,rfl,M,_,rfl,.inl ⟨.of eM,fun Va JE=>⟨by show 2≤sizeLine;omega,fun p hp=>?_⟩⟩⟩
    have sV:=Same.new (o:=.tup (ps.map V.ref)) JE
    have sP:=Same.new (o:=.tup [.ref Rr,.ref Va]) hp
    have df:=sV.trans sP
    exact q xs mv vs p Rr Va ps _ (s4.trans df) hR e g af (df _ _ eR) (rp.keep df.kt) (sP _ _ af) (tp.keep df.kt)
  ·rintro σ H Q Q' h ⟨v,e1,v2,n1,e2,l1,v3,e3,v4,n2,e4,l2,i,j,e5,e6,k,e7,z⟩
   exact⟨v,e1,v2,n1,e2,l1,v3,e3,v4,n2,e4,l2,i,j,e5,e6,k,e7,h _ _ z⟩
end
end My
namespace My
open PySem L2
theorem HA (l:List Str):(l.map V.str).all fQ=true:=by rw[List.all_map];exact List.all_eq_true.mpr fun _ _=>rfl
open Classical in
noncomputable def mW (bs:List Bool) (mv:List (List Nat)) (cs:List Nat):List Bool:=(List.range bs.length).map fun r=>decide (jj bs mv cs r)
open Classical in
theorem yS {bs:List Bool} {mv:List (List Nat)} {cs:List Nat} {r:Nat} (h:r<bs.length):(mW bs mv cs).getD r false=true↔jj bs mv cs r:=by
 unfold mW
 rw[List.getD_eq_getElem?_getD,List.getElem?_map,List.getElem?_range h]
 exact decide_eq_true_iff
theorem CT {can bs:List Bool} {mv:List (List Nat)} {cs:List Nat} (lc:can.length=bs.length) (h:∀r,r<bs.length→(can.getD r false=true↔jj bs mv cs r)):can=mW bs mv cs:=by
 have l2:(mW bs mv cs).length=bs.length:=by unfold mW;rw[List.length_map,List.length_range]
 refine List.ext_getElem? fun r=>?_
 by_cases hr:r<bs.length
 ·rw[item_at false (show r<can.length by omega),item_at false (show r<(mW bs mv cs).length by omega)]
  congr 1
  rw[Bool.eq_iff_iff,h r hr,yS hr]
 ·rw[List.getElem?_eq_none (by omega),List.getElem?_eq_none (by omega)]
abbrev kd (b:Nat) (ss:List Str) (x:Str) (bs:List Bool) (mv:List (List Nat)):List Nat→Nat→List Nat:=yQ mv bs.length (bA b ss (oth ss x))
noncomputable abbrev jk (b:Nat) (ss:List Str) (x:Str) (bs:List Bool) (mv:List (List Nat)):List Nat→Bool:=Ex (mW bs mv ((bA b ss (oth ss x)).getD 0 []))
abbrev i' (b:Nat) (ss:List Str) (x:Str) (bs:List Bool) (mv:List (List Nat)) (xs:List (List Nat)):Prop:=∀S∈xs,∃w,cN (b ^ (oth ss x).length) w∧S=dD (kd b ss x bs mv) [0] w
def HB (a:bW):Sp:=fun vs H Q _=>∃(b most:Nat) (m:Addr) (ss:List Str) (x:Str) (bs:List Bool) (mv:List (List Nat)),vs=[.int b,.ref m,.str x,.int most]∧2≤b∧b≤4∧Mc b H m ss bs mv∧ss.length≤4∧bs.length≤62∧most≤10000∧TB a H∧
 ((x ∉ ss∧Q (.ref m) H)∨(x∈ss∧(∀(xs:List (List Nat)) (H':Hp),KX a H H'→TB a H'→xs.Nodup→i' b ss x bs mv xs→most<xs.length→Q .non H')∧
  ∀(p nm:Addr) (xs:List (List Nat)) (mv':List (List Nat)) (H':Hp),KX a H H'→TB a H'→fK H' p nm (xs.map (jk b ss x bs mv)) mv'→H' nm=some (.tup ((oth ss x).map V.str))→mv'.length=xs.length→xs.length≤most→bZ [0] (kd b ss x bs mv) (b ^ (oth ss x).length) xs mv'→Q (.ref p) H'))
def HC (a:bW):Sp:=fun vs H Q _=>∃(b most:Nat) (m:Addr) (ss:List Str) (x:Str) (bs:List Bool) (mv:List (List Nat)),vs=[.int b,.ref m,.str x,.int most]∧2≤b∧b≤4∧Mc b H m ss bs mv∧ss.length≤4∧bs.length≤62∧most≤10000∧TB a H∧
 (∀(xs:List (List Nat)) (H':Hp),KX a H H'→TB a H'→xs.Nodup→i' b ss x bs mv xs→most<xs.length→Q .non H')∧
  ∀(Rr:Addr) (xs:List (List Nat)) (mv':List (List Nat)) (vs:List V) (H':Hp),KX a H H'→TB a H'→(∀o,H Rr=some o→∃qs,o=.dZ qs)→H' Rr=some (.lst vs)→eF j0 H' vs xs→mv'.length=xs.length→xs.length≤most→bZ [0] (kd b ss x bs mv) (b ^ (oth ss x).length) xs mv'→Q (.ref Rr) H'
section
variable {P:Program} {w:World} {K:PySem.W.Frag} {mg:Str→Option Value} {base:Heap}
theorem Ak:aS ["base","machine","name","most"] ["base","machine","name","most"] (aj cI):=⟨rfl,rfl,rfl,by decide+kernel,rfl,by decide+kernel,by decide+kernel⟩
theorem q_ {a:bW} (T:Txt K mg a) (hB:dY mg base):bf P w K mg base bT 5 a.kB a.jy ["base","machine","name","most"] (HB a):=by
 have ft:=iH (P:=P) (w:=w) (base:=base) T
 have jm:=lZ (P:=P) (w:=w) (base:=base) T hB
 have w6:=uS (P:=P) (w:=w) (base:=base) T 2
 refine T.BR.ok Ak (fun vs H Q E h=>?_) (fun Ar outer s H vs Q E hr h=>?_)
 ·obtain⟨b,most,m,ss,x,bs,mv,rfl,_⟩:=h
  rfl
 ·obtain⟨b,most,m,ss,x,bs,mv,rfl,hb2,hb4,⟨nm,⟨y,v,ps,a1,a2,a3,a4⟩,en,mo,p0⟩,hs,hn,Al,tb,q⟩:=h
  have eI:aP 1 _:=hr.mono (by decide)
  have iL:aP 4 _:=hr
  have uV:aP 4 _:=hr
  refine⟨_,(ah (cX (bo (tT K) (pv 2) (aJ (aO K) (pv 1) ao (fun _ _=>rfl)) (by with_unfolding_all rfl))
   (au (aR (pv 1)))
   bR)
  (au (aR (aC w6 uV rfl T.wm T.wq T.wt .nil aN (ae (pv 0) (ae (aC ft eI rfl T.jf T.jg T.jh .nil aN (ae (pv 1) (ae (pv 2) ag))) (ae (aC jm iL rfl T.nj T.nq T.nu .nil aN (ae (pv 0) (ae (pv 1) (ae (pv 2) ag)))) (ae (pv 3) ag)))))))),?_⟩
  have hb0:0<b:=by omega
  refine⟨_,rfl,_,rfl,m,_,_,.ref nm,rfl,rfl,.of a1,aB (j:=0) rfl,nm,_,rfl,.inr (.of en),rfl,HA _,?_⟩
  rw[pL]
  refine⟨_,rfl,?_⟩
  rcases q with⟨hx,q⟩ | ⟨hx,q0,q⟩
  ·rw[decide_eq_false hx]
   refine dk (fun _=>?_) (fun z=>absurd rfl z)
   exact⟨_,rfl,q⟩
  rw[decide_eq_true hx]
  refine dk (fun z=>absurd z (by decide)) (fun _=>?_)
  refine⟨_,rfl,_,rfl,_,rfl,m,nm,y,v,ss,x,rfl,a1,en,hs,fun N H1 s1 eN=>?_⟩
  refine⟨_,rfl,_,rfl,_,rfl,b,m,nm,y,v,ps,ss,x,bs,mv,rfl,hb0,hb4,hs,⟨s1 _ _ a1,s1 _ _ a2,s1 _ _ a3,a4.keep s1.kt,mo⟩,s1 _ _ en,by omega,tb.same s1,fun g z0 f1 f2 ov cn as can D H2 k2 tb2 hD ev2 lc hcan ez eg F1 F2=>?_⟩
  have ho:=lW ss x
  have ec:=CT lc hcan
  refine⟨_,rfl,b,most,N,g,oth ss x,List Nat,j0,kd b ss x bs mv,Ex can,gm bs.length,i9 m nm y v ps bs mv (b ^ ss.length) ov as (bA b ss (oth ss x)) cn can,[0],.ref z0,f1,f2,D,rfl,hb4,by omega,k2.kt _ _ eN,eg,hD,F1,F2,fun S c _ _=>jH _ _ _ _,fun H H' e s=>e.same s,fun D H hD e=>e.cL hD,⟨z0,rfl,ez⟩,eU p0,ev2,Al,fun xs H3 s3 nd rc lt=>?_,fun xs mv' p H3 s3 hlen hle gr gX=>?_⟩
  ·exact q0 xs H3 ((KX.same s1).trans (k2.trans (KX.same s3))) (tb2.same s3) nd rc lt
  ·rw[ec] at gX
   exact q p N xs mv' H3 ((KX.same s1).trans (k2.trans (KX.same s3))) (tb2.same s3) gX (s3 _ _ (k2.kt _ _ eN)) hlen hle gr
theorem jA:aS ["base","machine","name","most","many","growth","grown"] ["base","machine","name","most"] (aj cH):=⟨rfl,rfl,rfl,by decide+kernel,rfl,by decide+kernel,by decide+kernel⟩
theorem ra {a:bW} (T:Txt K mg a) (hB:dY mg base):bf P w K mg base bT 5 a.kz a.jx ["base","machine","name","most"] (HC a):=by
 have dv:=fY (P:=P) (w:=w) (base:=base) T
 have ft:=iH (P:=P) (w:=w) (base:=base) T
 have jm:=lZ (P:=P) (w:=w) (base:=base) T hB
 refine T.BQ.ok jA (fun vs H Q E h=>?_) (fun Ar outer s H vs Q E hr h=>?_)
 ·obtain⟨b,most,m,ss,x,bs,mv,rfl,_⟩:=h
  rfl
 ·obtain⟨b,most,m,ss,x,bs,mv,rfl,hb2,hb4,⟨nm,⟨y,v,ps,a1,a2,a3,a4⟩,en,mo,p0⟩,hs,hn,Al,tb,q0,q⟩:=h
  have cV:aP 1 _:=hr.mono (by decide)
  have eI:aP 1 _:=hr.mono (by decide)
  have iL:aP 4 _:=hr
  have uW:aP 3 _:=hr.mono (by decide)
  refine⟨_,(ah (av (i:=4) jA.nd rfl (Or.inl rfl) (aA (aM K) (by rfl) T.bF bg (ae (aC dv cV rfl T.gx T.gy T.gA .nil aN (ae (pv 0) (ae (aA (aM K) (by rfl) T.bF bg (ae (aC ft eI rfl T.jf T.jg T.jh .nil aN (ae (pv 1) (ae (pv 2) ag))) ag)) ag))) ag)))
  (ah (av (i:=5) jA.nd rfl (Or.inl rfl) (aC jm iL rfl T.nj T.nq T.nu .nil aN (ae (pv 0) (ae (pv 1) (ae (pv 2) ag)))))
  (ah (av (i:=6) jA.nd rfl (Or.inl rfl) (pP (fun _=>rfl) uW rfl T.oy T.oz T.oA (ae (aJ (aO K) (pv 5) ao (fun _ _=>rfl)) (ae (pv 4) (ae (aJ (aO K) (pv 5) ao (fun _ _=>rfl)) (ae (aJ (aO K) (pv 5) ao (fun _ _=>rfl)) (ae (pv 3) ag)))))))
  (ah (cX (bo nQ (pv 6) fk (aU _))
   (au (aR fk))
   bR)
  (au (aR (aJ (aO K) (pv 6) ao (fun _ _=>rfl)))))))),?_⟩
  have hb0:0<b:=by omega
  have ho:=lW ss x
  refine ax fun Y hY=>?_
  refine⟨_,rfl,_,rfl,_,rfl,m,nm,y,v,ss,x,rfl,a1,en,hs,fun N H1 s1 eN=>?_⟩
  refine⟨_,(oth ss x).length,rfl,.inr ⟨_,.of eN,by rw[List.length_map]⟩,b,(oth ss x).length,rfl,hb4,by omega,fun D0 FE H2 pA s2 e2 t2=>?_⟩
  refine⟨_,b ^ (oth ss x).length,rfl,.inl ⟨_,.of e2,by rw[List.length_map,Paired.length t2,dX]⟩,?_⟩
  have s12:=s1.trans s2
  dsimp only[ay]
  subst hY
  refine ax fun Y hY=>?_
  refine⟨_,rfl,_,rfl,_,rfl,b,m,nm,y,v,ps,ss,x,bs,mv,rfl,hb0,hb4,hs,⟨s12 _ _ a1,s12 _ _ a2,s12 _ _ a3,a4.keep s12.kt,mo⟩,s12 _ _ en,by omega,tb.same s12,fun g z0 f1 f2 ov cn as can D H3 k3 j' hD yI lc hcan ez eg F1 F2=>?_⟩
  have ec:=CT lc hcan
  have ED:=(KX.same s12).trans k3
  have N5:b ^ (oth ss x).length≤256:=cp hb4 (by omega)
  dsimp only[ay]
  subst hY
  refine ax fun Y hY=>?_
  refine⟨_,rfl,g,_,_,.ref z0,rfl,rfl,.of eg,aB (j:=0) rfl,_,rfl,_,rfl,g,_,_,.ref f1,rfl,rfl,.of eg,aB (j:=1) rfl,_,rfl,g,_,_,.ref f2,rfl,rfl,.of eg,aB (j:=2) rfl,_,rfl,?_⟩
  refine⟨D,hD,fun base' W=>?_⟩
  have JS:=F1 base' W.b
  have JT:=F2 base' W.b
  refine⟨_,ny (k:=2) T j0 JS JT (fun S c _ _=>jH _ _ _ _) (fun H H' e s=>e.same s),?_⟩
  have ktu:a_ H3 (cL D H3):=fun b xs z=>gF hD z (fun _ y=>nomatch y)
  refine⟨[0],.ref z0,most,rfl,⟨z0,rfl,ktu _ _ ez⟩,eU p0,yI.cL hD,Al,by omega,fun xs H4 s4 nd rc lt n4=>?_,fun xs mv' vs p Rr ya va ps' H4 s4 wQ hl JU gr ep eR rp ey ev tp n4=>?_⟩
  ·have s5:=iZ s4
   generalize fB D H3 H4=H5 at s5 ⊢
   dsimp only[ay]
   subst hY
   refine⟨_,rfl,rfl,_,rfl,?_⟩
   exact dk (fun _=>q0 xs H5 (ED.trans (KX.same s5)) (j'.same s5) nd rc lt) (fun z=>absurd rfl z)
  have s5:=iZ s4
  have o4:∀{b:Addr} {o:HO},H4 b=some o→fB D H3 H4 b=some o:=fun {b o} e=>by
   rw[dC fun z=>?_]
   ·exact e
   ·rw[n4 b z] at e;cases e
  have N6:=o4 ep
  have lT:=o4 eR
  have kO:=rp.keep (show a_ H4 (fB D H3 H4) from fun b xs z=>o4 z)
  have nR:Rr ∉ D:=fun z=>by rw[n4 Rr z] at eR;cases eR
  have N7:H3 Rr=none:=by
   rw[eZ nR] at wQ;exact wQ
  generalize fB D H3 H4=H5 at s5 N6 lT kO ⊢
  dsimp only[ay]
  subst hY
  refine⟨_,rfl,rfl,_,rfl,?_⟩
  refine dk (fun z=>absurd z (by simp)) (fun _=>?_)
  refine⟨_,rfl,p,_,_,.ref Rr,rfl,rfl,.of N6,aB (j:=0) rfl,?_⟩
  refine q Rr xs mv' vs H5 (ED.trans (KX.same s5)) (j'.same s5) ?_ lT kO hl JU gr
  intro o e
  by_cases z:∃qs,o=.dZ qs
  ·exact z
  ·have:=ED _ _ e fun qs y=>z ⟨qs,y⟩
   rw[this] at N7;cases N7
end
end My
namespace My
open PySem L2
section
variable {X:Cx}
def Na (K:PySem.W.Frag):R2:=fun x y H Q=>∃(a b:Addr) (xs ys:List V),x=.ref a∧y=.ref b∧H a=some (.tup xs)∧H b=some (.tup ys)∧xs.length+ys.length≤sizeLine∧∀u H',Same H H'→H' u=some (.tup (xs++ys))→Q (.ref u) H'
theorem sx (K:PySem.W.Frag) (hK:X.K=K:=by rfl):cG X (binaryOp .Add) (Na K):=by
 subst hK
 intro pins s σ H x y v u Q I rx ry h
 obtain⟨a,b,xs,ys,rfl,rfl,ha,hb,hz,q⟩:=h
 by_cases hx:xs=[]
 ·subst hx
  exact yl pins s σ H _ _ v u Q I rx ry ⟨a,b,ys,rfl,rfl,.of ha,.of hb,q b H (.refl _) hb⟩
 ·exact yh pins s σ H _ _ v u Q I rx ry ⟨a,b,xs,ys,rfl,rfl,.of ha,.of hb,hx,hz,fun z=>q a H (.refl _) (by rw[z,List.append_nil];exact ha),fun _ p hp=>q p _ (Same.new hp) af⟩
end
theorem w8 {b:Nat} {ss os:List Str} {l:Nat} (hl:l<b ^ os.length) {c:Nat}:c∈(bA b ss os).getD l []↔c<b ^ ss.length∧own b ss os c=l:=by
 unfold bA
 rw[List.getD_eq_getElem?_getD,lV hl]
 show c∈List.filter _ _↔_
 rw[List.mem_filter,List.mem_range,beq_iff_eq]
theorem p_ {b:Nat}:∀(ds:List Nat),(∀d∈ds,d=0)→lst b 0 ds=0
 | [],_=>rfl
 | d::ds,h=>by
  rw[j8,h d List.mem_cons_self,Nat.zero_mul,Nat.zero_add]
  exact p_ ds fun x hx=>h x (List.mem_cons_of_mem _ hx)
theorem rb {b:Nat} (hb:0<b):∀(n L:Nat),L<b ^ n→lst b 0 (fl b n L)=L
 | 0,L,h=>by
  have:L=0:=by simpa using h
  subst this;rfl
 | n+1,L,h=>by
  rw[fl,r9,rb hb n (L / b) (by rw[Nat.div_lt_iff_lt_mul hb,←Nat.pow_succ];exact h)]
  exact Nat.div_add_mod' L b
def ins (k:Nat) (f:Nat) (ds:List Nat):List Nat:=ds.take k++f::ds.drop k
def del {α:Type} (k:Nat) (l:List α):List α:=l.take k++l.drop (k+1)
theorem iM (k f:Nat) (ds:List Nat):(ins k f ds).length=ds.length+1:=by
 unfold ins
 rw[List.length_append,List.length_cons,List.length_take,List.length_drop];omega
theorem iN {k f:Nat} {ds:List Nat} {x:Nat}:x∈ins k f ds↔x=f∨x∈ds:=by
 unfold ins
 rw[List.mem_append,List.mem_cons]
 constructor
 ·rintro(h | h | h)
  ·exact .inr (List.mem_of_mem_take h)
  ·exact .inl h
  ·exact .inr (List.mem_of_mem_drop h)
 ·rintro(h | h)
  ·exact .inr (.inl h)
  ·rw[←List.take_append_drop k ds] at h
   rcases List.mem_append.mp h with z | z
   ·exact .inl z
   ·exact .inr (.inr z)
theorem HD {k f:Nat} {ds:List Nat} (h:k≤ds.length):del k (ins k f ds)=ds:=by
 unfold del ins
 have h1:(ds.take k).length=k:=by rw[List.length_take];omega
 have h2:(ds.take k++f::ds.drop k).take k=ds.take k:=by
  rw[List.take_append_of_le_length (by omega),List.take_of_length_le (by omega)]
 have h3:(ds.take k++f::ds.drop k).drop (k+1)=ds.drop k:=by
  rw[List.drop_append,List.drop_of_length_le (by omega),List.nil_append,h1,show k+1-k=1 by omega];rfl
 rw[h2,h3,List.take_append_drop]
theorem HE {k:Nat} {l:List Nat} (h:k<l.length):ins k (l.getD k 0) (del k l)=l:=by
 unfold del ins
 have h1:(l.take k).length=k:=by rw[List.length_take];omega
 have h2:(l.take k++l.drop (k+1)).take k=l.take k:=by
  rw[List.take_append_of_le_length (by omega),List.take_of_length_le (by omega)]
 have h3:(l.take k++l.drop (k+1)).drop k=l.drop (k+1):=by
  rw[List.drop_append,List.drop_of_length_le (by omega),List.nil_append,h1,Nat.sub_self];rfl
 rw[h2,h3]
 have h4:l.getD k 0::l.drop (k+1)=l.drop k:=by
  rw[List.drop_eq_getElem_cons h,List.getD_eq_getElem?_getD,List.getElem?_eq_getElem h];rfl
 rw[h4,List.take_append_drop]
theorem o7 {α:Type} {k:Nat} {l:List α} (h:k<l.length):(del k l).length+1=l.length:=by
 unfold del
 rw[List.length_append,List.length_take,List.length_drop];omega
theorem yT {α β:Type} (g:α→β) (k:Nat) (l:List α):(del k l).map g=del k (l.map g):=by
 unfold del
 rw[List.map_append,List.map_take,List.map_drop]
theorem HF {α:Type} {k:Nat} {l:List α} {x:α} (h:x∈del k l):x∈l:=by
 rcases List.mem_append.mp h with z | z
 ·exact List.mem_of_mem_take z
 ·exact List.mem_of_mem_drop z
theorem o8 {ss:List Str} {k:Nat} {x:Str} (nd:ss.Nodup) (hx:ss[k]? =some x):oth ss x=del k ss:=by
 obtain⟨hk,e⟩:=List.getElem?_eq_some_iff.mp hx
 have sp:ss=ss.take k++x::ss.drop (k+1):=by
  conv=>lhs;rw[←List.take_append_drop k ss,List.drop_eq_getElem_cons hk,e]
 have t8:=nd
 rw[sp,List.nodup_append] at t8
 obtain⟨_,n2,n3⟩:=t8
 rw[List.nodup_cons] at n2
 have keep:∀l:List Str,x ∉ l→oth l x=l:=fun l hl=>by
  unfold oth
  rw[List.filter_eq_self]
  intro s hs
  rw[Bool.not_eq_true',decide_eq_false_iff_not]
  intro z
  injection z with z
  exact hl (z▸hs)
 have app:∀l m:List Str,oth (l++m) x=oth l x++oth m x:=fun l m=>by unfold oth;rw[List.filter_append]
 have cons:∀l:List Str,oth (x::l) x=oth l x:=fun l=>by
  unfold oth
  rw[List.filter_cons,if_neg (by simp)]
 conv=>lhs;rw[sp]
 rw[app,cons,keep _ (fun h=>n3 x h x List.mem_cons_self rfl),keep _ n2.1]
 rfl
theorem EE {ss:List Str} (nd:ss.Nodup):ss.map (idx ss)=List.range ss.length:=by
 refine List.ext_getElem? fun i=>?_
 rw[List.getElem?_map]
 by_cases hi:i<ss.length
 ·rw[List.getElem?_eq_getElem hi,List.getElem?_range hi]
  obtain⟨e,hl,_⟩:=qS (ss:=ss) (t:=ss[i]) (List.getElem_mem hi)
  obtain⟨_,e3⟩:=List.getElem?_eq_some_iff.mp e
  exact congrArg some ((List.getElem_inj nd).mp e3)
 ·rw[List.getElem?_eq_none (by omega),List.getElem?_eq_none (by rw[List.length_range];omega)];rfl
theorem yU {b:Nat} {ss:List Str} {k c:Nat} {x:Str} (nd:ss.Nodup) (hx:ss[k]? =some x) (hc:c<b ^ ss.length):own b ss (oth ss x) c=lst b 0 (del k (fl b ss.length c)):=by
 unfold own
 rw[yJ b ss _ hc,o8 nd hx,yT,EE nd]
 unfold pk
 congr 1
 rw[yT]
 congr 1
 refine List.ext_getElem? fun i=>?_
 rw[List.getElem?_map]
 by_cases hi:i<ss.length
 ·rw[List.getElem?_range hi,item_at 0 (by rw[fq];exact hi)];rfl
 ·rw[List.getElem?_eq_none (by rw[List.length_range];omega),List.getElem?_eq_none (by rw[fq];omega)];rfl
theorem mh {b:Nat} {ds:List Nat} (h:∀d∈ds,d<b):fl b ds.length (lst b 0 ds)=ds:=by
 have:=Cj ds 0 0 h
 rw[Nat.zero_add] at this
 rw[this];rfl
theorem mj {b:Nat} {ds:List Nat} (h:∀d∈ds,d<b):lst b 0 ds<b ^ ds.length:=by
 have:=wI ds 0 0 h (by rw[Nat.pow_zero];exact Nat.one_pos)
 rwa [Nat.zero_add] at this
theorem o9 {b:Nat} {ss:List Str} {k f:Nat} {x:Str} {ds:List Nat} (nd:ss.Nodup) (hx:ss[k]? =some x) (hl:ds.length+1=ss.length) (hf:f<b) (hd:∀d∈ds,d<b):own b ss (oth ss x) (lst b 0 (ins k f ds))=lst b 0 ds:=by
 have hk:=(List.getElem?_eq_some_iff.mp hx).1
 have hi:∀d∈ins k f ds,d<b:=fun d h=>(iN.mp h).elim (fun e=>e▸hf) (hd d)
 have e:=mh hi
 have lt:=mj hi
 rw[iM,hl] at e lt
 rw[yU nd hx lt,e,HD (by omega)]
theorem xa {b:Nat} (hb:0<b) {ss:List Str} {k c:Nat} {x:Str} {ds:List Nat} (nd:ss.Nodup) (hx:ss[k]? =some x) (hl:ds.length+1=ss.length) (hd:∀d∈ds,d<b) (hc:c<b ^ ss.length) (e:own b ss (oth ss x) c=lst b 0 ds):∃f,f<b∧c=lst b 0 (ins k f ds):=by
 have hk:=(List.getElem?_eq_some_iff.mp hx).1
 rw[yU nd hx hc] at e
 have ld:(del k (fl b ss.length c)).length+1=ss.length:=by
  have:=o7 (k:=k) (l:=fl b ss.length c) (by rw[fq];exact hk)
  rwa [fq] at this
 have h1:=mh (b:=b) (ds:=del k (fl b ss.length c)) fun d h=>mS hb _ _ d (HF h)
 have h2:=mh hd
 rw[show(del k (fl b ss.length c)).length=ds.length by omega,e,h2] at h1
 refine⟨(fl b ss.length c).getD k 0,?_,?_⟩
 ·exact mS hb ss.length c _ (List.mem_of_getElem? (item_at 0 (by rw[fq];exact hk)))
 ·rw[h1,HE (by rw[fq];exact hk),rb hb _ _ hc]
def cR (b n k l:Nat):List Nat:=(List.range b).map fun f=>lst b 0 (ins k f (fl b n l))
def jI (b n k:Nat):List (List Nat):=(List.range (b ^ n)).map (cR b n k)
theorem Am (b n k:Nat):(jI b n k).length=b ^ n:=by unfold jI;rw[List.length_map,List.length_range]
theorem CU {b n k l:Nat} (h:l<b ^ n):(jI b n k)[l]? =some (cR b n k l):=by unfold jI;rw[List.getElem?_map,List.getElem?_range h];rfl
theorem yV {ss:List Str} {k:Nat} {x:Str} (nd:ss.Nodup) (hx:ss[k]? =some x):(oth ss x).length=ss.length-1:=by
 have:=o7 (l:=ss) (List.getElem?_eq_some_iff.mp hx).1
 rw[o8 nd hx];omega
theorem xb {b n k l c:Nat} (hb:0<b) (h:c∈cR b n k l):c<b ^ (n+1):=by
 unfold cR at h
 obtain⟨f,hf,rfl⟩:=List.mem_map.mp h
 have hf':=List.mem_range.mp hf
 have:=mj (b:=b) (ds:=ins k f (fl b n l)) fun d hd=>(iN.mp hd).elim (fun z=>z▸hf') fun z=>mS hb _ _ d z
 rwa [iM,fq] at this
theorem oP {b:Nat} (hb:2≤b) {ss:List Str} {k:Nat} {x:Str} (nd:ss.Nodup) (hx:ss[k]? =some x) {l c:Nat} (hl:l<b ^ (ss.length-1)):c∈cR b (ss.length-1) k l↔c∈(bA b ss (oth ss x)).getD l []:=by
 have hk:=(List.getElem?_eq_some_iff.mp hx).1
 have hb0:0<b:=by omega
 rw[w8 (by rw[yV nd hx];exact hl)]
 have hd:∀d∈fl b (ss.length-1) l,d<b:=fun d z=>mS hb0 _ _ d z
 have hlen:(fl b (ss.length-1) l).length+1=ss.length:=by rw[fq];omega
 have ll:lst b 0 (fl b (ss.length-1) l)=l:=rb hb0 _ _ hl
 constructor
 ·intro h
  refine⟨by have:=xb hb0 h;rwa [show ss.length-1+1=ss.length by omega] at this,?_⟩
  unfold cR at h
  obtain⟨f,hf,rfl⟩:=List.mem_map.mp h
  rw[o9 nd hx hlen (List.mem_range.mp hf) hd,ll]
 ·rintro⟨h1,h2⟩
  obtain⟨f,hf,rfl⟩:=xa hb0 nd hx hlen hd h1 (h2.trans ll.symm)
  exact List.mem_map.mpr ⟨f,List.mem_range.mpr hf,rfl⟩
theorem yW (xs:List V) {n:Nat} (h:n≤xs.length):gi xs none (some (n:Int))=xs.take n:=by
 unfold gi
 rw[show HT.aV xs.length xs.length (some (n:Int))=min n xs.length from HT.rq xs.length xs.length n,Nat.min_eq_left h]
 show(xs.drop 0).take (n-0)=_
 rw[List.drop_zero,Nat.sub_zero]
theorem uy (xs:List V) {n:Nat} (h:n≤xs.length):gi xs (some (n:Int)) none=xs.drop n:=by
 unfold gi
 rw[show HT.aV xs.length 0 (some (n:Int))=min n xs.length from HT.rq xs.length 0 n,Nat.min_eq_left h]
 exact List.take_of_length_le (by rw[List.length_drop];exact Nat.le_refl _)
theorem CV (k N:Nat) (ns:List Nat):(ai (ins k N ns)).map V.int=(((ai ns).map V.int).take k++[.int (N:Int)])++((ai ns).map V.int).drop k:=by
 unfold ins ai
 simp[List.map_take,List.map_drop]
theorem pb {σ:St} {H:Hp} {Q:Option Int→Hp→Prop} (h:Q none H):yf σ H Q:=h
theorem rd {K:PySem.W.Frag} {H:Hp} {a:Addr} {xs:List V} {lo hi:Option Int} {Q:VK} (ea:H a=some (.tup xs)) (h:∀u H',Same H H'→H' u=some (.tup (gi xs lo hi))→Q (.ref u) H'):Fu K (.ref a) lo hi H Q:=by
 refine⟨a,xs,rfl,.of ea,fun c=>h a H (Same.refl _) ?_,fun _ p hp=>h p _ (Same.new hp) af⟩
 unfold gi
 rw[c.1,c.2,List.drop_zero,Nat.sub_zero,List.take_length]
 exact ea
def EF:Sp:=fun vs H Q _=>∃(b k:Nat) (nm:Addr) (ss:List Str) (x:Str),vs=[.int b,.ref nm,.str x]∧2≤b∧b≤4∧H nm=some (.tup (ss.map V.str))∧ss.Nodup∧ss[k]? =some x∧ss.length≤4∧
 ∀(W:Addr) (as:List Addr) (H':Hp),Same H H'→H' W=some (.lst (as.map V.ref))→bD H' as (jI b (ss.length-1) k)→Q (.ref W) H'
section
variable {P:Program} {w:World} {K:PySem.W.Frag} {mg:Str→Option Value} {base:Heap}
theorem da:aS ["_law_base","_law_names_here","_law_name","_law_at","_law_found","_law_letter","_law_numbers","_law_figure","_law_number","_law_one"] ["_law_base","_law_names_here","_law_name"] (aj fU):=⟨rfl,rfl,rfl,by decide+kernel,rfl,by decide+kernel,by decide+kernel⟩
set_option maxHeartbeats 16000000 in
theorem xS {a:bW} (T:Txt K mg a):bf P w K mg base bT 2 a.jz a.lh ["_law_base","_law_names_here","_law_name"] EF:=by
 have xT:=w4 (P:=P) (w:=w) (base:=base) T
 refine T.zV.ok da (fun vs H Q E h=>?_) (fun cdv A outer s H vs Q E hr h=>?_)
 ·obtain⟨b,k,nm,ss,x,rfl,_⟩:=h
  rfl
 ·obtain⟨b,k,nm,ss,x,rfl,hb2,hb4,en,nd,hx,ur,q⟩:=h
  have xc:aP 1 _:=hr
  refine⟨_,(ah (av (i:=3) da.nd rfl (Or.inl rfl) (Bx PySem.F.plainAttrs_tuple PySem.F.slot_tuple_index PySem.F.type_tuple_index (ua K) (pv 1) (ae (pv 2) ag)))
  (ah (av (i:=4) da.nd rfl (Or.inl rfl) (bz ag))
  (ah (bq PassesOwn.never rfl (cb (aC xT xc rfl T.xM T.xN T.xO .nil aN (ae (pv 0) (ae (aG iY (aA (aM K) (by rfl) T.bF bg (ae (pv 1) ag)) ao) ag)))) (az (i:=5) da.nd rfl (Or.inl rfl))
   (ah (av (i:=6) da.nd rfl (Or.inl rfl) (bz ag))
   (ah (bq PassesOwn.never rfl (bM rfl T.cq (ae (pv 0) ag)) (az (i:=7) da.nd rfl (Or.inl rfl))
    (ah (av (i:=8) da.nd rfl (Or.inl rfl) ao)
    (ah (bq PassesOwn.never rfl (fF (aG (sx K) (aG (sx K) (gD (oW K) (pv 5) d_ (fP (pv 3))) (bP (ae (pv 7) ag))) (gD (oW K) (pv 5) (fP (pv 3)) d_))) (az (i:=9) da.nd rfl (Or.inl rfl))
     (au (av (i:=8) da.nd rfl (Or.inl rfl) (aG cP (aG fm (pv 8) (pv 0)) (pv 9)))))
    (au (bt (cf PySem.F.plainAttrs_list PySem.F.slot_list_append PySem.F.type_list_append aZ (pv 6) (ae (pv 8) ag)))))))
   (au (bt (cf PySem.F.plainAttrs_list PySem.F.slot_list_append PySem.F.type_list_append aZ (pv 4) (ae (pv 6) ag)))))))
  (au (aR (pv 4)))))),?_⟩
  have big:(10000:Nat)≤sizeLine:=by decide
  have hk:=(List.getElem?_eq_some_iff.mp hx).1
  have hb0:0<b:=by omega
  have lim:∀i,i<k→ss[i]? ≠some x:=fun i hi z=>by
   obtain⟨h1,e1⟩:=List.getElem?_eq_some_iff.mp z
   obtain⟨h2,e2⟩:=List.getElem?_eq_some_iff.mp hx
   have:=(List.getElem_inj nd).mp (e1.trans e2.symm)
   omega
  refine ax fun Y hY=>?_
  refine⟨_,rfl,⟨nm,_,rfl,en⟩,_,rfl,nm,ss,x,k,rfl,rfl,.of en,hx,lim,?_⟩
  dsimp only[ay]
  subst hY
  refine ax fun Y hY=>?_
  refine⟨by decide,fun W hW=>?_⟩
  have sW:=Same.new (o:=.lst []) hW
  dsimp only[ay]
  subst hY
  refine ax fun Y hY=>?_
  have el1:((ss.length:Nat):Int)-1=((ss.length-1:Nat):Int):=by omega
  refine⟨_,rfl,_,rfl,_,ss.length,rfl,.inr ⟨_,.of (sW _ _ en),by rw[List.length_map]⟩,_,_,rfl,rfl,b,ss.length-1,by dsimp only;rw[el1];rfl,hb4,by omega,fun Da pa H1 yL s1 e1 t1=>?_⟩
  generalize hn:ss.length-1=n at t1 q
  have hB:b ^ n≤256:=cp hb4 (by omega)
  have Cu:pa.length=b ^ n:=by rw[Paired.length t1,dX]
  have Ub:Da≠W:=fun y=>by rw[y,af] at yL;cases yL
  refine⟨Da,rfl,⟨_,.of e1⟩,i_ (xs:=pa.map V.ref) (fun i σ H'=>∃(as:List Addr) (v5 v6 v7 v8 v9:Option V),σ=[some (.int (b:Nat)),some (.ref nm),some (.str x),some (.int (k:Nat)),some (.ref W),v5,v6,v7,v8,v9]∧Same H H'∧a_ H1 H'∧H' Da=some (.lst (pa.map V.ref))∧H' W=some (.lst (as.map V.ref))∧bD H' as ((List.range i).map (cR b n k))∧W ∉ as)
   ⟨[],none,none,none,none,none,rfl,sW.trans s1,(Same.refl _).kt,e1,s1 _ _ af,.nil,List.not_mem_nil⟩ (fun i σ H' _ ⟨_,_,_,_,_,_,_,_,_,e,_⟩=>.of e) ?_ ?_⟩
  ·rintro i y σ H2 M1 wR hy ⟨as,v5,v6,v7,v8,v9,rfl,s2,t2,e2,FP,lY,nW⟩
   obtain⟨p,rfl,ep⟩:=lQ hy
   have hi:i<b ^ n:=by rw[←Cu];exact(List.getElem?_eq_some_iff.mp ep).1
   obtain⟨l',hl',el⟩:=t1.get ep
   rw[r_ hb0 _ _ hi] at hl'
   have:=Option.some.inj hl'
   subst this
   have el2:=t2 _ _ el
   have Ki:as.length=i:=by rw[lY.len,List.length_map,List.length_range]
   dsimp only[ay]
   refine ax fun Y2 dM=>?_
   refine⟨by decide,fun N hN=>?_⟩
   have sN:=Same.new (o:=.lst []) hN
   have N8:W≠N:=aq FP hN
   have WX:N ∉ as:=fun z=>by obtain⟨l,e⟩:=lY.mem z;rw[e] at hN;cases hN
   dsimp only[ay]
   subst dM
   refine ax fun Y2 dM=>?_
   refine⟨_,rfl,_,rfl,by omega,by omega,dw (n:=((b:Nat):Int).toNat) (fun j σ H'=>∃(v7 v8 v9:Option V),σ=[some (.int (b:Nat)),some (.ref nm),some (.str x),some (.int (k:Nat)),some (.ref W),some (.ref p),some (.ref N),v7,v8,v9]∧Same H2 H'∧H' N=some (.lst ((ai ((List.range j).map fun f=>lst b 0 (ins k f (fl b n i)))).map V.int)))
    ⟨v7,v8,v9,rfl,sN,af⟩ ?_ ?_⟩
   ·rintro j σ H3 M2 uv hj ⟨v7,v8,v9,rfl,s3,FQ⟩
    rw[Int.toNat_natCast] at hj
    rw[show(0:Int)+(j:Int)=(j:Int) by omega]
    dsimp only[ay]
    refine ax fun Y3 CS=>?_
    dsimp only[kX,tC,ay]
    subst CS
    refine ax fun Y3 CS=>?_
    have el3:=s3 _ _ el2
    have lv:((ai (fl b n i)).map V.int).length=n:=by rw[List.length_map,aD,fq]
    refine⟨_,rfl,pb ⟨_,rfl,_,rfl,rd el3 fun u1 H4 s4 e4=>?_⟩⟩
    rw[yW _ (by rw[lv];omega)] at e4
    refine⟨_,rfl,by show 1≤sizeLine;decide,fun u2 hu2=>?_⟩
    have sU:=Same.new (o:=.tup [.int (j:Nat)]) hu2
    refine⟨u1,u2,_,_,rfl,rfl,sU _ _ e4,af,by rw[List.length_take,lv];show min k n+1≤_;omega,fun u3 H5 s5 e5=>?_⟩
    have CQ:=(s4.trans sU).trans s5
    refine⟨_,rfl,_,rfl,_,rfl,pb (rd (CQ _ _ el3) fun u4 H6 s6 e6=>?_)⟩
    rw[uy _ (by rw[lv];omega)] at e6
    refine⟨u3,u4,_,_,rfl,rfl,s6 _ _ e5,e6,by rw[List.length_append,List.length_take,List.length_drop,lv];show min k n+1+(n-k)≤_;omega,fun u5 H7 s7 e7=>?_⟩
    rw[←CV] at e7
    have N9:=(CQ.trans s6).trans s7
    have N':=N9 _ _ FQ
    have Uc:=s3.trans N9
    refine⟨u5,rfl,⟨_,.of e7⟩,mJ (xs:=(ai (ins k j (fl b n i))).map V.int) (fun z σ H'=>∃v9:Option V,σ=[some (.int (b:Nat)),some (.ref nm),some (.str x),some (.int (k:Nat)),some (.ref W),some (.ref p),some (.ref N),some (.int (j:Nat)),some (.int (lst b 0 ((ins k j (fl b n i)).take z):Nat)),v9]∧H'=H7)
     ⟨v9,rfl,rfl⟩ (fun z σ H' _ ⟨_,_,e⟩=>e▸.of e7) ?_ ?_⟩
    ·rintro z u σ H8 M3 Ud hu ⟨v9,rfl,rfl⟩
     obtain⟨d,rfl,ed⟩:=fv hu
     refine⟨_,rfl,_,rfl,_,_,rfl,rfl,.inr (by constructor<;>omega),_,rfl,_,_,rfl,rfl,Ud _ _ ⟨some (.int (d:Nat)),?_,rfl⟩⟩
     rw[take_snoc ed,r9,Int.natCast_add,Int.natCast_mul]
     rfl
    ·rintro σ H8 ⟨v9,rfl,rfl⟩
     rw[List.length_map,aD,List.take_length]
     subst CS
     have pC:H2 N=none:=hN
     refine⟨_,rfl,.inl ⟨rfl,_,.of N'⟩,_,rfl,N,_,_,rfl,rfl,N',?_,uv _ _ ⟨_,_,_,rfl,Uc.kbn pC KB.write,?_⟩⟩
     ·rw[List.length_map,aD,List.length_map,List.length_range];omega
     ·rw[af,List.range_succ,List.map_append,bj,List.map_append];rfl
   ·rintro σ H3 ⟨v7,v8,v9,rfl,s3,FQ⟩
    rw[Int.toNat_natCast] at FQ
    subst dM
    have Kj:=s3 _ _ FP
    refine⟨_,rfl,.inl ⟨rfl,_,.of Kj⟩,_,rfl,W,_,_,rfl,rfl,Kj,by rw[List.length_map,Ki];omega,wR _ _ ⟨as++[N],_,_,_,_,_,rfl,(s2.trans s3).kbn hW KB.write,(t2.trans s3.kt).trans (a_.lst Kj),by rw[ak Ub];exact s3 _ _ e2,by rw[af,List.map_append];rfl,?_,fun z=>?_⟩⟩
    ·rw[List.range_succ,List.map_append]
     refine bD.snoc (lY.keep fun c hc o e=>?_) ?_
     ·rw[ak (fun z=>nW (by rw[←z];exact hc))];exact s3 _ _ e
     ·rw[ak N8.symm];exact FQ
    ·rcases List.mem_append.mp z with z | z
     ·exact nW z
     ·exact N8 (List.mem_singleton.mp z)
  ·rintro σ H2 ⟨as,v5,v6,v7,v8,v9,rfl,s2,t2,e2,FP,lY,nW⟩
   subst hY
   refine⟨_,rfl,q W as H2 s2 FP ?_⟩
   rw[List.length_map,Cu] at lY
   exact lY
theorem mX (r:Nat):∀l:List Nat,inV (.int (r:Int)) ((ai l).map V.int)=decide (r∈l)
 | []=>rfl
 | x::l=>by
  show(jq (.int (x:Int)) (.int (r:Int))||inV (.int (r:Int)) ((ai l).map V.int))=_
  rw[mX r l]
  by_cases e:x=r
  ·subst e
   rw[show jq (.int (x:Int)) (.int (x:Int))=true from beq_iff_eq.mpr rfl]
   simp
  ·rw[show jq (.int (x:Int)) (.int (r:Int))=false from beq_eq_false_iff_ne.mpr fun z=>e (by omega)]
   by_cases h:r∈l
   ·simp[h]
   ·simp[h,Ne.symm e]
theorem sy (l:List Nat):((ai l).map V.int).all fQ=true:=by rw[List.all_map];exact List.all_eq_true.mpr fun _ _=>rfl
structure pF (bs:List Bool) (mv:List (List Nat)) (cs l:List Nat):Prop where
 nd:l.Nodup
 lt:∀r∈l,r<bs.length
 yes:∀r,r<bs.length→bs.getD r false=true→r∈l
 can:∀r∈l,jj bs mv cs r
def sA (n:Nat) (mv:List (List Nat)) (cs l:List Nat):Prop:=∀r,r<n→∀c∈cs,stp mv r c∈l→r∈l
theorem pF.begin (bs:List Bool) (mv:List (List Nat)) (cs:List Nat):pF bs mv cs ((List.range bs.length).filter fun r=>bs.getD r false):=
 ⟨List.Pairwise.sublist List.filter_sublist List.nodup_range,fun r hr=>List.mem_range.mp (List.mem_filter.mp hr).1,fun r hr h=>List.mem_filter.mpr ⟨List.mem_range.mpr hr,h⟩,fun r hr=>⟨[],(fun c hc=>by cases hc),(List.mem_filter.mp hr).2⟩⟩
theorem EG {bs:List Bool} {mv:List (List Nat)} {cs:List Nat} {r c:Nat} (hc:c∈cs) (h:jj bs mv cs (stp mv r c)):jj bs mv cs r:=by
 obtain⟨z,h1,h2⟩:=h
 exact⟨c::z,fun x hx=>(List.mem_cons.mp hx).elim (fun e=>e▸hc) fun m=>h1 x m,h2⟩
theorem pF.add {bs:List Bool} {mv:List (List Nat)} {cs l:List Nat} (g:pF bs mv cs l) {r c:Nat} (hr:r<bs.length) (hn:r ∉ l) (hc:c∈cs) (h:stp mv r c∈l):pF bs mv cs (l++[r]):=
 ⟨List.nodup_append.mpr ⟨g.nd,by simp,fun a ha b hb z=>hn (by rw[←List.mem_singleton.mp hb,←z];exact ha)⟩,fun x hx=>(List.mem_append.mp hx).elim (g.lt x) fun z=>by rw[List.mem_singleton.mp z];exact hr,
  fun x h1 h2=>List.mem_append_left _ (g.yes x h1 h2),fun x hx=>(List.mem_append.mp hx).elim (g.can x) fun z=>by rw[List.mem_singleton.mp z];exact EG hc (g.can _ h)⟩
theorem pF.fin {bs:List Bool} {mv:List (List Nat)} {cs l:List Nat} {B:Nat} (m:Moves bs.length B mv) (hcs:∀c∈cs,c<B) (g:pF bs mv cs l) (s:sA bs.length mv cs l∨bs.length≤l.length):∀r,r∈l↔r<bs.length∧jj bs mv cs r:=by
 have sh:sA bs.length mv cs l:=by
  rcases s with s | s
  ·exact s
  ·intro r hr _ _ _
   have sub:(l++[r]).Nodup→False:=fun nd=>by
    have:=List.Nodup.length_le_of_subset (l₂:=List.range bs.length) nd fun x hx=>List.mem_range.mpr ((List.mem_append.mp hx).elim (g.lt x) fun z=>by rw[List.mem_singleton.mp z];exact hr)
    rw[List.length_append,List.length_range] at this
    simp at this
    omega
   by_cases z:r∈l
   ·exact z
   ·exact(sub (List.nodup_append.mpr ⟨g.nd,by simp,fun a ha b hb e=>z (by rw[←List.mem_singleton.mp hb,←e];exact ha)⟩)).elim
 have go:∀(z:List Nat) (r:Nat),r<bs.length→(∀c∈z,c∈cs)→lang bs mv r z=true→r∈l:=by
  intro z
  induction z with
  | nil=>intro r hr _ h;exact g.yes r hr h
  | cons c z ih=>
   intro r hr hz h
   have hc:=hz c List.mem_cons_self
   exact sh r hr c hc (ih _ (m.stp hr (hcs c hc)) (fun x hx=>hz x (List.mem_cons_of_mem _ hx)) h)
 intro r
 constructor
 ·exact fun h=>⟨g.lt r h,g.can r h⟩
 ·rintro⟨hr,z,h1,h2⟩
  exact go z r hr h1 h2
structure jB (bs:List Bool) (mv:List (List Nat)) (cs l0:List Nat) (j:Nat) (l:List Nat):Prop where
 go:pF bs mv cs l
 le:l0.length≤l.length
 same:l.length=l0.length→l=l0∧∀r,r<j→r ∉ l0→∀c∈cs,stp mv r c ∉ l0
 shut:sA bs.length mv cs l0→l=l0
theorem jB.stay {bs:List Bool} {mv:List (List Nat)} {cs l0 l:List Nat} {j:Nat} (h:jB bs mv cs l0 j l) (q:j∈l∨∀c∈cs,stp mv j c ∉ l):jB bs mv cs l0 (j+1) l:=by
 refine⟨h.go,h.le,fun e=>?_,h.shut⟩
 obtain⟨rfl,k⟩:=h.same e
 refine⟨rfl,fun r hr hn c hc z=>?_⟩
 by_cases y:r<j
 ·exact k r y hn c hc z
 ·have:r=j:=by omega
  subst this
  exact q.elim hn fun f=>f c hc z
theorem jB.add {bs:List Bool} {mv:List (List Nat)} {cs l0 l:List Nat} {j c:Nat} (h:jB bs mv cs l0 j l) (hj:j<bs.length) (hn:j ∉ l) (hc:c∈cs) (hl:stp mv j c∈l):jB bs mv cs l0 (j+1) (l++[j]):=by
 have le:=h.le
 refine⟨h.go.add hj hn hc hl,by rw[List.length_append];omega,fun e=>by rw[List.length_append] at e;simp at e;omega,fun s=>?_⟩
 have:=h.shut s
 subst this
 exact absurd (s j hj c hc hl) hn
theorem jB.done {bs:List Bool} {mv:List (List Nat)} {cs l0 l:List Nat} {t:Nat} (h:jB bs mv cs l0 bs.length l) (q:sA bs.length mv cs l0∨t≤l0.length):sA bs.length mv cs l∨t+1≤l.length:=by
 rcases q with q | q
 ·rw[h.shut q];exact .inl q
 ·by_cases e:l.length=l0.length
  ·obtain⟨rfl,k⟩:=h.same e
   refine .inl fun r hr c hc z=>?_
   by_cases y:r∈l
   ·exact y
   ·exact absurd z (k r hr y c hc)
  ·have:=h.le
   exact .inr (by omega)
def Nb:Sp:=fun vs H Q _=>∃(m nm y v lt:Addr) (ps:List Addr) (bs:List Bool) (mv:List (List Nat)) (B:Nat) (cs:List Nat),vs=[.ref m,.ref lt]∧ig H m nm y v ps bs mv B∧H lt=some (.lst ((ai cs).map V.int))∧(∀c∈cs,c<B)∧bs.length≤62∧cs.length≤300∧
 ∀(G:Addr) (gs:List Nat) (H':Hp),Same H H'→H' G=some (.lst ((ai gs).map V.int))→(∀r,r∈gs↔r<bs.length∧jj bs mv cs r)→Q (.ref G) H'
theorem gB:aS ["_law_machine_here","_law_noughts","_law_found","_law_turn","_law_room"] ["_law_machine_here","_law_noughts"] (aj de):=⟨rfl,rfl,rfl,by decide+kernel,rfl,by decide+kernel,by decide+kernel⟩
set_option maxHeartbeats 16000000 in
theorem uX {a:bW} (T:Txt K mg a):bf P w K mg base bT 1 a.ie a.je ["_law_machine_here","_law_noughts"] Nb:=by
 refine T.wu.ok gB (fun vs H Q E h=>?_) (fun cdv A outer s H vs Q E hr h=>?_)
 ·obtain⟨m,nm,y,v,lt,ps,bs,mv,B,cs,rfl,_⟩:=h
  rfl
 ·obtain⟨m,nm,y,v,lt,ps,bs,mv,B,cs,rfl,⟨a1,a2,a3,tp,dJ⟩,elt,hcs,hn,hc3,q⟩:=h
  refine⟨_,(ah (av (i:=2) gB.nd rfl (Or.inr rfl) (cF (aI.mk' (esc:=aj de) (N:=["_law_machine_here","_law_noughts","_law_found","_law_turn","_law_room"]) (own:=["_law_room"]) (aF:=["_law_machine_here"]) (bJ:=[0]) rfl rfl (by decide+kernel)) rfl (bM rfl T.cq (ae (aA (aM K) (by rfl) T.bF bg (ae (aJ (aO K) (pv 0) ao (fun _ _=>rfl)) ag)) ag)) (fun _ _ _ _=>(az (i:=0) (show List.Nodup (["_law_room","_law_machine_here"]:List Str) by decide+kernel) rfl (Or.inl rfl))) (fun _ _ _ _=>(jV (t7 K (aJ (aO K) (aJ (aO K) (pv 1) ao (fun _ _=>rfl)) (pv 0) (fun _ _=>rfl)) (fun _=>rfl)))) (fun _ _ _ _=>(pv 0))))
  (ah (bq PassesOwn.never rfl (fF (aJ (aO K) (pv 0) ao (fun _ _=>rfl))) (az (i:=3) gB.nd rfl (Or.inl rfl))
   (au (bq PassesOwn.never rfl (bM rfl T.cq (ae (aA (aM K) (by rfl) T.bF bg (ae (aJ (aO K) (pv 0) ao (fun _ _=>rfl)) ag)) ag)) (az (i:=4) gB.nd rfl (Or.inr rfl))
    (au (cX (PW.pt (qb (bo (tT K) (pv 4) (pv 2) (by with_unfolding_all rfl)) (oR (dB (aA (n8 K rfl) (by rfl) T.zZ vJ (ae (cF (aI.mk' (esc:=aj de) (N:=["_law_machine_here","_law_noughts","_law_found","_law_turn","_law_room"]) (own:=["_law_k"]) (aF:=["_law_found","_law_room","_law_machine_here"]) (bJ:=[2,4,0]) rfl rfl (by decide+kernel)) rfl (cb (pv 1)) (fun _ _ _ _=>(az (i:=0) (show List.Nodup (["_law_k","_law_found","_law_room","_law_machine_here"]:List Str) by decide+kernel) rfl (Or.inl rfl))) (fun _ _ _ _=>bU) (fun _ _ _ _=>(di (qx K) (aJ (aO K) (aJ (aO K) (aJ (aO K) (pv 3) ao (fun _ _=>rfl)) (pv 2) (fun _ _=>rfl)) (pv 0) (fun _ _=>rfl)) (pv 1) (by with_unfolding_all rfl)))) ag)) (fun _=>rfl)))))
     (au (bt (cf PySem.F.plainAttrs_list PySem.F.slot_list_append PySem.F.type_list_append aZ (pv 2) (ae (pv 4) ag))))
     bR)))))
  (au (aR (pv 2))))),?_⟩
  have big:(10000:Nat)≤sizeLine:=by decide
  refine ax fun Y hY=>?_
  refine⟨_,rfl,m,_,_,.ref y,rfl,rfl,.of a1,aB (j:=1) rfl,_,bs.length,rfl,.inr ⟨_,.of a2,by rw[List.length_map]⟩,_,rfl,by omega,by omega,fun G hG=>?_⟩
  refine fR (n:=((bs.length:Nat):Int).toNat) (fun i σ H'=>∃v0:Option V,σ=[v0,some (.ref m)]∧Same H H'∧H' G=some (.lst ((ai ((List.range i).filter fun r=>bs.getD r false)).map V.int)))
   ⟨none,?sg,Same.new hG,af⟩ ?_ ?_
  case sg=>rfl
  ·rintro i σ H' hi ⟨v0,rfl,s',c'⟩
   rw[Int.toNat_natCast] at hi
   rw[show(0:Int)+(i:Int)=(i:Int) by omega]
   refine⟨_,rfl,m,_,_,.ref y,rfl,rfl,.of (s' _ _ a1),aB (j:=1) rfl,_,rfl,y,_,_,.bl (bs.getD i false),rfl,rfl,.of (s' _ _ a2),aB (by rw[List.getElem?_map,item_at false hi];rfl),bs.getD i false,rfl,?_⟩
   cases hb:bs.getD i false with
   | true=>
    refine fA ?_
    refine⟨_,rfl,_,c',?_,some (.int (i:Nat)),rfl,s'.kbn hG KB.write,?_⟩
    ·have:=List.length_filter_le (fun r=>bs.getD r false) (List.range i)
     rw[List.length_range] at this
     rw[List.length_map,aD];omega
    ·rw[af,List.range_succ,List.filter_append,List.filter_cons,if_pos hb,List.filter_nil,bj,List.map_append];rfl
   | false=>
    refine cm ?_
    refine⟨some (.int (i:Nat)),rfl,s',?_⟩
    rw[List.range_succ,List.filter_append,List.filter_cons,if_neg (by rw[hb];decide),List.filter_nil,List.append_nil];exact c'
  rintro σ H1 ⟨v0,rfl,s1,c1⟩
  rw[Int.toNat_natCast] at c1
  dsimp only[ay]
  subst hY
  refine ax fun Y hY=>?_
  have cap:∀{l:List Nat},pF bs mv cs l→l.length≤bs.length:=fun {l} g=>by
   have:=List.Nodup.length_le_of_subset (l₂:=List.range bs.length) g.nd fun x hx=>List.mem_range.mpr (g.lt x hx)
   rwa [List.length_range] at this
  refine⟨_,rfl,m,_,_,.ref y,rfl,rfl,.of (s1 _ _ a1),aB (j:=1) rfl,y,rfl,⟨_,.of (s1 _ _ a2)⟩,mJ (xs:=bs.map V.bl) (fun t σ H'=>∃(l:List Nat) (v3 v4:Option V),σ=[some (.ref m),some (.ref lt),some (.ref G),v3,v4]∧Same H H'∧H' G=some (.lst ((ai l).map V.int))∧pF bs mv cs l∧(sA bs.length mv cs l∨t≤l.length))
   ⟨_,none,none,rfl,s1,c1,.begin bs mv cs,.inr (Nat.zero_le _)⟩ (fun t σ H' _ ⟨_,_,_,_,s,_⟩=>.of (s _ _ a2)) ?_ ?_⟩
  ·rintro t u σ H2 M1 wR hu ⟨l0,v3,v4,rfl,s2,c2,g2,d2⟩
   dsimp only[ay]
   refine⟨_,rfl,m,_,_,.ref y,rfl,rfl,.of (s2 _ _ a1),aB (j:=1) rfl,_,bs.length,rfl,.inr ⟨_,.of (s2 _ _ a2),by rw[List.length_map]⟩,_,rfl,by omega,by omega,dw (n:=((bs.length:Nat):Int).toNat) (fun j σ H'=>∃(l:List Nat) (v4:Option V),σ=[some (.ref m),some (.ref lt),some (.ref G),some u,v4]∧Same H H'∧H' G=some (.lst ((ai l).map V.int))∧jB bs mv cs l0 j l)
    ⟨l0,v4,rfl,s2,c2,⟨g2,Nat.le_refl _,fun _=>⟨rfl,fun r hr=>absurd hr (Nat.not_lt_zero _)⟩,fun _=>rfl⟩⟩ ?_ ?_⟩
   ·rintro j σ H3 M2 uv hj ⟨l,v4,rfl,s3,c3,h3⟩
    rw[Int.toNat_natCast] at hj
    rw[show(0:Int)+(j:Int)=(j:Int) by omega]
    dsimp only[ay]
    have cl:=cap h3.go
    refine⟨_,rfl,_,rfl,G,_,rfl,.inl (.of c3),rfl,sy _,_,rfl,?_⟩
    rw[if_pos rfl,mX]
    by_cases hm:j∈l
    ·rw[decide_eq_true hm]
     refine cm ?_
     refine cm ?_
     exact uv _ _ ⟨l,some (.int (j:Nat)),rfl,s3,c3,h3.stay (.inl hm)⟩
    rw[decide_eq_false hm]
    refine fA ?_
    obtain⟨r1,r2,r3⟩:=dJ.row tp hj
    refine⟨_,rfl,lt,rfl,⟨_,.of (s3 _ _ elt)⟩,fun C hC=>?_⟩
    have WY:∀{H':Hp},Same H3 H'→H' G=some (.lst ((ai l).map V.int)):=fun {H'} s=>s _ _ c3
    refine dH (xs:=(ai cs).map V.int) (fun z σ H'=>∃v0:Option V,σ=[v0,some (.ref G),some (.int (j:Nat)),some (.ref m)]∧Same H3 H'∧H' C=some (.lst (((cs.take z).map fun c=>decide (stp mv j c∈l)).map V.bl)))
     ⟨none,?sg2,Same.new hC,af⟩ (fun z σ H' _ ⟨_,_,s,_⟩=>.of (s _ _ (s3 _ _ elt))) ?_ ?_
    case sg2=>rfl
    ·rintro z cv σ H4 hz ⟨v0,rfl,s4,c4⟩
     obtain⟨c,rfl,ec⟩:=fv hz
     have hz':=(List.getElem?_eq_some_iff.mp ec).1
     have hcB:=hcs c (List.mem_of_getElem? ec)
     have uw:=s3.trans s4
     refine⟨_,rfl,m,_,_,.ref v,rfl,rfl,.of (uw _ _ a1),aB (j:=2) rfl,_,rfl,v,_,_,.ref (ps.getD j 0),rfl,rfl,.of (uw _ _ a3),aB (by rw[List.getElem?_map,r1];rfl),_,rfl,ps.getD j 0,_,_,.int (stp mv j c:Nat),rfl,rfl,.of (uw _ _ r2),aB (dy (by rw[r3];exact hcB)),_,rfl,G,_,rfl,.inl (.of (s4 _ _ c3)),rfl,sy _,_,c4,by rw[List.length_map,List.length_map,List.length_take];omega,some (.int (c:Nat)),rfl,s4.kbn hC KB.write,?_⟩
     rw[if_neg (by decide),mX,af,take_snoc ec,List.map_append,List.map_append];rfl
    rintro σ H4 ⟨v0,rfl,s4,c4⟩
    rw[List.length_map,aD,List.take_length] at c4
    refine⟨C,_,rfl,.of c4,_,rfl,?_⟩
    rw[List.any_map]
    have uw:=s3.trans s4
    by_cases ha:(cs.any (id∘fun c=>decide (stp mv j c∈l)))=true
    ·rw[ha]
     refine fA ?_
     obtain⟨c,hc,hd⟩:=List.any_eq_true.mp ha
     have hd':stp mv j c∈l:=of_decide_eq_true hd
     have Oa:=s4 _ _ c3
     refine⟨_,rfl,.inl ⟨rfl,_,.of Oa⟩,_,rfl,G,_,_,rfl,rfl,Oa,by rw[List.length_map,aD];omega,uv _ _ ⟨l++[j],some (.int (j:Nat)),rfl,uw.kbn hG KB.write,?_,h3.add hj hm hc hd'⟩⟩
     rw[af,bj,List.map_append];rfl
    ·rw[Bool.eq_false_iff.mpr ha]
     refine cm ?_
     refine uv _ _ ⟨l,some (.int (j:Nat)),rfl,uw,s4 _ _ c3,h3.stay (.inr fun c hc z=>ha (List.any_eq_true.mpr ⟨c,hc,decide_eq_true z⟩))⟩
   ·rintro σ H3 ⟨l,v4,rfl,s3,c3,h3⟩
    rw[Int.toNat_natCast] at h3
    exact wR _ _ ⟨l,some u,v4,rfl,s3,c3,h3.go,h3.done d2⟩
  ·rintro σ H2 ⟨l,v3,v4,rfl,s2,c2,g2,d2⟩
   rw[List.length_map] at d2
   subst hY
   exact⟨_,rfl,q G l H2 s2 c2 (g2.fin dJ hcs d2)⟩
section
variable {X:Cx} {pos:Pos} {name:Str} {params:Arguments} {body:List Stmt} {scope:Scope} {c T:Addr} {clos:List (Str×Addr)} {L:List (Pos×Str)}
theorem HG {i:Nat} (hN:X.N.Nodup) (hi:X.N[i]? =some name) (hx:Loc X.env.scope name) (hcode:X.env.code=.ref c) (hC:PySem.W.codeHdIn X.K c T=true) (hB:dY X.mg X.base) (hcl:closureFor scope X.env=pure clos) (hd0:params.defaults=[]) (hk0:params.kw_defaults=[]) (ha:annTrees params none X.env=[])
  (hL:(pos,qualnameIn X.env name name)∈L) (ap:Apart L) (hf:X.fn name=true∨X.env.scope.names.lookup name=some .local:=by first | exact .inl rfl | exact .inr rfl | assumption):
  PS X (.FunctionDef name params body [] none [] scope none name pos) (Jq X name params body scope clos T L i):=fun pins s σ H D I h=>Jr hN hi hx hcode (PySem.W.codeHd_of_K I.ok.mod.tE hC) hB hcl hd0 hk0 ha hL ap hf pins s σ H D I h
end
structure nE (m nm y v:Addr) (ps:List Addr) (bs:List Bool) (mv:List (List Nat)) (B:Nat) (W:Addr) (as:List Addr) (LL:List (List Nat)) (H:Hp):Prop where
 mc:ig H m nm y v ps bs mv B
 w:H W=some (.lst (as.map V.ref))
 ls:bD H as LL
theorem nE.keep {m nm y v:Addr} {ps:List Addr} {bs:List Bool} {mv:List (List Nat)} {B:Nat} {W:Addr} {as:List Addr} {LL:List (List Nat)} {H H':Hp} (e:nE m nm y v ps bs mv B W as LL H) (kt:a_ H H') (kl:∀b xs,H b=some (.lst xs)→H' b=some (.lst xs)):nE m nm y v ps bs mv B W as LL H':=
 ⟨e.mc.keep kt,kl _ _ e.w,e.ls.keep fun b hb o q=>by obtain⟨l,z⟩:=e.ls.mem hb;rw[z] at q;cases q;exact kl _ _ z⟩
theorem nE.same {m nm y v:Addr} {ps:List Addr} {bs:List Bool} {mv:List (List Nat)} {B:Nat} {W:Addr} {as:List Addr} {LL:List (List Nat)} {H H':Hp} (e:nE m nm y v ps bs mv B W as LL H) (s:Same H H'):nE m nm y v ps bs mv B W as LL H':=e.keep s.kt fun b xs z=>s _ _ z
theorem nE.cL {m nm y v:Addr} {ps:List Addr} {bs:List Bool} {mv:List (List Nat)} {B:Nat} {W:Addr} {as:List Addr} {LL:List (List Nat)} {H:Hp} {D:List Addr} (hD:∀a∈D,∃φ,H a=some (.ext φ)) (e:nE m nm y v ps bs mv B W as LL H):nE m nm y v ps bs mv B W as LL (L2.cL D H):=
 e.keep (fun b xs z=>gF hD z (fun _ y=>nomatch y)) fun b xs z=>gF hD z (fun _ y=>nomatch y)
theorem uz:∀{ks:List Int},(∀y∈ks,∃r:Nat,y=(r:Int))→ks=ai (ks.map Int.toNat)
 | [],_=>rfl
 | y::ks,h=>by
  obtain⟨r,e⟩:=h y List.mem_cons_self
  have:=uz (ks:=ks) fun z hz=>h z (List.mem_cons_of_mem _ hz)
  rw[List.map_cons]
  show y::ks=((y.toNat:Nat):Int)::ai (ks.map Int.toNat)
  rw[←this,e,Int.toNat_natCast]
theorem HH {ks ns:List Int} {mv:List (List Nat)} {n:Nat} {S cs met:List Nat} (nd:ks.Nodup) (hm:∀y,y∈ks↔y∈ai met) (hmet:∀t,t∈met↔t∈fL mv n S cs) (hp:ns.Perm ks) (hs:ns.Pairwise (· ≤ ·)):ns=ai (fL mv n S cs):=by
 have e:ks=ai (ks.map Int.toNat):=uz fun y hy=>by
  obtain⟨r,_,rfl⟩:=List.mem_map.mp ((hm y).mp hy)
  exact⟨r,rfl⟩
 have mem:∀r:Nat,r∈ks.map Int.toNat↔r∈met:=fun r=>by
  have h1:=hm (r:Int)
  rw[e] at h1
  generalize ks.map Int.toNat=l at h1 ⊢
  unfold ai at h1
  simp only[List.mem_map] at h1
  constructor
  ·intro h
   obtain⟨z,hz,ez⟩:=h1.mp ⟨r,h,rfl⟩
   have:z=r:=by omega
   exact this▸hz
  ·intro h
   obtain⟨z,hz,ez⟩:=h1.mpr ⟨r,h,rfl⟩
   have:z=r:=by omega
   exact this▸hz
 have CW:(ks.map Int.toNat).Nodup:=by
  rw[e] at nd
  unfold ai at nd
  exact(List.pairwise_map.mp nd).imp fun h z=>h (by rw[z])
 rw[e] at hp
 exact pE hp hs (List.Pairwise.sublist List.filter_sublist List.pairwise_lt_range) CW fun r=>(mem r).trans (hmet r)
def jn (mv:List (List Nat)) (S cs:List Nat):List Nat:=S.flatMap fun r=>cs.map (stp mv r)
theorem EH {mv:List (List Nat)} {S cs:List Nat} {t:Nat}:t∈jn mv S cs↔∃r∈S,∃c∈cs,stp mv r c=t:=by
 unfold jn
 simp only[List.mem_flatMap,List.mem_map]
theorem CY (mv:List (List Nat)) (S cs:List Nat) (r:Nat):jn mv (S++[r]) cs=jn mv S cs++cs.map (stp mv r):=by
 unfold jn
 rw[List.flatMap_append,List.flatMap_cons,List.flatMap_nil,List.append_nil]
theorem p6 (mv:List (List Nat)) (cs:List Nat):∀S:List Nat,(jn mv S cs).length=S.length*cs.length
 | []=>by simp[jn]
 | r::S=>by
  have:=p6 mv cs S
  unfold jn at this ⊢
  rw[List.flatMap_cons,List.length_append,this,List.length_map,List.length_cons,Nat.succ_mul,Nat.add_comm]
theorem sG {n:Nat} {S:List Nat} (h:gm n S):S.length≤n:=by
 obtain⟨p,rfl⟩:=h
 have:=List.length_filter_le p (List.range n)
 rwa [List.length_range] at this
def Nc (a:bW):Sp:=fun vs H Q _=>∃(b k:Nat) (m:Addr) (ss:List Str) (x:Str) (bs:List Bool) (mv:List (List Nat)) (bd:Nat),vs=[.int b,.ref m,.str x]∧2≤b∧b≤4∧Mc b H m ss bs mv∧ss.Nodup∧ss[k]? =some x∧ss.length≤4∧bs.length≤62∧TB a H∧
 (∀l:List (List Nat),l.Nodup→i' b ss x bs mv l→l.length≤bd)∧bd≤2000∧
 ∀(p Rr t N Yy va:Addr) (vs:List V) (ps:List Addr) (xs mv':List (List Nat)) (H':Hp),KX a H H'→TB a H'→(∀o,H Rr=some o→∃qs,o=.dZ qs)→H' p=some (.tup [.ref Rr,.ref t])→H' t=some (.tup [.ref N,.ref Yy,.ref va])→H' N=some (.tup ((oth ss x).map V.str))→H' Yy=some (.tup ((xs.map (jk b ss x bs mv)).map V.bl))→H' va=some (.tup (ps.map V.ref))→bX H' ps (mv'.map ai)→
  H' Rr=some (.lst vs)→eF j0 H' vs xs→mv'.length=xs.length→xs.length≤bd→bZ [0] (kd b ss x bs mv) (b ^ (oth ss x).length) xs mv'→Q (.ref p) H'
theorem xU {ss:List Str} {x:Str} {l:List Str} {s:Str} (h:V.str s=V.str x):oth (l++[s]) x=oth l x:=by
 unfold oth
 rw[List.filter_append,List.filter_cons,if_neg (by rw[decide_eq_true h];decide),List.filter_nil,List.append_nil]
theorem xf {x:Str} {l:List Str} {s:Str} (h:V.str s≠V.str x):oth (l++[s]) x=oth l x++[s]:=by
 unfold oth
 rw[List.filter_append,List.filter_cons,if_pos (by rw[decide_eq_false h];decide),List.filter_nil]
theorem gK:aS ["_law_base","_law_machine_here","_law_name","_law_wholes_here","_law_going","_law_onward","_law_came","_law_moves","_law_yes"] ["_law_base","_law_machine_here","_law_name"] (aj eB):=⟨rfl,rfl,rfl,by decide+kernel,rfl,by decide+kernel,by decide+kernel⟩
set_option maxHeartbeats 32000000 in
theorem EI {a:bW} (T:Txt K mg a) (hB:dY mg base):bf P w K mg base bT 3 a.o_ a.pW ["_law_base","_law_machine_here","_law_name"] (Nc a):=by
 have An:=xS (P:=P) (w:=w) (base:=base) T
 have xg:=uX (P:=P) (w:=w) (base:=base) T
 refine T.Hk.ok gK (fun vs H Q E h=>?_) (fun Ar outer s H vs Q E hr h=>?_)
 ·obtain⟨b,k,m,ss,x,bs,mv,bd,rfl,_⟩:=h
  rfl
 ·obtain⟨b,k,m,ss,x,bs,mv,bd,rfl,hb2,hb4,⟨nm,⟨y,v,ps,a1,a2,a3,a4⟩,en,mo,p0⟩,CZ,hx,hs,hn,tb,few,hbd,q⟩:=h
  have xV:aP 2 _:=hr
  have uY:aP 1 _:=hr.mono (by decide)
  refine⟨_,(ah (av (i:=3) gK.nd rfl (Or.inr rfl) (aC An xV rfl T.zW T.zX T.zY .nil aN (ae (pv 0) (ae (aJ (aO K) (pv 1) ao (fun _ _=>rfl)) (ae (pv 2) ag)))))
  (ah (av (i:=4) gK.nd rfl (Or.inr rfl) (aC xg uY rfl T.wx T.wy T.wz .nil aN (ae (pv 1) (ae (aJ (bC K) (pv 3) ao (fun _ _=>rfl)) ag))))
  (ah (HG (i:=5) (T:=a.iG) (L:=JW) gK.nd rfl (Or.inl rfl) rfl T.Hl hB rfl rfl rfl rfl (List.mem_cons_self) (apart1 _))
  (ah (qe (pP (k:=2) (fun _=>rfl) hr rfl T.B6 T.B7 T.B8 (ae (bP (ae ao ag)) (ae (aA (aM K) (by rfl) T.bF bg (ae (pv 3) ag)) (ae (pv 5) (ae ao ag))))) (nL rfl (dj (az (i:=6) gK.nd rfl (Or.inl rfl)) (dj (az (i:=7) gK.nd rfl (Or.inl rfl)) jD))))
  (ah (eV (i:=8) (aI.mk' (esc:=aj eB) (N:=["_law_base","_law_machine_here","_law_name","_law_wholes_here","_law_going","_law_onward","_law_came","_law_moves","_law_yes"]) (own:=["_law_room"]) (aF:=["_law_going"]) (bJ:=[4]) rfl rfl (by decide+kernel)) rfl (cb (pv 6)) (fun _ _ _ _=>(az (i:=0) (show List.Nodup (["_law_room","_law_going"]:List Str) by decide+kernel) rfl (Or.inl rfl))) (fun _ _ _ _=>bU) (fun _ _ _ _=>(aA (n8 K rfl) (by rfl) T.zZ vJ (ae (cF (aI.mk' (esc:=_) (N:=["_law_room","_law_going"]) (own:=["_law_one"]) (aF:=["_law_going"]) (bJ:=[1]) rfl rfl (by rfl)) rfl (Hh K (pv 0)) (fun _ _ _ _=>(az (i:=0) (show List.Nodup (["_law_one","_law_going"]:List Str) by decide+kernel) rfl (Or.inl rfl))) (fun _ _ _ _=>bU) (fun _ _ _ _=>(di (qx K) (pv 0) (pv 1) (by with_unfolding_all rfl)))) ag))) gK.nd rfl rfl)
  (au (aR (bP (ae (pv 6) (ae (bP (ae (aY (aX K) (by rfl) T.bS bB (ae (cF (aI.mk' (esc:=aj eB) (N:=["_law_base","_law_machine_here","_law_name","_law_wholes_here","_law_going","_law_onward","_law_came","_law_moves","_law_yes"]) (own:=["_law_one"]) (aF:=["_law_name"]) (bJ:=[2]) rfl rfl (by decide+kernel)) rfl (fF (aJ (aO K) (pv 1) ao (fun _ _=>rfl))) (fun _ _ _ _=>(az (i:=0) (show List.Nodup (["_law_one","_law_name"]:List Str) by decide+kernel) rfl (Or.inl rfl))) (fun _ _ _ _=>(jV (bo my (pv 0) (pv 1) (aU _)))) (fun _ _ _ _=>(pv 0))) ag)) (ae (aY (aX K) (by rfl) T.bS bB (ae (pv 8) ag)) (ae (pv 7) ag)))) ag)))))))))),?_⟩
  have big:(10000:Nat)≤sizeLine:=by decide
  have Ue:(4096:Nat)=scanBound:=by decide
  have hb0:0<b:=by omega
  have hk:=(List.getElem?_eq_some_iff.mp hx).1
  have ol:=yV CZ hx
  refine ax fun Y hY=>?_
  refine⟨_,rfl,_,rfl,m,_,_,.ref nm,rfl,rfl,.of a1,aB (j:=0) rfl,_,rfl,b,k,nm,ss,x,rfl,hb2,hb4,en,CZ,hx,hs,fun W as H1 s1 eW Kk=>?_⟩
  generalize yR:jI b (ss.length-1) k=LL at Kk
  have Ug:LL.length=b ^ (ss.length-1):=by rw[←yR,Am]
  have Ob:∀{l:Nat},l<b ^ (ss.length-1)→LL[l]? =some (cR b (ss.length-1) k l):=fun {l} h=>by rw[←yR];exact CU h
  have Kl:∀{l c:Nat},c∈cR b (ss.length-1) k l→c<b ^ ss.length:=fun {l c} h=>by have:=xb hb0 h;rwa [show ss.length-1+1=ss.length by omega] at this
  have Ao:∀l,(cR b (ss.length-1) k l).length=b:=fun l=>by unfold cR;rw[List.length_map,List.length_range]
  have pB:0<b ^ (ss.length-1):=Nat.pow_pos hb0
  obtain⟨w0,hw0,Uh⟩:=Kk.back (Ob pB)
  have Km:ig H1 m nm y v ps bs mv (b ^ ss.length):=⟨s1 _ _ a1,s1 _ _ a2,s1 _ _ a3,a4.keep s1.kt,mo⟩
  dsimp only[ay]
  subst hY
  refine ax fun Y hY=>?_
  refine⟨_,rfl,_,rfl,W,_,_,.ref w0,rfl,rfl,.of eW,aB (j:=0) (by rw[List.getElem?_map,hw0];rfl),m,nm,y,v,w0,ps,bs,mv,b ^ ss.length,_,rfl,Km,Uh,fun c hc=>Kl hc,hn,by rw[Ao];omega,fun G gs H2 s2 eG hgs=>?_⟩
  have s12:=s1.trans s2
  have ev2:nE m nm y v ps bs mv (b ^ ss.length) W as LL H2:=(nE.mk Km eW Kk).same s2
  have tb2:=tb.same s12
  dsimp only[ay]
  subst hY
  refine ax fun Y hY=>?_
  refine⟨tb2.du,fun f c' ctv doc H3 hf ef ec Ez kb3=>?_⟩
  have k3:KX a H2 H3:=KX.kb tb2.du kb3
  have j':TB a H3:=tb2.Tt T kb3 Ez
  have Oc:∀b xs,H2 b=some (.lst xs)→H3 b=some (.lst xs):=fun b xs z=>k3 _ _ z fun _ y=>nomatch y
  have yI:=ev2.keep k3.kt Oc
  have Ui:=Oc _ _ eG
  dsimp only
  subst hY
  refine ax fun Y hY=>?_
  refine⟨by show 1≤sizeLine;decide,fun z hz=>?_⟩
  have sz:=Same.new (o:=.tup [.int ((0:Nat):Int)]) hz
  have ez:(upd H3 z (.tup [.int ((0:Nat):Int)])) z=some (.tup [.int ((0:Nat):Int)]):=af
  have FR:=yI.same sz
  have qY:=j'.same sz
  have Kn:=sz _ _ ef
  have Ko:=sz _ _ ec
  have Od:=sz _ _ Ui
  have k4:KX a H (upd H3 z (.tup [.int ((0:Nat):Int)])):=(KX.same s12).trans (k3.trans (KX.same sz))
  generalize upd H3 z (.tup [.int ((0:Nat):Int)])=H4 at sz ez FR qY Kn Ko Od k4 ⊢
  have Ki:as.length=b ^ (ss.length-1):=by rw[FR.ls.len,Ug]
  refine⟨_,rfl,_,b ^ (ss.length-1),rfl,.inl ⟨_,.of FR.w,by rw[List.length_map,Ki]⟩,_,rfl,?_⟩
  have hD:∀x∈[f,c'],∃φ,H4 x=some (.ext φ):=fun x hx=>by
   simp only[List.mem_cons,List.not_mem_nil,or_false] at hx
   rcases hx with z | z<;>subst z
   ·exact⟨_,Kn⟩
   ·exact⟨_,Ko⟩
  refine⟨[f,c'],hD,fun base' W'=>?_⟩
  have F1:FnAt P w K mg base' 1 f 2 (wJ j0 (b ^ (ss.length-1)) (kd b ss x bs mv) (gm bs.length) (nE m nm y v ps bs mv (b ^ ss.length) W as LL)):=by
   refine FnAt.MY (k:=0) W' Kn (by simp) Ko (by simp) (ps:=["_law_room","_law_k"]) (aF:=["_law_machine_here","_law_wholes_here"]) (ls:=["_law_met","_law_one"]) (fvs:=[.ref m,.ref W]) ⟨rfl,rfl,rfl,by decide+kernel,by decide+kernel,by decide+kernel,by decide+kernel,by decide+kernel⟩
    (List.forall_mem_cons.mpr ⟨rfl,List.forall_mem_cons.mpr ⟨rfl,fun _ h=>nomatch h⟩⟩) (.cons ⟨1,rfl,rfl,rfl,rfl⟩ (.cons ⟨3,rfl,rfl,rfl,rfl⟩ .nil)) (fun us hl=>match us,hl with | [_,_],_=>rfl) (fun vs H Q E h=>?_) (fun A outer s H vs Q E hr h=>?_)
   ·obtain⟨x,v,c,rfl,_⟩:=h
    rfl
   ·obtain⟨S,vv,c,rfl,⟨pp,rfl,ep⟩,jr,hc,ev,kk⟩:=h
    have Kp:(["_law_room","_law_k","_law_machine_here","_law_wholes_here","_law_met","_law_one"]:List Str).Nodup:=by decide+kernel
    refine⟨_,ah (av (i:=4) Kp rfl (Or.inl rfl) (bz ag))
     (ah (bq PassesOwn.never rfl (fF (pv 0)) (az (i:=5) Kp rfl (Or.inr rfl))
      (au (bt (cf PySem.F.plainAttrs_list PySem.F.slot_list_extend PySem.F.type_list_extend kj (pv 4) (ae (cF (aI.mk' (N:=["_law_room","_law_k","_law_machine_here","_law_wholes_here","_law_met","_law_one"]) (own:=["_law_number"]) (aF:=["_law_one","_law_machine_here"]) (bJ:=[5,2]) rfl rfl (by rfl)) rfl (cb (aJ (bC K) (pv 3) (pv 1) (fun _ _=>rfl))) (fun _ _ _ _=>(az (i:=0) (show List.Nodup (["_law_number","_law_one","_law_machine_here"]:List Str) by decide+kernel) rfl (Or.inl rfl))) (fun _ _ _ _=>bU) (fun _ _ _ _=>(aJ (aO K) (aJ (aO K) (aJ (aO K) (pv 2) ao (fun _ _=>rfl)) (pv 1) (fun _ _=>rfl)) (pv 0) (fun _ _=>rfl)))) ag)))))
     (au (aR (aY (aX K) (by rfl) T.bS bB (ae (aA (uK rfl) (by rfl) T.pX nX (ae (aY (BK rfl) (by rfl) T.M4 II (ae (pv 4) ag)) ag)) ag))))),?_⟩
    obtain⟨wc,Uj,Oe⟩:=ev.ls.back (Ob hc)
    have ep':H pp=some (.tup ((ai S).map V.int)):=by rw[←o3];exact ep
    have lS:=sG jr
    refine ax fun Y hY=>?_
    refine⟨by decide,fun M hM=>?_⟩
    have sM:=Same.new (o:=.lst []) hM
    dsimp only[ay]
    subst hY
    refine ax fun Y hY=>?_
    refine⟨_,rfl,pp,rfl,⟨_,.of (sM _ _ ep')⟩,mJ (xs:=(ai S).map V.int) (fun i σ H'=>∃v5:Option V,σ=[some (.ref pp),some (.int (c:Nat)),some (.ref m),some (.ref W),some (.ref M),v5]∧Same H H'∧H' M=some (.lst ((ai (jn mv (S.take i) (cR b (ss.length-1) k c))).map V.int)))
     ⟨none,rfl,sM,af⟩ (fun i σ H' _ ⟨_,_,s,_⟩=>.of (s _ _ ep')) ?_ ?_⟩
    ·rintro i u σ H5 M1 wR hu ⟨v5,rfl,s5,e5⟩
     obtain⟨r,rfl,er⟩:=fv hu
     have hr':=jr.lt r (List.mem_of_getElem? er)
     have hi:=(List.getElem?_eq_some_iff.mp er).1
     obtain⟨r1,r2,r3⟩:=mo.row ev.mc.2.2.2.1 hr'
     dsimp only[ay]
     refine⟨_,rfl,.inl ⟨rfl,_,.of e5⟩,_,rfl,_,rfl,W,_,_,.ref wc,rfl,rfl,.of (s5 _ _ ev.w),aB (by rw[List.getElem?_map,Uj];rfl),wc,rfl,⟨_,.of (s5 _ _ Oe)⟩,fun C hC=>?_⟩
     have Ua:M≠C:=aq e5 hC
     refine dH (xs:=(ai (cR b (ss.length-1) k c)).map V.int) (fun j σ H'=>∃v0:Option V,σ=[v0,some (.int (r:Nat)),some (.ref m)]∧Same H5 H'∧H' C=some (.lst ((ai (((cR b (ss.length-1) k c).take j).map (stp mv r))).map V.int)))
      ⟨none,?sg,Same.new hC,af⟩ (fun j σ H' _ ⟨_,_,s,_⟩=>.of (s _ _ (s5 _ _ Oe))) ?_ ?_
     case sg=>rfl
     ·rintro j u σ H6 hu ⟨v0,rfl,s6,e6⟩
      obtain⟨d,rfl,ed⟩:=fv hu
      have hj:=(List.getElem?_eq_some_iff.mp ed).1
      rw[Ao] at hj
      have Kq:=s5.trans s6
      refine⟨_,rfl,m,_,_,.ref v,rfl,rfl,.of (Kq _ _ ev.mc.1),aB (j:=2) rfl,_,rfl,v,_,_,.ref (ps.getD r 0),rfl,rfl,.of (Kq _ _ ev.mc.2.2.1),aB (by rw[List.getElem?_map,r1];rfl),_,rfl,ps.getD r 0,_,_,.int (stp mv r d:Nat),rfl,rfl,.of (Kq _ _ r2),aB (dy (by rw[r3];exact Kl (List.mem_of_getElem? ed))),_,e6,by rw[List.length_map,aD,List.length_map,List.length_take];omega,some (.int (d:Nat)),rfl,s6.kbn hC KB.write,?_⟩
      rw[af,take_snoc ed,List.map_append,bj,List.map_append];rfl
     rintro σ H6 ⟨v0,rfl,s6,e6⟩
     rw[List.length_map,aD,List.take_length] at e6
     have lU:=s6 _ _ e5
     refine⟨M,C,_,_,rfl,rfl,lU,e6,?_,wR _ _ ⟨some (.int (r:Nat)),rfl,(s5.trans s6).kbn hM KB.write,?_⟩⟩
     ·rw[List.length_map,aD,List.length_map,aD,List.length_map,p6,Ao,List.length_take]
      have:=Nat.mul_le_mul (show min i S.length≤62 by omega) hb4
      omega
     ·rw[af,take_snoc er,CY,bj,List.map_append]
    ·rintro σ H5 ⟨v5,rfl,s5,e5⟩
     rw[List.length_map,aD,List.take_length] at e5
     subst hY
     have lm:(jn mv S (cR b (ss.length-1) k c)).length≤248:=by
      rw[p6,Ao]
      exact Nat.mul_le_mul (show S.length≤62 by omega) hb4
     refine⟨_,rfl,M,ai (jn mv S (cR b (ss.length-1) k c)),rfl,.of e5,by rw[aD,←Ue];omega,fun St ks hSt Og mk lk=>?_⟩
     have sS:=Same.new (o:=qK P w St ks) hSt
     have mem:∀t,t∈jn mv S (cR b (ss.length-1) k c)↔t∈fL mv bs.length S ((bA b ss (oth ss x)).getD c []):=fun t=>by
      rw[EH,iJ]
      constructor
      ·rintro⟨r,hr,d,hd,rfl⟩
       exact⟨mo.stp (jr.lt r hr) (Kl hd),r,hr,d,(oP hb2 CZ hx hc).mp hd,rfl⟩
      ·rintro⟨_,r,hr,d,hd,rfl⟩
       exact⟨r,hr,d,(oP hb2 CZ hx hc).mpr hd,rfl⟩
     have Wz:ks.length≤62:=by
      have:=List.Nodup.length_le_of_subset (l₂:=ai (List.range bs.length)) Og fun y hy=>by
       obtain⟨t,ht,rfl⟩:=List.mem_map.mp ((mk y).mp hy)
       exact List.mem_map.mpr ⟨t,List.mem_range.mpr (iJ.mp ((mem t).mp ht)).1,rfl⟩
      rw[aD,List.length_range] at this
      omega
     refine⟨St,ks,rfl,af,by omega,fun L ns hL pm FN=>?_⟩
     have en':=HH Og mk mem pm FN
     subst en'
     have sL:=Same.new (o:=.lst ((ai (fL mv bs.length S ((bA b ss (oth ss x)).getD c []))).map V.int)) hL
     refine⟨L,_,rfl,.inl ⟨.of af,fun t ht=>?_⟩⟩
     have sT:=Same.new (o:=.tup ((ai (fL mv bs.length S ((bA b ss (oth ss x)).getD c []))).map V.int)) ht
     exact kk (.ref t) _ (((s5.trans sS).trans sL).trans sT) ⟨t,rfl,by rw[o3];exact af⟩
  have jr:∀S c,gm bs.length S→c<b ^ (ss.length-1)→gm bs.length (kd b ss x bs mv S c):=fun S c _ _=>jH _ _ _ _
  have ktu:a_ H4 (cL [f,c'] H4):=fun b xs z=>gF hD z (fun _ y=>nomatch y)
  have N5:b ^ (ss.length-1)≤256:=cp hb4 (by omega)
  refine⟨_,Aj (k:=1) T j0 F1 jr (fun H H' e s=>e.same s),?_⟩
  have Oh:∀l:List (List Nat),l.Nodup→(∀S∈l,∃w,cN (b ^ (ss.length-1)) w∧S=dD (kd b ss x bs mv) [0] w)→l.length≤bd:=fun l nd hl=>few l nd (by unfold i';rw[ol];exact hl)
  refine⟨[0],.ref z,2000,bd,rfl,⟨z,rfl,ktu _ _ ez⟩,eU p0,FR.cL hD,Oh,hbd,by omega,by omega,fun xs mv' vs p Rr va ps' H5 s5 wQ hl gr ep eR rp Uk tp n5=>?_⟩
  have s6:=iZ s5
  have o5:∀{b:Addr} {o:HO},H5 b=some o→fB [f,c'] H4 H5 b=some o:=fun {b o} e=>by
   rw[dC fun z=>?_]
   ·exact e
   ·rw[n5 b z] at e;cases e
  have nR:Rr ∉ [f,c']:=fun z=>by rw[n5 Rr z] at eR;cases eR
  have C_:H4 Rr=none:=by rw[eZ nR] at wQ;exact wQ
  have oE:a_ H5 (fB [f,c'] H4 H5):=fun b xs z=>o5 z
  have Oi:=o5 ep
  have nA:=o5 eR
  have FL:=o5 Uk
  have C0:=tp.keep oE
  have oH:=rp.keep oE
  generalize fB [f,c'] H4 H5=H6 at s6 Oi nA FL C0 oH ⊢
  have lx:xs.length≤bd:=Oh xs gr.once gr.reach
  have wL:vs.length=xs.length:=Paired.length oH
  have Ul:=s6 _ _ Od
  have okx:∀S∈xs,gm bs.length S:=fun S hS=>by
   obtain⟨w',_,rfl⟩:=gr.reach S hS
   exact o6 (B:=0) (eU p0)
  refine⟨p,_,rfl,.of Oi,rfl,_,_,rfl,_,_,rfl,rfl,?_⟩
  dsimp only[ay]
  subst hY
  refine ax fun Y hY=>?_
  refine⟨_,rfl,Rr,rfl,⟨_,.of nA⟩,fun C hC=>?_⟩
  have Kr:∀r,r<bs.length→decide (r∈gs)=(mW bs mv ((bA b ss (oth ss x)).getD 0 [])).getD r false:=fun r hr=>by
   rw[Bool.eq_iff_iff,decide_eq_true_iff,hgs r,yS hr]
   have wo:∀c,c∈cR b (ss.length-1) k 0↔c∈(bA b ss (oth ss x)).getD 0 []:=fun c=>oP hb2 CZ hx pB
   constructor
   ·rintro⟨_,zz,h1,h2⟩
    exact⟨zz,fun c hc=>(wo c).mp (h1 c hc),h2⟩
   ·rintro⟨zz,h1,h2⟩
    exact⟨hr,zz,fun c hc=>(wo c).mpr (h1 c hc),h2⟩
  refine dH (xs:=vs) (fun i σ H'=>∃v0:Option V,σ=[v0,some (.ref G)]∧Same H6 H'∧H' C=some (.lst (((xs.take i).map (jk b ss x bs mv)).map V.bl)))
   ⟨none,?sg,Same.new hC,af⟩ (fun i σ H' _ ⟨_,_,s,_⟩=>.of (s _ _ nA)) ?_ ?_
  case sg=>rfl
  ·rintro i u σ H7 hu ⟨v0,rfl,s7,c7⟩
   obtain⟨S,hS,pp,rfl,Um⟩:=cZ oH hu
   have hi:=(List.getElem?_eq_some_iff.mp hS).1
   have ok:=okx S (List.mem_of_getElem? hS)
   have lS:=sG ok
   have Ks:H7 pp=some (.tup ((ai S).map V.int)):=by rw[←o3];exact s7 _ _ Um
   refine⟨_,rfl,pp,rfl,⟨_,.of Ks⟩,fun C2 Oj=>?_⟩
   refine iu (xs:=(ai S).map V.int) (fun j σ H'=>∃v0:Option V,σ=[v0,some (.ref G)]∧Same H7 H'∧H' C2=some (.lst (((S.take j).map fun r=>decide (r∈gs)).map V.bl)))
    ⟨none,?sg2,Same.new Oj,af⟩ (fun j σ H' _ ⟨_,_,s,_⟩=>.of (s _ _ Ks)) ?_ ?_
   case sg2=>rfl
   ·rintro j u σ H8 hu ⟨v0,rfl,s8,c8⟩
    obtain⟨r,rfl,er⟩:=fv hu
    have hj:=(List.getElem?_eq_some_iff.mp er).1
    refine⟨_,rfl,_,rfl,G,_,rfl,.inl (.of (s8 _ _ (s7 _ _ Ul))),rfl,sy _,_,c8,by rw[List.length_map,List.length_map,List.length_take];omega,some (.int (r:Nat)),rfl,s8.kbn Oj KB.write,?_⟩
    rw[if_neg (by decide),mX,af,take_snoc er,List.map_append,List.map_append];rfl
   rintro σ H8 ⟨v0,rfl,s8,c8⟩
   rw[List.length_map,aD,List.take_length] at c8
   have Uo:=s7.trans s8
   refine⟨C2,_,rfl,.of c8,_,s8 _ _ c7,by rw[List.length_map,List.length_map,List.length_take];omega,some (.ref pp),rfl,Uo.kbn hC KB.write,?_⟩
   rw[af,take_snoc hS,List.map_append,List.map_append,List.any_map]
   refine congrArg (fun b=>some (HO.lst (_++[V.bl b]))) ?_
   show S.any (id∘fun r=>decide (r∈gs))=S.any fun r=>(mW bs mv ((bA b ss (oth ss x)).getD 0 [])).getD r false
   rw[Bool.eq_iff_iff,List.any_eq_true,List.any_eq_true]
   constructor
   ·rintro⟨r,hr,e⟩;exact⟨r,hr,(Kr r (ok.lt r hr))▸e⟩
   ·rintro⟨r,hr,e⟩;exact⟨r,hr,by show decide (r∈gs)=true;rw[Kr r (ok.lt r hr)];exact e⟩
  rintro σ H7 ⟨v0,rfl,s7,c7⟩
  rw[wL,List.take_length] at c7
  have k7:KX a H H7:=k4.trans (KX.same (s6.trans s7))
  have uA:=qY.same (s6.trans s7)
  dsimp only[ay]
  subst hY
  have Uq:=k7.kt _ _ a1
  have en':=k7.kt _ _ en
  refine⟨_,rfl,_,rfl,m,_,_,.ref nm,rfl,rfl,.of Uq,aB (j:=0) rfl,nm,rfl,⟨_,.of en'⟩,fun C3 Ol=>?_⟩
  refine iu (xs:=ss.map V.str) (fun j σ H'=>∃v0:Option V,σ=[v0,some (.str x)]∧Same H7 H'∧H' C3=some (.lst ((oth (ss.take j) x).map V.str)))
   ⟨none,?Ur,Same.new Ol,af⟩ (fun j σ H' _ ⟨_,_,s,_⟩=>.of (s _ _ en')) ?_ ?_
  case Ur=>rfl
  ·rintro j u σ H8 hu ⟨v0,rfl,s8,c8⟩
   obtain⟨t,rfl,et⟩:=yK hu
   have hj:=(List.getElem?_eq_some_iff.mp et).1
   refine⟨_,rfl,_,rfl,rfl,_,rfl,?_⟩
   by_cases e:V.str t=V.str x
   ·rw[decide_eq_true e]
    refine cm ?_
    exact⟨some (.str t),rfl,s8,by rw[take_snoc et,xU (ss:=ss) e];exact c8⟩
   ·rw[decide_eq_false e]
    refine fA ?_
    refine⟨_,rfl,_,c8,?_,some (.str t),rfl,s8.kbn Ol KB.write,?_⟩
    ·have:=lW (ss.take j) x
     rw[List.length_take] at this
     rw[List.length_map];omega
    ·rw[af,take_snoc et,xf e,List.map_append];rfl
  rintro σ H8 ⟨v0,rfl,s8,c8⟩
  rw[List.length_map,List.take_length] at c8
  have Us:=s8 _ _ c7
  refine⟨C3,_,rfl,.inl ⟨.of c8,fun N hN=>?_⟩⟩
  have sN:=Same.new (o:=.tup ((oth ss x).map V.str)) hN
  refine⟨_,rfl,C,_,rfl,.inl ⟨.of (sN _ _ Us),fun Yy Ut=>?_⟩⟩
  have sY:=Same.new (o:=.tup ((xs.map (jk b ss x bs mv)).map V.bl)) Ut
  refine⟨_,rfl,by show 3≤sizeLine;decide,fun t ht=>⟨by show 2≤sizeLine;decide,fun pr hpr=>?_⟩⟩
  have sT:=Same.new (o:=.tup [.ref N,.ref Yy,.ref va]) ht
  have sP:=Same.new (o:=.tup [.ref Rr,.ref t]) hpr
  have s9:=(((s8.trans sN).trans sY).trans sT).trans sP
  have FT:=s7.trans s9
  refine q pr Rr t N Yy va vs ps' xs mv' _ (k7.trans (KX.same s9)) (uA.same s9) (fun o e=>?_) af (sP _ _ af) (((sY.trans sT).trans sP) _ _ af) ((sT.trans sP) _ _ af) (FT _ _ FL) (C0.keep FT.kt) (FT _ _ nA) (oH.keep FT.kt) hl lx (by rw[ol];exact gr)
  by_cases z:∃qs,o=.dZ qs
  ·exact z
  ·have:=k4 _ _ e fun qs y=>z ⟨qs,y⟩
   rw[this] at C_;cases C_
end
end My
namespace My
open PySem L2
def gc (f M r:Nat):Nat:=if f=0 then 0 else if f=1 then r else M
def fE (f M B c r:Nat):List Nat:=(List.replicate B (gc f M r)).set c (r+1)
structure ke (f M B:Nat) (cs:Nat→Nat) (mv:List (List Nat)):Prop where
 len:mv.length=M+1
 low:∀r,r<M-1→mv[r]? =some (fE f M B (cs r) r)
 last:mv[M-1]? =some (List.replicate B (M-1))
 dead:mv[M]? =some (List.replicate B M)
def cbs (M:Nat):List Bool:=(List.range (M+1)).map fun r=>decide (r=M-1)
theorem pe (M:Nat):(cbs M).length=M+1:=by unfold cbs;rw[List.length_map,List.length_range]
theorem Kt {f M r:Nat} (hr:r≤M):gc f M r≤M:=by
 unfold gc
 split
 ·omega
 ·split<;>omega
section
variable {f M B:Nat} {cs:Nat→Nat} {mv:List (List Nat)}
theorem ke.rows (c:ke f M B cs mv) (hM:8≤M) {r:Nat} (hr:r<M+1):∃row,mv[r]? =some row∧row.length=B∧∀x∈row,x<M+1:=by
 by_cases h:r<M-1
 ·refine⟨_,c.low r h,by unfold fE;rw[List.length_set,List.length_replicate],fun x hx=>?_⟩
  unfold fE at hx
  rcases List.mem_or_eq_of_mem_set hx with z | z
  ·have:=List.eq_of_mem_replicate z
   have:=Kt (f:=f) (M:=M) (r:=r) (by omega)
   omega
  ·omega
 ·rcases Nat.lt_or_ge r M with z | z
  ·obtain rfl:r=M-1:=by omega
   refine⟨_,c.last,List.length_replicate,fun x hx=>?_⟩
   have:=List.eq_of_mem_replicate hx
   omega
  ·obtain rfl:r=M:=by omega
   refine⟨_,c.dead,List.length_replicate,fun x hx=>?_⟩
   have:=List.eq_of_mem_replicate hx
   omega
theorem ke.moves (c:ke f M B cs mv) (hM:8≤M):Moves (M+1) B mv:=⟨c.len,fun l hl=>by
 obtain⟨i,hi,rfl⟩:=List.mem_iff_getElem.mp hl
 obtain⟨row,e,h1,h2⟩:=c.rows hM (r:=i) (by rw[←c.len];exact hi)
 rw[List.getElem?_eq_getElem hi] at e
 cases e
 exact⟨h1,h2⟩⟩
theorem ke.ml (c:ke f M B cs mv) {r l:Nat} (hr:r<M-1) (hc:cs r<B) (hl:l<B):stp mv r l=if l=cs r then r+1 else gc f M r:=by
 unfold stp
 rw[show mv.getD r []=fE f M B (cs r) r by rw[List.getD_eq_getElem?_getD,c.low r hr];rfl]
 unfold fE
 rw[List.getD_eq_getElem?_getD]
 by_cases e:l=cs r
 ·rw[if_pos e,e,List.getElem?_set_self (by rw[List.length_replicate];exact hc)];rfl
 ·rw[if_neg e,List.getElem?_set_ne (Ne.symm e),List.getElem?_replicate,if_pos hl];rfl
theorem ke.mY (c:ke f M B cs mv) (hM:8≤M) {r l:Nat} (h1:M-1≤r) (h2:r≤M) (hl:l<B):stp mv r l=r:=by
 have:mv[r]? =some (List.replicate B r):=by
  rcases Nat.lt_or_ge r M with z | z
  ·obtain rfl:r=M-1:=by omega
   exact c.last
  ·obtain rfl:r=M:=by omega
   exact c.dead
 unfold stp
 rw[show mv.getD r []=List.replicate B r by rw[List.getD_eq_getElem?_getD,this];rfl]
 rw[List.getD_eq_getElem?_getD,List.getElem?_replicate,if_pos hl];rfl
def js (f M k:Nat) (a:Bool) (t:Nat):Prop:=if f=0 then t≤k∨(a=true∧t=M-1) else if f=1 then t≤k else t=k∨(a=true∧t=M)
def p7 (f M:Nat) (S:List Nat):Prop:=∃k a,k≤M∧(f<2→k<M)∧∀t,t∈S↔js f M k a t
theorem ke.away (c:ke f M B cs mv) (hf:f<3) (hM:8≤M) (hc:∀r,r<M-1→cs r<B) {S ls:List Nat} (hS:p7 f M S) (hl:∀l∈ls,l<B) (h0:ls≠[]) (ha:∀l∈ls,∀r,r<M-1→l≠cs r):p7 f M (fL mv (M+1) S ls):=by
 obtain⟨k,a,hk,hk2,hm⟩:=hS
 obtain⟨l0,hl0⟩:=List.exists_mem_of_ne_nil ls h0
 have e:∀t,t∈fL mv (M+1) S ls↔t<M+1∧∃r,js f M k a r∧((r<M-1∧t=gc f M r)∨(M-1≤r∧r≤M∧t=r)):=fun t=>by
  rw[iJ]
  refine and_congr_right fun ht=>⟨?_,?_⟩
  ·rintro⟨r,hr,l,hl',e⟩
   have C1:r≤M:=by
    have:=(hm r).mp hr
    unfold js at this
    split at this
    ·omega
    ·split at this<;>omega
   refine⟨r,(hm r).mp hr,?_⟩
   by_cases h:r<M-1
   ·rw[c.ml h (hc r h) (hl l hl'),if_neg (ha l hl' r h)] at e
    exact .inl ⟨h,e.symm⟩
   ·rw[c.mY hM (by omega) C1 (hl l hl')] at e
    exact .inr ⟨by omega,C1,e.symm⟩
  ·rintro⟨r,hr,⟨h,e⟩ | ⟨h,h',e⟩⟩
   ·exact⟨r,(hm r).mpr hr,l0,hl0,by rw[c.ml h (hc r h) (hl l0 hl0),if_neg (ha l0 hl0 r h),e]⟩
   ·exact⟨r,(hm r).mpr hr,l0,hl0,by rw[c.mY hM h h' (hl l0 hl0),e]⟩
 rcases(show f=0∨f=1∨f=2 by omega) with rfl | rfl | rfl
 ·refine⟨0,a||decide (k=M-1),by omega,fun _=>by omega,fun t=>?_⟩
  rw[e]
  simp only[js,gc,if_true,Bool.or_eq_true,decide_eq_true_eq]
  have:=hk2 (by decide)
  constructor
  ·rintro⟨_,r,h1,h2⟩
   rcases h2 with⟨h2,h3⟩ | ⟨h2,h3,h4⟩
   ·exact .inl (by omega)
   ·rcases h1 with h1 | ⟨h1,h1'⟩
    ·exact .inr ⟨.inr (by omega),by omega⟩
    ·exact .inr ⟨.inl h1,by omega⟩
  ·intro h
   refine⟨by omega,?_⟩
   rcases h with h | ⟨h,h'⟩
   ·exact⟨0,.inl (Nat.zero_le _),.inl ⟨by omega,by omega⟩⟩
   ·exact⟨M-1,by rcases h with h | h;exact .inr ⟨h,rfl⟩;exact .inl (by omega),.inr ⟨by omega,by omega,h'⟩⟩
 ·refine⟨k,a,hk,hk2,fun t=>?_⟩
  rw[e]
  simp only[js,gc,if_true,show ¬(1:Nat)=0 by decide,if_false]
  have:=hk2 (by decide)
  constructor
  ·rintro⟨_,r,h1,h2⟩;omega
  ·intro h
   refine⟨by omega,t,h,?_⟩
   omega
 ·by_cases h:k<M-1
  ·refine⟨M,true,by omega,fun z=>absurd z (by omega),fun t=>?_⟩
   rw[e]
   simp only[js,gc,show ¬(2:Nat)=0 by decide,show ¬(2:Nat)=1 by decide,if_false]
   constructor
   ·rintro⟨_,r,h1,h2⟩;simp only[true_and];omega
   ·intro h'
    simp only[true_and] at h'
    exact⟨by omega,k,.inl rfl,.inl ⟨h,by omega⟩⟩
  ·refine⟨k,a,hk,hk2,fun t=>?_⟩
   rw[e]
   simp only[js,gc,show ¬(2:Nat)=0 by decide,show ¬(2:Nat)=1 by decide,if_false]
   constructor
   ·rintro⟨_,r,h1,h2⟩
    rcases h1 with h1 | ⟨h1,h1'⟩
    ·exact .inl (by omega)
    ·exact .inr ⟨h1,by omega⟩
   ·intro h'
    refine⟨by omega,t,h',.inr ⟨by omega,by omega,rfl⟩⟩
theorem ke.along (c:ke f M B cs mv) (hf:f<3) (hM:8≤M) (hc:∀r,r<M-1→cs r<B) {S ls:List Nat} (hS:p7 f M S) (hl:∀l∈ls,l<B) (h0:ls≠[]) (ha:∀r,r<M-1→cs r∈ls) (hb:∀r,r<M-1→∃l∈ls,l≠cs r):p7 f M (fL mv (M+1) S ls):=by
 obtain⟨k,a,hk,hk2,hm⟩:=hS
 obtain⟨l0,hl0⟩:=List.exists_mem_of_ne_nil ls h0
 have e:∀t,t∈fL mv (M+1) S ls↔t<M+1∧∃r,js f M k a r∧((r<M-1∧(t=r+1∨t=gc f M r))∨(M-1≤r∧r≤M∧t=r)):=fun t=>by
  rw[iJ]
  refine and_congr_right fun ht=>⟨?_,?_⟩
  ·rintro⟨r,hr,l,hl',e⟩
   have C1:r≤M:=by
    have:=(hm r).mp hr
    unfold js at this
    split at this
    ·omega
    ·split at this<;>omega
   refine⟨r,(hm r).mp hr,?_⟩
   by_cases h:r<M-1
   ·rw[c.ml h (hc r h) (hl l hl')] at e
    refine .inl ⟨h,?_⟩
    split at e
    ·exact .inl e.symm
    ·exact .inr e.symm
   ·rw[c.mY hM (by omega) C1 (hl l hl')] at e
    exact .inr ⟨by omega,C1,e.symm⟩
  ·rintro⟨r,hr,⟨h,e | e⟩ | ⟨h,h',e⟩⟩
   ·exact⟨r,(hm r).mpr hr,cs r,ha r h,by rw[c.ml h (hc r h) (hc r h),if_pos rfl,e]⟩
   ·obtain⟨l,h1,h2⟩:=hb r h
    exact⟨r,(hm r).mpr hr,l,h1,by rw[c.ml h (hc r h) (hl l h1),if_neg h2,e]⟩
   ·exact⟨r,(hm r).mpr hr,l0,hl0,by rw[c.mY hM h h' (hl l0 hl0),e]⟩
 rcases(show f=0∨f=1∨f=2 by omega) with rfl | rfl | rfl
 ·refine⟨min (k+1) (M-1),a,by omega,fun _=>by omega,fun t=>?_⟩
  rw[e]
  simp only[js,gc,if_true]
  have:=hk2 (by decide)
  constructor
  ·rintro⟨_,r,h1,h2⟩
   rcases h1 with h1 | ⟨h1,h1'⟩
   ·exact .inl (by omega)
   ·exact .inr ⟨h1,by omega⟩
  ·intro h
   refine⟨by omega,?_⟩
   rcases h with h | ⟨h,h'⟩
   ·rcases Nat.eq_zero_or_pos t with z | z
    ·exact⟨0,.inl (Nat.zero_le _),.inl ⟨by omega,.inr z⟩⟩
    ·exact⟨t-1,.inl (by omega),.inl ⟨by omega,.inl (by omega)⟩⟩
   ·exact⟨M-1,.inr ⟨h,rfl⟩,.inr ⟨by omega,by omega,h'⟩⟩
 ·refine⟨min (k+1) (M-1),a,by omega,fun _=>by omega,fun t=>?_⟩
  rw[e]
  simp only[js,gc,if_true,show ¬(1:Nat)=0 by decide,if_false]
  have:=hk2 (by decide)
  constructor
  ·rintro⟨_,r,h1,h2⟩;omega
  ·intro h
   refine⟨by omega,?_⟩
   by_cases z:t≤k
   ·exact⟨t,z,by omega⟩
   ·exact⟨k,Nat.le_refl _,.inl ⟨by omega,.inl (by omega)⟩⟩
 ·by_cases h:k<M-1
  ·refine⟨k+1,true,by omega,fun z=>absurd z (by omega),fun t=>?_⟩
   rw[e]
   simp only[js,gc,show ¬(2:Nat)=0 by decide,show ¬(2:Nat)=1 by decide,if_false]
   constructor
   ·rintro⟨_,r,h1,h2⟩;simp only[true_and];omega
   ·intro h'
    simp only[true_and] at h'
    exact⟨by omega,k,.inl rfl,.inl ⟨h,by omega⟩⟩
  ·refine⟨k,a,hk,hk2,fun t=>?_⟩
   rw[e]
   simp only[js,gc,show ¬(2:Nat)=0 by decide,show ¬(2:Nat)=1 by decide,if_false]
   constructor
   ·rintro⟨_,r,h1,h2⟩
    rcases h1 with h1 | ⟨h1,h1'⟩
    ·exact .inl (by omega)
    ·exact .inr ⟨h1,by omega⟩
   ·intro h'
    refine⟨by omega,t,h',.inr ⟨by omega,by omega,rfl⟩⟩
end
theorem sI {n:Nat} {S S':List Nat} (h:gm n S) (h':gm n S') (e:∀t,t∈S↔t∈S'):S=S':=by
 obtain⟨p,rfl⟩:=h
 obtain⟨q,rfl⟩:=h'
 refine List.filter_congr fun t ht=>?_
 have:=e t
 rw[List.mem_filter,List.mem_filter] at this
 rw[Bool.eq_iff_iff]
 exact⟨fun z=>(this.mp ⟨ht,z⟩).2,fun z=>(this.mpr ⟨ht,z⟩).2⟩
open Classical in
theorem HI {f M:Nat} {l:List (List Nat)} (nd:l.Nodup) (h:∀S∈l,gm (M+1) S∧p7 f M S):l.length≤2*(M+1):=by
 have len:((List.range (M+1)).flatMap fun k=>[true,false].map fun a=>(List.range (M+1)).filter fun t=>decide (js f M k a t)).length=2*(M+1):=by
  rw[List.length_flatMap]
  have:(List.range (M+1)).map (fun k=>([true,false].map fun a=>(List.range (M+1)).filter fun t=>decide (js f M k a t)).length)=List.replicate (M+1) 2:=by
   rw[List.eq_replicate_iff]
   exact⟨by rw[List.length_map,List.length_range],fun x hx=>by obtain⟨i,_,rfl⟩:=List.mem_map.mp hx;rfl⟩
  rw[this,List.sum_replicate_nat];omega
 rw[←len]
 refine List.Nodup.length_le_of_subset nd fun S hS=>?_
 obtain⟨ok,k,a,hk,_,hm⟩:=h S hS
 refine List.mem_flatMap.mpr ⟨k,List.mem_range.mpr (by omega),List.mem_map.mpr ⟨a,by cases a<;>simp,?_⟩⟩
 refine sI ⟨_,rfl⟩ ok fun t=>?_
 rw[List.mem_filter,List.mem_range,hm,decide_eq_true_eq]
 refine⟨And.right,fun z=>⟨ok.lt t ((hm t).mpr z),z⟩⟩
theorem C4 {b:Nat} (hb:2≤b) {ss:List Str} {k:Nat} {x:Str} (nd:ss.Nodup) (hx:ss[k]? =some x) {f M:Nat} {cs:Nat→Nat} {mv:List (List Nat)} (c:ke f M (b ^ ss.length) cs mv) (hf:f<3) (hM:8≤M) (hc:∀r,r<M-1→cs r<b ^ ss.length∧own b ss (oth ss x) (cs r)=0)
  (two:∀l,l<b ^ ss.length→own b ss (oth ss x) l=0→∃l',l'<b ^ ss.length∧own b ss (oth ss x) l'=0∧l'≠l) (all:∀o,o<b ^ (oth ss x).length→∃l,l<b ^ ss.length∧own b ss (oth ss x) l=o)
  {l:List (List Nat)} (CW:l.Nodup) (h:∀S∈l,∃w,cN (b ^ (oth ss x).length) w∧S=dD (yQ mv (cbs M).length (bA b ss (oth ss x))) [0] w):l.length≤2*(M+1):=by
 have hc1:∀r,r<M-1→cs r<b ^ ss.length:=fun r hr=>(hc r hr).1
 have step:∀(w:List Nat) (S:List Nat),gm (M+1) S→p7 f M S→cN (b ^ (oth ss x).length) w→gm (M+1) (dD (yQ mv (M+1) (bA b ss (oth ss x))) S w)∧p7 f M (dD (yQ mv (M+1) (bA b ss (oth ss x))) S w):=fun w=>by
  induction w with
  | nil=>exact fun S h1 h2 _=>⟨h1,h2⟩
  | cons o w ih=>
   intro S h1 h2 hw
   have ho:=hw o List.mem_cons_self
   refine ih _ (jH _ _ _ _) ?_ fun y hy=>hw y (List.mem_cons_of_mem _ hy)
   have mem:∀l,l∈(bA b ss (oth ss x)).getD o []↔l<b ^ ss.length∧own b ss (oth ss x) l=o:=fun l=>w8 ho
   obtain⟨l1,hl1,el1⟩:=all o ho
   have ne:(bA b ss (oth ss x)).getD o []≠[]:=fun z=>by
    have:=(mem l1).mpr ⟨hl1,el1⟩
    rw[z] at this
    cases this
   by_cases z:o=0
   ·subst z
    exact c.along hf hM hc1 h2 (fun l hl=>((mem l).mp hl).1) ne (fun r hr=>(mem _).mpr (hc r hr)) fun r hr=>by
     obtain⟨l',a1,a2,a3⟩:=two (cs r) (hc1 r hr) (hc r hr).2
     exact⟨l',(mem l').mpr ⟨a1,a2⟩,a3⟩
   ·exact c.away hf hM hc1 h2 (fun l hl=>((mem l).mp hl).1) ne fun l hl r hr e=>z (by rw[←((mem l).mp hl).2,e];exact(hc r hr).2)
 refine HI (f:=f) CW fun S hS=>?_
 obtain⟨w,hw,rfl⟩:=h S hS
 rw[pe]
 refine step w [0] (eU (by omega)) ⟨0,false,by omega,fun _=>by omega,fun t=>?_⟩ hw
 rw[List.mem_singleton]
 unfold js
 rcases(show f=0∨f=1∨f=2 by omega) with rfl | rfl | rfl<;>simp
theorem EJ {b:Nat} (hb:2≤b) {ss:List Str} {k:Nat} {x:Str} (nd:ss.Nodup) (hx:ss[k]? =some x):∀l,l<b ^ ss.length→own b ss (oth ss x) l=0→∃l',l'<b ^ ss.length∧own b ss (oth ss x) l'=0∧l'≠l:=fun l hl h0=>by
 have hk:=(List.getElem?_eq_some_iff.mp hx).1
 have hz:∀d∈List.replicate (ss.length-1) 0,d<b:=fun d hd=>by rw[List.eq_of_mem_replicate hd];omega
 have lz:(List.replicate (ss.length-1) 0).length+1=ss.length:=by rw[List.length_replicate];omega
 have z0:lst b 0 (List.replicate (ss.length-1) 0)=0:=p_ _ fun d hd=>List.eq_of_mem_replicate hd
 obtain⟨f,hf,e⟩:=xa (by omega) nd hx lz hz hl (by rw[h0,z0])
 have mk:∀g,g<b→lst b 0 (ins k g (List.replicate (ss.length-1) 0))<b ^ ss.length∧own b ss (oth ss x) (lst b 0 (ins k g (List.replicate (ss.length-1) 0)))=0:=fun g hg=>by
  refine⟨?_,by rw[o9 nd hx lz hg hz,z0]⟩
  have:=mj (b:=b) (ds:=ins k g (List.replicate (ss.length-1) 0)) fun d hd=>(iN.mp hd).elim (fun e=>e▸hg) (hz d)
  rwa [iM,lz] at this
 have inj:∀g,g<b→lst b 0 (ins k g (List.replicate (ss.length-1) 0))=l→g=f:=fun g hg eg=>by
  have h1:=mh (b:=b) (ds:=ins k g (List.replicate (ss.length-1) 0)) fun d hd=>(iN.mp hd).elim (fun e=>e▸hg) (hz d)
  have h2:=mh (b:=b) (ds:=ins k f (List.replicate (ss.length-1) 0)) fun d hd=>(iN.mp hd).elim (fun e=>e▸hf) (hz d)
  rw[eg,e,iM] at h1
  rw[iM] at h2
  rw[h2] at h1
  have:=congrArg (fun z=>z[k]?) h1
  unfold ins at this
  have lk:((List.replicate (ss.length-1) 0).take k).length=k:=by rw[List.length_take,List.length_replicate];omega
  simp only[List.getElem?_append_right (Nat.le_of_eq lk),lk,Nat.sub_self,List.getElem?_cons_zero,Option.some.injEq] at this
  exact this.symm
 by_cases g:f=0
 ·exact⟨_,(mk 1 (by omega)).1,(mk 1 (by omega)).2,fun z=>by have:=inj 1 (by omega) z;omega⟩
 ·exact⟨_,(mk 0 (by omega)).1,(mk 0 (by omega)).2,fun z=>g (inj 0 (by omega) z).symm⟩
theorem HJ {b:Nat} (hb:2≤b) {ss:List Str} {k:Nat} {x:Str} (nd:ss.Nodup) (hx:ss[k]? =some x):∀o,o<b ^ (oth ss x).length→∃l,l<b ^ ss.length∧own b ss (oth ss x) l=o:=fun o ho=>by
 have hk:=(List.getElem?_eq_some_iff.mp hx).1
 have lo:(oth ss x).length+1=ss.length:=by rw[o8 nd hx];exact o7 hk
 have hd:=mS (b:=b) (by omega) (oth ss x).length o
 have ld:(fl b (oth ss x).length o).length+1=ss.length:=by rw[fq];exact lo
 refine⟨lst b 0 (ins k 0 (fl b (oth ss x).length o)),?_,?_⟩
 ·have:=mj (b:=b) (ds:=ins k 0 (fl b (oth ss x).length o)) fun d hd'=>(iN.mp hd').elim (fun e=>by omega) (hd d)
  rwa [iM,ld] at this
 ·rw[o9 nd hx ld (by omega) hd,rb (by omega) _ _ ho]
theorem C5 {b:Nat}:∀(n k f:Nat),k≤n→lst b 0 (ins k f (List.replicate n 0))=f*b ^ (n-k):=by
 have z:∀(m acc:Nat),lst b acc (List.replicate m 0)=acc*b ^ m:=fun m=>by
  induction m with
  | zero=>intro acc;show acc=_;rw[Nat.pow_zero,Nat.mul_one]
  | succ m ih=>intro acc;rw[List.replicate_succ,j8,ih,Nat.add_zero,Nat.pow_succ,Nat.mul_assoc,Nat.mul_comm b]
 intro n k f hk
 unfold ins
 have a1:∀(xs ys:List Nat) (acc:Nat),lst b acc (xs++ys)=lst b (lst b acc xs) ys:=fun xs ys acc=>by unfold lst;rw[List.foldl_append]
 rw[List.take_replicate,List.drop_replicate,a1,z,Nat.zero_mul,j8,z,Nat.zero_mul,Nat.zero_add]
theorem C6 {b:Nat} (hb:2≤b) {ss:List Str} {k f:Nat} {x:Str} (nd:ss.Nodup) (hx:ss[k]? =some x) (hf:f<b):f*b ^ (ss.length-1-k)<b ^ ss.length∧own b ss (oth ss x) (f*b ^ (ss.length-1-k))=0:=by
 have hk:=(List.getElem?_eq_some_iff.mp hx).1
 have hz:∀d∈List.replicate (ss.length-1) 0,d<b:=fun d hd=>by rw[List.eq_of_mem_replicate hd];omega
 have lz:(List.replicate (ss.length-1) 0).length+1=ss.length:=by rw[List.length_replicate];omega
 rw[←C5 (ss.length-1) k f (by omega)]
 refine⟨?_,?_⟩
 ·have:=mj (b:=b) (ds:=ins k f (List.replicate (ss.length-1) 0)) fun d hd=>(iN.mp hd).elim (fun e=>e▸hf) (hz d)
  rwa [iM,lz] at this
 ·rw[o9 nd hx lz hf hz]
  exact p_ _ fun d hd=>List.eq_of_mem_replicate hd
end My
namespace My
open PySem L2
section
variable {α:Type} {x0:α} {on:α→Nat→α} {m:Nat}
theorem xh {xs:List α} (nd:xs.Nodup) {i j:Nat} {x:α} (h:xs[i]? =some x) (g:xs[j]? =some x):i=j:=by
 obtain⟨hi,e⟩:=List.getElem?_eq_some_iff.mp h
 obtain⟨hj,e'⟩:=List.getElem?_eq_some_iff.mp g
 exact(List.getElem_inj nd).mp (e.trans e'.symm)
theorem sJ {xs ys:List α} (ndx:xs.Nodup) (yX:ys.Nodup) {x:α}:∀(l l':List Nat) (c s s1 s2:Nat),l.length=l'.length→cg l s=some s1→cg l' s=some s2→(∀i,i<s→xs[i]? =ys[i]?)→
  (∀k t,l[k]? =some t→xs[t]? =some (on x (c+k)))→(∀k t,l'[k]? =some t→ys[t]? =some (on x (c+k)))→l=l'∧s1=s2∧∀i,i<s1→xs[i]? =ys[i]?
 | [],[],c,s,s1,s2,_,h,h',eq,_,_=>by
  cases h;cases h'
  exact⟨rfl,rfl,eq⟩
 | [],_::_,_,_,_,_,hl,_,_,_,_,_=>by cases hl
 | _::_,[],_,_,_,_,hl,_,_,_,_,_=>by cases hl
 | t::l,t'::l',c,s,s1,s2,hl,h,h',eq,hx,hy=>by
  have ex:xs[t]? =some (on x c):=hx 0 t rfl
  have ey:ys[t']? =some (on x c):=hy 0 t' rfl
  have hx':∀k u,l[k]? =some u→xs[u]? =some (on x (c+1+k)):=fun k u z=>by rw[show c+1+k=c+(k+1) by omega];exact hx (k+1) u z
  have hy':∀k u,l'[k]? =some u→ys[u]? =some (on x (c+1+k)):=fun k u z=>by rw[show c+1+k=c+(k+1) by omega];exact hy (k+1) u z
  have hl':l.length=l'.length:=Nat.succ.inj hl
  rw[cg] at h h'
  by_cases lt:t<s
  ·rw[if_pos lt] at h
   have e:t'=t:=xh yX ey (by rw[←eq t lt];exact ex)
   subst e
   rw[if_pos lt] at h'
   obtain⟨r1,r2,r3⟩:=sJ ndx yX l l' (c+1) s s1 s2 hl' h h' eq hx' hy'
   exact⟨by rw[r1],r2,r3⟩
  ·rw[if_neg lt] at h
   by_cases es:t=s
   ·rw[if_pos es] at h
    have lt':¬t'<s:=fun z=>by
     have:=xh ndx ex (by rw[eq t' z];exact ey)
     omega
    rw[if_neg lt'] at h'
    by_cases es':t'=s
    ·rw[if_pos es'] at h'
     obtain⟨r1,r2,r3⟩:=sJ ndx yX l l' (c+1) (s+1) s1 s2 hl' h h' (fun i hi=>by
      by_cases z:i<s
      ·exact eq i z
      ·have:i=s:=by omega
       rw[this,←es,ex,es,←es',ey]) hx' hy'
     exact⟨by rw[r1,es,es'],r2,r3⟩
    ·rw[if_neg es'] at h';cases h'
   ·rw[if_neg es] at h;cases h
theorem xi {xs ys:List α} (ndx:xs.Nodup) (yX:ys.Nodup):∀(mv mv':List (List Nat)) (i s s1 s2:Nat),eE mv i s=some s1→eE mv' i s=some s2→(∀j,j<s→xs[j]? =ys[j]?)→
  (∀k r,mv[k]? =some r→r.length=m∧∃x,xs[i+k]? =some x∧∀c t,r[c]? =some t→xs[t]? =some (on x c))→(∀k r,mv'[k]? =some r→r.length=m∧∃x,ys[i+k]? =some x∧∀c t,r[c]? =some t→ys[t]? =some (on x c))→
  i+mv.length=xs.length→i+mv'.length=ys.length→s1=xs.length→s2=ys.length→mv=mv'∧xs=ys
 | [],[],i,s,s1,s2,h,h',eq,_,_,l1,l2,e1,e2=>by
  cases h;cases h'
  refine⟨rfl,List.ext_getElem? fun j=>?_⟩
  by_cases z:j<s
  ·exact eq j z
  ·rw[List.getElem?_eq_none (by omega),List.getElem?_eq_none (by omega)]
 | [],r'::mv',i,s,s1,s2,h,h',eq,_,hy,l1,l2,e1,e2=>by
  cases h
  rw[eE] at h'
  rw[List.length_nil] at l1
  rw[if_neg (by omega)] at h'
  cases h'
 | r::mv,[],i,s,s1,s2,h,h',eq,hx,_,l1,l2,e1,e2=>by
  cases h'
  rw[eE] at h
  rw[List.length_nil] at l2
  rw[if_neg (by omega)] at h
  cases h
 | r::mv,r'::mv',i,s,s1,s2,h,h',eq,hx,hy,l1,l2,e1,e2=>by
  rw[eE] at h h'
  by_cases lt:i<s
  ·rw[if_pos lt] at h h'
   obtain⟨a1,ha,h⟩:=Option.bind_eq_some_iff.mp h
   obtain⟨a2,ha',h'⟩:=Option.bind_eq_some_iff.mp h'
   obtain⟨q1,x,q2,q3⟩:=hx 0 r rfl
   obtain⟨p1,y,p2,p3⟩:=hy 0 r' rfl
   have Uu:x=y:=by
    rw[Nat.add_zero] at q2 p2
    rw[eq i lt,p2] at q2
    exact(Option.some.inj q2).symm
   subst Uu
   obtain⟨z1,z2,z3⟩:=sJ ndx yX r r' 0 s a1 a2 (q1.trans p1.symm) ha ha' eq (fun k t z=>by rw[Nat.zero_add];exact q3 k t z) (fun k t z=>by rw[Nat.zero_add];exact p3 k t z)
   subst z1 z2
   obtain⟨w1,w2⟩:=xi ndx yX mv mv' (i+1) a1 s1 s2 h h' z3 (fun k r z=>by rw[show i+1+k=i+(k+1) by omega];exact hx (k+1) r z) (fun k r z=>by rw[show i+1+k=i+(k+1) by omega];exact hy (k+1) r z)
    (by rw[List.length_cons] at l1;omega) (by rw[List.length_cons] at l2;omega) e1 e2
   exact⟨by rw[w1],w2⟩
  ·rw[if_neg lt] at h;cases h
theorem Ap {xs ys:List α} {mv mv':List (List Nat)} (g:bZ x0 on m xs mv) (h:mv.length=xs.length) (g':bZ x0 on m ys mv') (h':mv'.length=ys.length):mv=mv'∧xs=ys:=
 xi (m:=m) (on:=on) g.once g'.once mv mv' 0 1 _ _ g.go g'.go (fun j hj=>by rw[show j=0 by omega,g.first,g'.first]) (fun k r z=>by rw[Nat.zero_add];exact g.row k r z) (fun k r z=>by rw[Nat.zero_add];exact g'.row k r z) (by omega) (by omega) rfl rfl
theorem rf {xs ys:List α} {mv:List (List Nat)} (g:bZ x0 on m xs mv) (h:mv.length=xs.length) (nd:ys.Nodup) (hy:∀y∈ys,∃w,cN m w∧y=dD on x0 w):ys.length≤xs.length:=
 List.Nodup.length_le_of_subset nd fun y z=>by
  obtain⟨w,hw,rfl⟩:=hy y z
  exact List.mem_of_getElem? (g.run h w 0 x0 g.first hw)
end
def bN (n:Nat):List (List Nat):=[0,0,0,1]::((List.range (n-1)).map fun r=>List.replicate 4 (r+2))++[List.replicate 4 0]
def dE (n:Nat):List Bool:=List.replicate (n+1) true
theorem dR (n:Nat):(dE n).length=n+1:=List.length_replicate ..
theorem uB {n:Nat} (h:0<n):(bN n).length=n+1:=by
 unfold bN
 rw[List.length_append,List.length_cons,List.length_map,List.length_range]
 show n-1+1+1=_
 omega
theorem uC {n r:Nat} (h0:0<r) (h:r<n):(bN n)[r]? =some (List.replicate 4 (r+1)):=by
 obtain⟨q,rfl⟩:∃q,r=q+1:=⟨r-1,by omega⟩
 unfold bN
 rw[List.getElem?_append_left (by rw[List.length_cons,List.length_map,List.length_range];omega),List.getElem?_cons_succ,List.getElem?_map,List.getElem?_range (by omega)]
 rfl
theorem uD {n:Nat} (h:0<n):(bN n)[n]? =some (List.replicate 4 0):=by
 unfold bN
 rw[List.getElem?_append_right (by rw[List.length_cons,List.length_map,List.length_range];omega),List.length_cons,List.length_map,List.length_range,show n-(n-1+1)=0 by omega]
 rfl
theorem Aq {n:Nat} (h:0<n):Moves (dE n).length (2 ^ (["a","b"]:List Str).length) (bN n):=by
 refine⟨by rw[dR,uB h],fun l hl=>?_⟩
 rw[dR]
 obtain⟨r,hr⟩:=List.getElem?_of_mem hl
 have hr':=(List.getElem?_eq_some_iff.mp hr).1
 rw[uB h] at hr'
 by_cases z:r=0
 ·subst z
  have:(bN n)[0]? =some [0,0,0,1]:=rfl
  rw[this] at hr;cases hr
  exact⟨rfl,fun x hx=>by simp only[List.mem_cons,List.not_mem_nil,or_false] at hx;omega⟩
 ·by_cases y:r<n
  ·rw[uC (by omega) y] at hr;cases hr
   exact⟨rfl,fun x hx=>by rw[List.eq_of_mem_replicate hx];omega⟩
  ·have:r=n:=by omega
   subst this
   rw[uD h] at hr;cases hr
   exact⟨rfl,fun x hx=>by rw[List.eq_of_mem_replicate hx];omega⟩
theorem kU {n c:Nat} (hc:c<4):stp (bN n) 0 c=if c=3 then 1 else 0:=by
 rcases(show c=0∨c=1∨c=2∨c=3 by omega) with rfl | rfl | rfl | rfl<;>rfl
theorem xj (x:Nat) {c:Nat} (hc:c<4):(List.replicate 4 x).getD c 0=x:=by
 rw[List.getD_eq_getElem?_getD,List.getElem?_replicate,if_pos hc];rfl
theorem xk {n r c:Nat} (h0:0<r) (h:r<n) (hc:c<4):stp (bN n) r c=r+1:=by
 unfold stp
 rw[List.getD_eq_getElem?_getD (l:=bN n),uC h0 h]
 exact xj _ hc
theorem C7 {n c:Nat} (h:0<n) (hc:c<4):stp (bN n) n c=0:=by
 unfold stp
 rw[List.getD_eq_getElem?_getD (l:=bN n),uD h]
 exact xj _ hc
theorem C8:bA 2 ["a","b"] (oth ["a","b"] "a")=[[0,2],[1,3]]:=by decide+kernel
theorem xl:(oth ["a","b"] "a").length=1:=by decide+kernel
def fh (n:Nat) (w:List Nat):List Nat:=(List.range (n+1)).filter fun i=>i == 0||(decide (i≤w.length)&&w.getD (w.length-i) 0 == 1)
theorem fi {n:Nat} {w:List Nat} {i:Nat}:i∈fh n w↔i≤n∧(i=0∨(i≤w.length∧w.getD (w.length-i) 0=1)):=by
 unfold fh
 rw[List.mem_filter,List.mem_range]
 simp only[Bool.or_eq_true,Bool.and_eq_true,beq_iff_eq,decide_eq_true_eq]
 constructor
 ·rintro⟨h,z⟩;exact⟨by omega,z⟩
 ·rintro⟨h,z⟩;exact⟨by omega,z⟩
theorem C9 {n:Nat} (hn:0<n) (w:List Nat) {l:Nat} (hl:l<2):kd 2 ["a","b"] "a" (dE n) (bN n) (fh n w) l=fh n (w++[l]):=by
 have ho:(bA 2 ["a","b"] (oth ["a","b"] "a")).getD l []=[l,l+2]:=by
  rw[C8]
  rcases(show l=0∨l=1 by omega) with rfl | rfl<;>rfl
 have hle:(w++[l]).length=w.length+1:=by rw[List.length_append];rfl
 refine sI (n:=n+1) ?_ ⟨_,rfl⟩ fun t=>?_
 ·have:=jH (bN n) (dE n).length (fh n w) ((bA 2 ["a","b"] (oth ["a","b"] "a")).getD l [])
  rw[dR] at this
  show gm (n+1) (fL (bN n) (dE n).length (fh n w) ((bA 2 ["a","b"] (oth ["a","b"] "a")).getD l []))
  rw[dR];exact this
 show t∈fL (bN n) (dE n).length (fh n w) ((bA 2 ["a","b"] (oth ["a","b"] "a")).getD l [])↔_
 rw[iJ,dR,ho,fi,hle]
 have cs:∀c∈[l,l+2],c<4:=fun c hc=>by simp only[List.mem_cons,List.not_mem_nil,or_false] at hc;omega
 have look:∀i,1<i→i≤w.length+1→(w++[l]).getD (w.length+1-i) 0=w.getD (w.length-(i-1)) 0:=fun i h1 h2=>by
  rw[List.getD_eq_getElem?_getD,List.getElem?_append_left (by omega),←List.getD_eq_getElem?_getD,show w.length+1-i=w.length-(i-1) by omega]
 have last:(w++[l]).getD (w.length+1-1) 0=l:=by
  rw[Nat.add_sub_cancel,List.getD_eq_getElem?_getD,List.getElem?_append_right (Nat.le_refl _),Nat.sub_self];rfl
 constructor
 ·rintro⟨ht,r,hr,c,hc,e⟩
  refine⟨by omega,?_⟩
  obtain⟨hr1,hr2⟩:=fi.mp hr
  have c4:=cs c hc
  by_cases r0:r=0
  ·subst r0
   rw[kU c4] at e
   by_cases c3:c=3
   ·rw[if_pos c3] at e
    simp only[List.mem_cons,List.not_mem_nil,or_false] at hc
    refine .inr ?_
    subst e
    exact⟨by omega,by rw[last];omega⟩
   ·rw[if_neg c3] at e;exact .inl e.symm
  ·by_cases rn:r<n
   ·rw[xk (by omega) rn c4] at e
    rcases hr2 with z | ⟨z1,z2⟩
    ·exact absurd z r0
    ·refine .inr ?_
     subst e
     exact⟨by omega,by rw[look (r+1) (by omega) (by omega)];exact z2⟩
   ·have:r=n:=by omega
    subst this
    rw[C7 hn c4] at e
    exact .inl e.symm
 ·rintro⟨ht,z⟩
  refine⟨by omega,?_⟩
  rcases z with z | ⟨z1,z2⟩
  ·exact⟨0,fi.mpr ⟨by omega,.inl rfl⟩,l,by simp,by rw[kU (by omega),if_neg (by omega),z]⟩
  ·by_cases t1:t≤1
   ·by_cases t0:t=0
    ·exact⟨0,fi.mpr ⟨by omega,.inl rfl⟩,l,by simp,by rw[kU (by omega),if_neg (by omega),t0]⟩
    ·have e:t=1:=by omega
     subst e
     rw[last] at z2
     exact⟨0,fi.mpr ⟨by omega,.inl rfl⟩,l+2,by simp,by rw[kU (by omega),if_pos (by omega)]⟩
   ·rw[look t (by omega) z1] at z2
    refine⟨t-1,fi.mpr ⟨by omega,.inr ⟨by omega,z2⟩⟩,l,by simp,?_⟩
    rw[xk (by omega) (by omega) (by omega)]
    omega
theorem xm {n:Nat} (hn:0<n):∀(w:List Nat),cN 2 w→dD (kd 2 ["a","b"] "a" (dE n) (bN n)) [0] w=fh n w:=by
 have go:∀(u w:List Nat),cN 2 u→dD (kd 2 ["a","b"] "a" (dE n) (bN n)) (fh n w) u=fh n (w++u):=by
  intro u
  induction u with
  | nil=>intro w _;rw[List.append_nil];rfl
  | cons l u ih=>
   intro w hw
   show dD _ (kd 2 ["a","b"] "a" (dE n) (bN n) (fh n w) l) u=_
   rw[C9 hn w (hw l List.mem_cons_self),ih _ fun x hx=>hw x (List.mem_cons_of_mem _ hx),List.append_assoc]
   rfl
 intro w hw
 have e:fh n []=[0]:=sI (n:=n+1) ⟨_,rfl⟩ (eU (by omega)) fun t=>by
  rw[fi,List.mem_singleton]
  constructor
  ·rintro⟨_,z | ⟨z1,z2⟩⟩
   ·exact z
   ·simp at z2
  ·intro z;subst z;exact⟨by omega,.inl rfl⟩
 have:=go w [] hw
 rw[e] at this
 exact this
def kf:Nat→List (List Nat)
 | 0=>[[]]
 | n+1=>(kf n).map (0:: ·)++(kf n).map (1:: ·)
theorem xn:∀n,(kf n).length=2 ^ n
 | 0=>rfl
 | n+1=>by
  unfold kf
  rw[List.length_append,List.length_map,List.length_map,xn n,Nat.pow_succ];omega
theorem mZ:∀{n:Nat} {w:List Nat},w∈kf n→w.length=n∧cN 2 w
 | 0,w,h=>by
  rw[List.mem_singleton.mp h]
  exact⟨rfl,.nil 2⟩
 | n+1,w,h=>by
  unfold kf at h
  rcases List.mem_append.mp h with h | h<;>obtain⟨u,hu,rfl⟩:=List.mem_map.mp h<;>obtain⟨h1,h2⟩:=mZ hu
  ·exact⟨by rw[List.length_cons,h1],.cons (by decide) h2⟩
  ·exact⟨by rw[List.length_cons,h1],.cons (by decide) h2⟩
theorem sO:∀n,(kf n).Nodup
 | 0=>by simp[kf]
 | n+1=>by
  unfold kf
  refine List.nodup_append.mpr ⟨List.Pairwise.map _ (fun a b h e=>h (List.cons.inj e).2) (sO n),List.Pairwise.map _ (fun a b h e=>h (List.cons.inj e).2) (sO n),fun a ha b hb e=>?_⟩
  obtain⟨u,_,rfl⟩:=List.mem_map.mp ha
  obtain⟨u',_,rfl⟩:=List.mem_map.mp hb
  exact absurd (List.cons.inj e).1 (by decide)
theorem EK {n:Nat} {w w':List Nat} (h1:w.length=n) (h2:w'.length=n) (b1:cN 2 w) (b2:cN 2 w') (e:fh n w=fh n w'):w=w':=by
 refine List.ext_getElem? fun j=>?_
 by_cases hj:j<n
 ·rw[item_at 0 (show j<w.length by omega),item_at 0 (show j<w'.length by omega)]
  have m:n-j∈fh n w↔n-j∈fh n w':=by rw[e]
  rw[fi,fi,h1,h2,show n-(n-j)=j by omega] at m
  have i1:w.getD j 0<2:=b1 _ (by rw[List.getD_eq_getElem?_getD,List.getElem?_eq_getElem (by omega)];exact List.getElem_mem _)
  have i2:w'.getD j 0<2:=b2 _ (by rw[List.getD_eq_getElem?_getD,List.getElem?_eq_getElem (by omega)];exact List.getElem_mem _)
  congr 1
  by_cases z:w.getD j 0=1
  ·have:=(m.mp ⟨by omega,.inr ⟨by omega,z⟩⟩).2.resolve_left (by omega)
   omega
  ·by_cases y:w'.getD j 0=1
   ·have:=(m.mpr ⟨by omega,.inr ⟨by omega,y⟩⟩).2.resolve_left (by omega)
    omega
   ·omega
 ·rw[List.getElem?_eq_none (by omega),List.getElem?_eq_none (by omega)]
theorem xp {n:Nat} (hn:0<n):((kf n).map (fh n)).Nodup∧i' 2 ["a","b"] "a" (dE n) (bN n) ((kf n).map (fh n)):=by
 constructor
 ·rw[List.Nodup,List.pairwise_map]
  refine(sO n).imp_of_mem fun {a b} ha hb h e=>h ?_
  obtain⟨a1,a2⟩:=mZ ha
  obtain⟨b1,b2⟩:=mZ hb
  exact EK a1 b1 a2 b2 e
 ·intro S hS
  obtain⟨w,hw,rfl⟩:=List.mem_map.mp hS
  have h2:=(mZ hw).2
  exact⟨w,by rw[xl];exact h2,(xm hn w h2).symm⟩
theorem p8 {n:Nat} (hn:0<n) {xs:List (List Nat)} (nd:xs.Nodup) (h:i' 2 ["a","b"] "a" (dE n) (bN n) xs):xs.length≤2 ^ n:=by
 have sub:∀S∈xs,S∈(fz n).map fun T=>0::T.map (· +1):=fun S hS=>by
  obtain⟨w,hw,rfl⟩:=h S hS
  rw[xl] at hw
  rw[xm hn w hw]
  refine List.mem_map.mpr ⟨_,iU (fun i=>i+1 == 0||(decide (i+1≤w.length)&&w.getD (w.length-(i+1)) 0 == 1)) n,?_⟩
  unfold fh
  rw[List.range_succ_eq_map,List.filter_cons,if_pos (by rfl),List.filter_map]
  rfl
 have:=List.Nodup.length_le_of_subset nd sub
 rwa [List.length_map,lC] at this
theorem C' (x:Bool):∀B:Nat,(List.replicate B [V.bl x]).flatten=(List.replicate B x).map V.bl
 | 0=>rfl
 | B+1=>by
  rw[List.replicate_succ,List.flatten_cons,C' x B,List.replicate_succ]
  rfl
theorem jJ (i:Nat):∀B:Nat,(List.replicate B [V.int (i:Int)]).flatten=(ai (List.replicate B i)).map V.int
 | 0=>rfl
 | B+1=>by
  rw[List.replicate_succ,List.flatten_cons,jJ i B,List.replicate_succ]
  rfl
def Ku (a:bW):Sp:=fun vs H Q _=>∃n:Nat,vs=[.int n]∧9≤n∧n≤11∧TB a H∧∀H',KX a H H'→TB a H'→Q (.bl true) H'
theorem Dc {n:Nat} (h1:9≤n) (h2:n≤11):(1:Int)*2 ^ ((n:Nat):Int).toNat=((2 ^ n:Nat):Int):=by
 rw[Int.toNat_natCast,Int.one_mul,Int.natCast_pow];rfl
section
variable {P:Program} {w:World} {K:PySem.W.Frag} {mg:Str→Option Value} {base:Heap}
theorem gY:aS ["_law_many","_law_moves","_law_room","_law_machine_here","_law_came","_law_some"] ["_law_many"] (aj iB):=⟨rfl,rfl,rfl,by decide+kernel,rfl,by decide+kernel,by decide+kernel⟩
set_option maxHeartbeats 16000000 in
theorem Dd {a:bW} (T:Txt K mg a) (hB:dY mg base):bf P w K mg base bT 6 a.mQ a.ox ["_law_many"] (Ku a):=by
 have ja:=ra (P:=P) (w:=w) (base:=base) T hB
 have gZ:=q_ (P:=P) (w:=w) (base:=base) T hB
 obtain⟨Uv,m_⟩:=T.uk
 obtain⟨Uw,jC⟩:=T.uo
 have sQ:∀t:Tok,Vals [V.int 2000] [Value.int 2000 t]:=fun t=>.cons ⟨t,rfl⟩ .nil
 refine T.Eg.ok gY (fun vs H Q E h=>?_) (fun cdv A outer s H vs Q E hr h=>?_)
 ·obtain⟨n,rfl,_⟩:=h
  rfl
 ·obtain⟨n,rfl,n9,Ux,tb,q⟩:=h
  have il:aP 5 _:=hr
  have f':aP 5 _:=hr
  refine⟨_,(ah (av (i:=1) gY.nd rfl (Or.inl rfl) (bz (ae (bP (ae ao (ae ao (ae ao (ae ao ag))))) ag)))
  (ah (bq PassesOwn.never rfl (AL rfl T.cq (ae ao (ae (pv 0) ag))) (az (i:=2) gY.nd rfl (Or.inl rfl))
   (au (bt (cf PySem.F.plainAttrs_list PySem.F.slot_list_append PySem.F.type_list_append aZ (pv 1) (ae (aG (j_ K) (bP (ae (aG cP (pv 2) ao) ag)) ao) ag)))))
  (ah (bt (cf PySem.F.plainAttrs_list PySem.F.slot_list_append PySem.F.type_list_append aZ (pv 1) (ae (aG (j_ K) (bP (ae ao ag)) ao) ag)))
  (ah (av (i:=3) gY.nd rfl (Or.inl rfl) (bP (ae (bP (ae bG (ae bG ag))) (ae (aG (j_ K) (bP (ae iO ag)) (aG cP (pv 0) ao)) (ae (aY (aX K) (by rfl) T.bS bB (ae (pv 1) ag)) ag)))))
  (ah (av (i:=4) gY.nd rfl (Or.inl rfl) (aC ja il rfl T.kH T.kI m_ (sQ _) aN (ae ao (ae (pv 3) (ae bG ag)))))
  (ah (av (i:=5) gY.nd rfl (Or.inl rfl) (aC gZ f' rfl T.i4 T.i5 jC (sQ _) aN (ae ao (ae (pv 3) (ae bG ag)))))
  (ah (cX (bo qh (aG vp ao (pv 0)) ao (aU _))
   (au (aR (lG (di nQ (pv 4) fk (aU _)) (qd (di nQ (pv 5) fk (aU _))))))
   bR)
  (au (aR (lG (di rm (pv 4) fk (aU _)) (lG (di hJ (aA (aM K) (by rfl) T.bF bg (ae (pv 4) ag)) (aG vp ao (pv 0)) (aU _)) (lG (di rm (pv 5) fk (aU _)) (qd (di hJ (aA (aM K) (by rfl) T.bF bg (ae (aJ (aO K) (pv 5) ao (fun _ _=>rfl)) ag)) (aG vp ao (pv 0)) (aU _))))))))))))))),?_⟩
  have big:(10000:Nat)≤sizeLine:=by decide
  have n0:0<n:=by omega
  refine ax fun Y hY=>?_
  refine⟨by show 4≤sizeLine;decide,fun t0 ht0=>⟨by show 1≤sizeLine;decide,fun M hM=>?_⟩⟩
  have s0:=Same.new (o:=.tup [.int 0,.int 0,.int 0,.int 1]) ht0
  have sM:=Same.new (o:=.lst [.ref t0]) hM
  have oC:H M=none:=s0.free hM
  have e0:=sM _ _ (show(upd H t0 (.tup [.int 0,.int 0,.int 0,.int 1])) t0=some (.tup ((ai [0,0,0,1]).map V.int)) from af)
  have eM:(upd (upd H t0 (.tup [.int 0,.int 0,.int 0,.int 1])) M (.lst [.ref t0])) M=some (.lst ([t0].map V.ref)):=af
  have sH:=s0.trans sM
  dsimp only[ay]
  subst hY
  generalize upd (upd H t0 (.tup [.int 0,.int 0,.int 0,.int 1])) M (.lst [.ref t0])=H1 at sM sH e0 eM ⊢
  refine ax fun Y hY=>?_
  refine⟨_,rfl,1,n,rfl,⟨by omega,by omega,by omega,by omega⟩,dw (lo:=1) (n:=((n:Int)-1).toNat) (fun i σ H'=>∃(ps:List Addr) (v2:Option V),σ=[some (.int (n:Nat)),some (.ref M),v2,none,none,none]∧Same H H'∧H' M=some (.lst (ps.map V.ref))∧bX H' ps (([0,0,0,1]::(List.range i).map fun r=>List.replicate 4 (r+2)).map ai))
   ⟨[t0],none,rfl,sH,eM,.cons e0 .nil⟩ ?_ ?_⟩
  ·rintro i σ H2 N hN hi ⟨ps,v2,rfl,s2,e2,t2⟩
   have hi':i<n-1:=by omega
   have lps:ps.length=i+1:=by rw[Paired.length t2,List.length_map,List.length_cons,List.length_map,List.length_range]
   dsimp only[ay]
   have ei:(1:Int)+(i:Int)+1=((i+2:Nat):Int):=by omega
   refine⟨_,rfl,.inl ⟨rfl,_,.of e2⟩,_,rfl,_,_,rfl,rfl,by show 1≤sizeLine;decide,fun u hu=>?_⟩
   refine⟨u,_,4,rfl,rfl,.of af,(fun z=>by cases z),by decide,by show 1*4≤100000;decide,fun r hr=>?_⟩
   dsimp only at hr ⊢
   rw[ei] at hr ⊢
   have su:=Same.new (o:=.tup [.int ((i+2:Nat):Int)]) hu
   rw[jJ]
   have sr:=Same.new (o:=.tup ((ai (List.replicate 4 (i+2))).map V.int)) hr
   have s3:=su.trans sr
   have e3:=s3 _ _ e2
   refine⟨M,_,_,rfl,rfl,e3,by rw[List.length_map];omega,hN _ _ ⟨ps++[r],_,rfl,(s2.trans s3).kbn oC KB.write,by rw[af,List.map_append];rfl,?_⟩⟩
   rw[List.range_succ,List.map_append,←List.cons_append,List.map_append]
   refine bu ((t2.keep s3.kt).keep (a_.lst e3)) (.cons (a_.lst e3 _ _ af) .nil)
  rintro σ H2 ⟨ps,v2,rfl,s2,e2,t2⟩
  rw[show((n:Int)-1).toNat=n-1 by omega] at t2
  have lps:ps.length=n:=by rw[Paired.length t2,List.length_map,List.length_cons,List.length_map,List.length_range];omega
  subst hY
  dsimp only
  refine ax fun Y hY=>?_
  refine⟨_,rfl,.inl ⟨rfl,_,.of e2⟩,by show 1≤sizeLine;decide,fun u hu=>?_⟩
  refine⟨u,_,4,rfl,rfl,.of af,(fun z=>by cases z),by decide,by show 1*4≤100000;decide,fun r hr=>?_⟩
  have su:=Same.new (o:=.tup [.int ((0:Nat):Int)]) hu
  have er:(List.replicate 4 [V.int 0]).flatten=(ai (List.replicate 4 0)).map V.int:=jJ 0 4
  rw[er]
  have sr:=Same.new (o:=.tup ((ai (List.replicate 4 0)).map V.int)) hr
  have s3:Same H2 (upd (upd H2 u (.tup [.int 0])) r (.tup ((ai (List.replicate 4 0)).map V.int))):=su.trans sr
  have e3:=s3 _ _ e2
  refine⟨M,_,_,rfl,rfl,e3,by rw[List.length_map];omega,?_⟩
  have t3:=(t2.keep s3.kt).keep (a_.lst (o:=.lst (ps.map V.ref++[.ref r])) e3)
  have tr:(upd (upd (upd H2 u (.tup [.int 0])) r (.tup ((ai (List.replicate 4 0)).map V.int))) M (.lst (ps.map V.ref++[.ref r]))) r=some (.tup ((ai (List.replicate 4 0)).map V.int)):=a_.lst e3 _ _ af
  have s4:Same H (upd (upd (upd H2 u (.tup [.int 0])) r (.tup ((ai (List.replicate 4 0)).map V.int))) M (.lst (ps.map V.ref++[.ref r]))):=(s2.trans s3).kbn oC KB.write
  have e4:(upd (upd (upd H2 u (.tup [.int 0])) r (.tup ((ai (List.replicate 4 0)).map V.int))) M (.lst (ps.map V.ref++[.ref r]))) M=some (.lst ((ps++[r]).map V.ref)):=by rw[af,List.map_append];rfl
  have t4:bX (upd (upd (upd H2 u (.tup [.int 0])) r (.tup ((ai (List.replicate 4 0)).map V.int))) M (.lst (ps.map V.ref++[.ref r]))) (ps++[r]) ((bN n).map ai):=by
   unfold bN
   rw[List.map_append]
   exact bu t3 (.cons tr .nil)
  generalize upd (upd (upd H2 u (.tup [.int 0])) r (.tup ((ai (List.replicate 4 0)).map V.int))) M (.lst (ps.map V.ref++[.ref r]))=H4 at s4 e4 t4 ⊢
  subst hY
  dsimp only
  refine ax fun Y hY=>?_
  refine⟨by show 2≤sizeLine;decide,fun nm hnm=>?_⟩
  have Uy:=Same.new (o:=.tup [.str "a",.str "b"]) hnm
  refine⟨by show 1≤sizeLine;decide,fun t1 ht1=>?_⟩
  have st1:=Same.new (o:=.tup [.bl true]) ht1
  have Uz:(n:Int)+1=((n+1:Nat):Int):=by omega
  refine⟨_,rfl,_,_,rfl,rfl,t1,_,n+1,rfl,by dsimp only;rw[Uz],.of af,(fun z=>by cases z),by omega,by show 1*(n+1)≤100000;omega,fun ya UA=>?_⟩
  rw[C']
  have Om:=Same.new (o:=.tup ((List.replicate (n+1) true).map V.bl)) UA
  have s5:=(Uy.trans st1).trans Om
  refine⟨_,rfl,M,_,rfl,.inl ⟨.of (s5 _ _ e4),fun va hva=>?_⟩⟩
  have Kv:=Same.new (o:=.tup ((ps++[r]).map V.ref)) hva
  refine⟨by show 3≤sizeLine;decide,fun m hm=>?_⟩
  have sm:=Same.new (o:=.tup [.ref nm,.ref ya,.ref va]) hm
  have s6:=(s5.trans Kv).trans sm
  have Kw:=s4.trans s6
  have mc:Mc 2 (upd (upd (upd (upd (upd H4 nm (.tup [.str "a",.str "b"])) t1 (.tup [.bl true])) ya (.tup ((List.replicate (n+1) true).map V.bl))) va (.tup ((ps++[r]).map V.ref))) m (.tup [.ref nm,.ref ya,.ref va])) m ["a","b"] (dE n) (bN n):=
   ⟨nm,⟨ya,va,ps++[r],af,(Kv.trans sm) _ _ af,sm _ _ af,t4.keep s6.kt⟩,(((st1.trans Om).trans Kv).trans sm) _ _ af,Aq n0,by rw[dR];omega⟩
  generalize upd (upd (upd (upd (upd H4 nm (.tup [.str "a",.str "b"])) t1 (.tup [.bl true])) ya (.tup ((List.replicate (n+1) true).map V.bl))) va (.tup ((ps++[r]).map V.ref))) m (.tup [.ref nm,.ref ya,.ref va])=H6 at mc sm s6 Kw ⊢
  have FU:=tb.same Kw
  have k6:KX a H H6:=KX.same Kw
  dsimp only[ay]
  subst hY
  refine ax fun Y hY=>?_
  have hlo:∀{xs mv':List (List Nat)},bZ [0] (kd 2 ["a","b"] "a" (dE n) (bN n)) (2 ^ (oth ["a","b"] "a").length) xs mv'→mv'.length=xs.length→xs.length=2 ^ n:=fun {xs mv'} g hl=>by
   have h1:=p8 n0 g.once g.reach
   have h2:=rf g hl (xp n0).1 (xp n0).2
   rw[List.length_map,xn] at h2
   omega
  have vs2:n=9∨n=10∨n=11:=by omega
  have np:2 ^ n=512∨2 ^ n=1024∨2 ^ n=2048:=by rcases vs2 with rfl | rfl | rfl<;>decide
  have ep:=Dc n9 Ux
  have csh:Du 1 ((n:Nat):Int):=⟨by omega,by omega,by decide⟩
  generalize hpn:2 ^ n=pn at hlo np ep
  refine⟨_,rfl,2,2000,m,["a","b"],"a",dE n,bN n,rfl,by decide,by decide,mc,by decide,by rw[dR];omega,by decide,FU,fun xs H7 k7 uA nd rc lt=>?_,fun Rr xs mv' vs' H7 k7 uA wQ eR rp hl hle gr=>?_⟩
  ·have l1:=p8 n0 nd rc
   rw[hpn] at l1
   dsimp only[ay]
   subst hY
   refine ax fun Y hY=>?_
   refine⟨_,rfl,2,2000,m,["a","b"],"a",dE n,bN n,rfl,by decide,by decide,mc.keep k7.kt,by decide,by rw[dR];omega,by decide,uA,.inr ⟨by decide+kernel,fun xs2 H8 k8 uE t8 Oo UB=>?_,fun p nm' xs2 mv2 H8 k8 uE gX gb hl2 P0 Kx=>?_⟩⟩
   ·dsimp only[ay]
    subst hY
    refine⟨_,rfl,_,_,rfl,rfl,csh,_,_,rfl,rfl,_,rfl,?_⟩
    rw[ep,show decide ((2000:Int)<(pn:Int))=true from decide_eq_true (by omega)]
    refine fA ?_
    refine⟨_,rfl,rfl,_,rfl,dk (fun _=>?_) (fun z=>absurd rfl z)⟩
    refine⟨_,rfl,rfl,?_⟩
    exact q H8 (k6.trans (k7.trans k8)) uE
   ·have:=hlo Kx hl2
    omega
  ·have lx:=hlo gr hl
   have lv:vs'.length=pn:=by rw[Paired.length rp];exact lx
   dsimp only[ay]
   subst hY
   refine ax fun Y hY=>?_
   refine⟨_,rfl,2,2000,m,["a","b"],"a",dE n,bN n,rfl,by decide,by decide,mc.keep k7.kt,by decide,by rw[dR];omega,by decide,uA,.inr ⟨by decide+kernel,fun xs2 H8 k8 uE t8 Oo UB=>?_,fun p nm' xs2 mv2 H8 k8 uE gX gb hl2 P0 Kx=>?_⟩⟩
   ·have:=p8 n0 t8 Oo
    omega
   ·have UC:=hlo Kx hl2
    obtain⟨UD,WZ,ps2,f1,f2,_,_⟩:=gX
    have UE:H8 Rr=some (.lst vs'):=k8 _ _ eR fun _ y=>nomatch y
    dsimp only[ay]
    subst hY
    refine⟨_,rfl,_,_,rfl,rfl,csh,_,_,rfl,rfl,_,rfl,?_⟩
    rw[ep,show decide ((2000:Int)<(pn:Int))=false from decide_eq_false (by omega)]
    refine cm ?_
    have ev:V.int ((vs'.length:Nat):Int)=V.int ((pn:Nat):Int):=by rw[lv]
    have ev2:V.int (((xs2.map (jk 2 ["a","b"] "a" (dE n) (bN n))).length:Nat):Int)=V.int ((pn:Nat):Int):=by rw[List.length_map,UC]
    dsimp only[g7]
    refine⟨_,rfl,rfl,_,rfl,dk (fun _=>?_) (fun z=>absurd (by simp) z)⟩
    refine⟨_,rfl,_,vs'.length,rfl,.inl ⟨_,.of UE,rfl⟩,_,rfl,_,_,rfl,rfl,csh,rfl,_,rfl,?_⟩
    refine dk (fun _=>?_) (fun z=>absurd (decide_eq_true (by show V.int _=V.int (1*2 ^ ((n:Nat):Int).toNat);rw[ep];exact ev)) z)
    refine⟨_,rfl,rfl,_,rfl,dk (fun _=>?_) (fun z=>absurd (by simp) z)⟩
    refine⟨_,rfl,p,_,_,.ref UD,rfl,rfl,.of f1,aB (j:=1) rfl,_,(xs2.map (jk 2 ["a","b"] "a" (dE n) (bN n))).length,rfl,.inr ⟨_,.of f2,by simp⟩,_,rfl,_,_,rfl,rfl,csh,rfl,?_⟩
    have z:∀b:Bool,b=true→Q (V.bl b) H8:=fun b e=>by rw[e];exact q H8 (k6.trans (k7.trans k8)) uE
    exact z _ (decide_eq_true (by show V.int _=V.int (1*2 ^ ((n:Nat):Int).toNat);rw[ep];exact ev2))
def yY (f:Nat):Nat:=if f=2 then 54 else 12
theorem Ky {f:Nat} (h:f<3):([V.int 12,V.int 12,V.int 54])[f]? =some (.int ((yY f:Nat):Int)):=by
 rcases(show f=0∨f=1∨f=2 by omega) with rfl | rfl | rfl<;>rfl
theorem Kz {f M i:Nat} (h:f<3):([V.int 0,V.int (0+(i:Int)),V.int (M:Int)])[f]? =some (.int ((gc f M i:Nat):Int)):=by
 rcases(show f=0∨f=1∨f=2 by omega) with rfl | rfl | rfl
 ·rfl
 ·rw[Int.zero_add];rfl
 ·rfl
def HK:Sp:=fun vs H Q _=>∃(F L nm:Addr) (b k:Nat) (ss:List Str),vs=[.ref F,.int b,.ref nm,.int k]∧bp H F L∧2≤b∧b≤4∧H nm=some (.tup (ss.map V.str))∧k<ss.length∧ss.length≤3∧
 ∀(ma:Addr) (f M:Nat) (cs:Nat→Nat) (mv:List (List Nat)) (H':Hp),cB F L H H'→bp H' F L→fK H' ma nm (cbs M) mv→ke f M (b ^ ss.length) cs mv→f<3→8≤M→M≤61→(∀r,r<M-1→∃g,g<b∧cs r=g*b ^ (ss.length-1-k))→cs (M-2)≠0→Q (.ref ma) H'
theorem cj:aS ["_law_feed_here","_law_base","_law_names_here","_law_at","_law_form","_law_many","_law_step","_law_letters_here","_law_k","_law_moves","_law_room","_law_goes","_law_figure"] ["_law_feed_here","_law_base","_law_names_here","_law_at"] (aj fI):=⟨rfl,rfl,rfl,by decide+kernel,rfl,by decide+kernel,by decide+kernel⟩
set_option maxHeartbeats 16000000 in
theorem As {a:bW} (T:Txt K mg a):bf P w K mg base bT 2 a.kG a.mR ["_law_feed_here","_law_base","_law_names_here","_law_at"] HK:=by
 have bV:=kK (P:=P) (w:=w) (base:=base) T
 refine T.B'.ok cj (fun vs H Q E h=>?_) (fun cdv A outer s H vs Q E hr h=>?_)
 ·obtain⟨F,L,nm,b,k,ss,rfl,_⟩:=h
  rfl
 ·obtain⟨F,L,nm,b,k,ss,rfl,hf,hb2,hb4,gb,hk,hs3,q⟩:=h
  have bE:aP 1 _:=hr
  refine⟨_,(ah (av (i:=4) cj.nd rfl (Or.inl rfl) (aC bV bE rfl T.cy T.cz T.cA .nil aN (ae (pv 0) (ae ao ag))))
  (ah (av (i:=5) cj.nd rfl (Or.inr rfl) (aG cP ao (aC bV bE rfl T.cy T.cz T.cA .nil aN (ae (pv 0) (ae (aJ (bC K) (bz (ae ao (ae ao (ae ao ag)))) (pv 4) (fun _ _=>rfl)) ag)))))
  (ah (av (i:=6) cj.nd rfl (Or.inl rfl) ao)
  (ah (av (i:=7) cj.nd rfl (Or.inl rfl) ao)
  (ah (bq PassesOwn.never rfl (bM rfl T.cq (ae (aA (aM K) (by rfl) T.bF bg (ae (pv 2) ag)) ag)) (az (i:=8) cj.nd rfl (Or.inl rfl))
   (ah (av (i:=7) cj.nd rfl (Or.inl rfl) (aG fm (pv 7) (pv 1)))
   (au (av (i:=6) cj.nd rfl (Or.inl rfl) (aJ (bC K) (bz (ae (pv 6) (ae (aG fm (pv 6) (pv 1)) ag))) (aY AU (by rfl) T.z_ vK (ae (di qh (pv 8) (pv 3) (aU _)) ag)) (fun _ _=>rfl))))))
  (ah (av (i:=9) cj.nd rfl (Or.inl rfl) (bz ag))
  (ah (bq PassesOwn.never rfl (bM rfl T.cq (ae (aG iY (pv 5) ao) ag)) (az (i:=10) cj.nd rfl (Or.inl rfl))
   (ah (av (i:=11) cj.nd rfl (Or.inl rfl) (aG Iu (bz (ae (aJ (bC K) (bz (ae ao (ae (pv 10) (ae (pv 5) ag)))) (pv 4) (fun _ _=>rfl)) ag)) (pv 7)))
   (ah (av (i:=12) cj.nd rfl (Or.inl rfl) (aC bV bE rfl T.cy T.cz T.cA .nil aN (ae (pv 0) (ae (pv 1) ag))))
   (ah (cX (PW.pt (qb (bo hJ (pv 10) (aG iY (pv 5) ao) (aU _)) (oR (bo hJ (pv 12) ao (aU _)))))
    (au (av (i:=12) cj.nd rfl (Or.inl rfl) (aG iY (pv 1) ao)))
    bR)
   (ah (qe (aG cP (pv 10) ao) (AJ (pv 11) (aG fm (pv 12) (pv 6)) set_list))
   (au (bt (cf PySem.F.plainAttrs_list PySem.F.slot_list_append PySem.F.type_list_append aZ (pv 9) (ae (aY (aX K) (by rfl) T.bS bB (ae (pv 11) ag)) ag)))))))))
  (ah (bt (cf PySem.F.plainAttrs_list PySem.F.slot_list_extend PySem.F.type_list_extend kj (pv 9) (ae (bz (ae (aG (j_ K) (bP (ae (aG iY (pv 5) ao) ag)) (pv 7)) (ae (aG (j_ K) (bP (ae (pv 5) ag)) (pv 7)) ag))) ag)))
  (au (aR (bP (ae (pv 2) (ae (aY (aX K) (by rfl) T.bS bB (ae (cF (aI.mk' (esc:=aj fI) (N:=["_law_feed_here","_law_base","_law_names_here","_law_at","_law_form","_law_many","_law_step","_law_letters_here","_law_k","_law_moves","_law_room","_law_goes","_law_figure"]) (own:=["_law_room"]) (aF:=["_law_many"]) (bJ:=[5]) rfl rfl (by decide+kernel)) rfl (bM rfl T.cq (ae (aG cP (pv 5) ao) ag)) (fun _ _ _ _=>(az (i:=0) (show List.Nodup (["_law_room","_law_many"]:List Str) by decide+kernel) rfl (Or.inl rfl))) (fun _ _ _ _=>bU) (fun _ _ _ _=>(di hJ (pv 0) (aG iY (pv 1) ao) (aU _)))) ag)) (ae (aY (aX K) (by rfl) T.bS bB (ae (pv 9) ag)) ag)))))))))))))),?_⟩
  have wZ:(2 ^ 10:Nat)<2 ^ 1000:=Nat.pow_lt_pow_right (by decide) (by decide)
  have big:(10000:Nat)≤sizeLine:=by decide
  have small:∀x:Nat,x≤1000→x<2 ^ 1000:=fun x hx=>Nat.lt_trans (show x<2 ^ 10 by omega) wZ
  refine ax fun R hR=>?_
  refine⟨_,rfl,F,L,3,rfl,hf,by decide,small _ (by decide),fun f H1 f3 k1 f1=>?_⟩
  dsimp only[ay]
  subst hR
  refine ax fun R hR=>?_
  have Oq:0<yY f∧yY f≤54:=by unfold yY;split<;>omega
  refine⟨_,rfl,by show 3≤sizeLine;decide,fun Z hZ=>⟨_,rfl,Z,_,_,.int ((yY f:Nat):Int),rfl,rfl,.of af,aB (Ky f3),F,L,yY f,rfl,f1.same (Same.new hZ),Oq.1,small _ (by omega),fun r H2 r2 k2 f2=>⟨_,_,rfl,rfl,?_⟩⟩⟩
  have k12:cB F L H H2:=(k1.trans (Same.new hZ).kb2).trans k2
  have en:(8:Int)+(r:Int)=((8+r:Nat):Int):=by omega
  dsimp only[ay]
  rw[en]
  subst hR
  refine ax fun R hR=>?_
  dsimp only[kX,tC,ay]
  subst hR
  refine ax fun R hR=>?_
  dsimp only[kX,tC,ay]
  subst hR
  obtain⟨M,hN⟩:∃M,8+r=M:=⟨_,rfl⟩
  rw[hN]
  have M8:8≤M:=by omega
  have FV:M≤61:=by omega
  clear en
  have EL:=hf.ktu k12
  have EM:=EL _ _ gb
  clear r2 Oq hN
  refine ax fun R hR=>?_
  refine⟨_,rfl,.ref nm,ss.length,rfl,.inr ⟨_,.of EM,by rw[List.length_map]⟩,_,rfl,by omega,by omega,dw (n:=((ss.length:Nat):Int).toNat) (fun i σ H'=>∃v8:Option V,σ=[some (.ref F),some (.int (b:Nat)),some (.ref nm),some (.int (k:Nat)),some (.int (f:Nat)),some (.int (M:Nat)),some (.int (b ^ (i-1-k):Nat)),some (.int (b ^ i:Nat)),v8,none,none,none,none]∧Same H2 H')
   ⟨none,?st0,.refl _⟩ ?_ ?_⟩
  case st0=>rw[show 0-1-k=0 by omega];rfl
  ·rintro i σ H3 N hX hi ⟨v8,rfl,s3⟩
   clear q hf f1 f2 k1 k2 k12 EL gb EM wZ small big M8 FV hs3
   refine ax fun R hR=>?_
   rw[Int.toNat_natCast] at hi
   have e2:((b ^ i:Nat):Int)*(b:Int)=((b ^ (i+1):Nat):Int):=by rw[Nat.pow_succ,Int.natCast_mul]
   refine⟨_,rfl,_,rfl,_,_,rfl,rfl,.inr (by constructor<;>omega),?_⟩
   dsimp only[ay]
   rw[e2]
   subst hR
   refine⟨_,rfl,_,rfl,_,rfl,_,_,rfl,rfl,.inr (by constructor<;>omega),by show 2≤sizeLine;decide,fun Y hY=>⟨_,rfl,_,rfl,_,_,rfl,rfl,.inr ⟨_,rfl,Y,_,_,.int ((b ^ (i+1-1-k):Nat):Int),rfl,rfl,.of af,?aa,hX _ _ ⟨_,rfl,s3.trans (Same.new hY)⟩⟩⟩⟩
   case aa=>
    by_cases z:k<i
    ·rw[show decide ((k:Int)<0+(i:Int))=true from decide_eq_true (by omega)]
     refine aB (j:=1) ?_
     show some (V.int (((b ^ (i-1-k):Nat):Int)*(b:Int)))=_
     rw[←Int.natCast_mul,←Nat.pow_succ,show i+1-1-k=(i-1-k)+1 by omega]
    ·rw[show decide ((k:Int)<0+(i:Int))=false from decide_eq_false (by omega)]
     refine aB (j:=0) ?_
     show some (V.int ((b ^ (i-1-k):Nat):Int))=_
     rw[show i+1-1-k=i-1-k by omega]
  rintro σ H3 ⟨v8,rfl,s3⟩
  rw[Int.toNat_natCast]
  have hB2:2≤b ^ ss.length:=Nat.le_trans hb2 (by
   have:=Nat.pow_le_pow_right (show 0<b by omega) (show 1≤ss.length by omega)
   rwa [Nat.pow_one] at this)
  have P1:b ^ ss.length≤64:=Nat.le_trans (Nat.pow_le_pow_left hb4 _) (Nat.le_trans (Nat.pow_le_pow_right (show 0<4 by decide) hs3) (by decide))
  have hst:∀g,g<b→g*b ^ (ss.length-1-k)<b ^ ss.length:=fun g hg=>by
   have h1:g*b ^ (ss.length-1-k)<b*b ^ (ss.length-1-k):=Nat.mul_lt_mul_of_pos_right hg (Nat.pow_pos (by omega))
   have h2:b*b ^ (ss.length-1-k)≤b ^ ss.length:=by
    rw[Nat.mul_comm,←Nat.pow_succ]
    exact Nat.pow_le_pow_right (by omega) (by omega)
   omega
  have KA:0<b ^ (ss.length-1-k):=Nat.pow_pos (by omega)
  generalize W_:b ^ ss.length=B at hB2 P1 hst q ⊢
  generalize b ^ (ss.length-1-k)=st at hst KA q ⊢
  have FW:=f2.same s3
  have k3:cB F L H H3:=k12.trans s3.kb2
  subst hR
  dsimp only
  refine ax fun R hR=>?_
  refine⟨by decide,fun Mv FX=>?_⟩
  have FY:=FW.ux FX
  have oC:=FW.lo k3 FX
  dsimp only[ay]
  subst hR
  refine ax fun R hR=>?_
  clear hs3 hk
  refine⟨_,rfl,_,_,rfl,rfl,_,rfl,by omega,by omega,dw (n:=((M:Int)-1).toNat) (fun i σ H'=>∃(ps:List Addr) (mv:List (List Nat)) (cl:List Nat) (v10 v11 KC:Option V),σ=[some (.ref F),some (.int (b:Nat)),some (.ref nm),some (.int (k:Nat)),some (.int (f:Nat)),some (.int (M:Nat)),some (.int (st:Nat)),some (.int (B:Nat)),v8,some (.ref Mv),v10,v11,KC]∧cB F L H H'∧bp H' F L∧H' Mv=some (.lst (ps.map V.ref))∧bX H' ps (mv.map ai)∧mv.length=i∧cl.length=i∧(∀r,r<i→mv[r]? =some (fE f M B (cl.getD r 0) r))∧∀r,r<i→∃g,g<b∧cl.getD r 0=g*st∧(r=M-2→g≠0))
   ⟨[],[],[],none,none,none,rfl,k3.trans (Same.new FX).kb2,FW.same (Same.new FX),af,.nil,rfl,rfl,fun r hr=>absurd hr (Nat.not_lt_zero _),fun r hr=>absurd hr (Nat.not_lt_zero _)⟩ ?_ ?_⟩
  ·rintro i σ H4 N hX hi ⟨ps,mv,cl,v10,v11,KC,rfl,k4,f4,m4,w_,lm,lc,hlow,hg⟩
   have hi':i<M-1:=by omega
   clear q hf f1 f2 FW k1 k2 k12 EL gb EM wZ k3 s3 hi M8
   refine ax fun R hR=>?_
   have lps:ps.length=i:=by rw[Paired.length w_,List.length_map,lm]
   refine⟨_,rfl,_,rfl,by show 3≤sizeLine;decide,fun Y hY=>⟨_,rfl,Y,_,_,.int ((gc f M i:Nat):Int),rfl,rfl,.of af,aB (Kz f3),by show 1≤sizeLine;decide,fun Z hZ=>?_⟩⟩
   have sY:=Same.new (o:=.lst [.int 0,.int (0+(i:Int)),.int (M:Int)]) hY
   have sZ:=Same.new (o:=.lst [.int ((gc f M i:Nat):Int)]) hZ
   refine⟨_,rfl,Z,(B:Int),[.int ((gc f M i:Nat):Int)],rfl,rfl,af,by omega,by omega,by rw[Int.toNat_natCast];show 1*B≤_;omega,fun Rw KD=>?_⟩
   rw[Int.toNat_natCast,jJ]
   have sR:=Same.new (o:=.lst ((ai (List.replicate B (gc f M i))).map V.int)) KD
   have s5:=(sY.trans sZ).trans sR
   have nR:=(f4.same (sY.trans sZ)).ux KD
   have C_:H4 Rw=none:=(sY.trans sZ).free KD
   have r5:(upd (upd (upd H4 Y (.lst [.int 0,.int (0+(i:Int)),.int (M:Int)])) Z (.lst [.int ((gc f M i:Nat):Int)])) Rw (.lst ((ai (List.replicate B (gc f M i))).map V.int))) Rw=_:=af
   have f5:=f4.same s5
   dsimp only[ay]
   subst hR
   refine ax fun R hR=>?_
   refine⟨_,rfl,_,rfl,F,L,b,rfl,f5,by omega,small _ (by omega),fun g H6 g1 k6 f6=>?_⟩
   have r6:=k6 _ _ r5 nR.1 nR.2
   have Ot:cB F L H4 H6:=s5.kb2.trans k6
   clear s5 f5 r5 sR sY sZ k6
   dsimp only[ay]
   subst hR
   refine gN (t:=mr _ _ _) (fun σ H'=>∃g':Nat,σ=[some (.ref F),some (.int (b:Nat)),some (.ref nm),some (.int (k:Nat)),some (.int (f:Nat)),some (.int (M:Nat)),some (.int (st:Nat)),some (.int (B:Nat)),v8,some (.ref Mv),some (.int (0+(i:Int))),some (.ref Rw),some (.int (g':Nat))]∧g'<b∧(i=M-2→g'≠0)∧H'=H6) ?_ (fun R rest=>?_)
   ·rintro σ H7 ⟨g',rfl,hg1,hg2,rfl⟩
    have hgs:=hst g' hg1
    clear hst KA g1
    refine ax fun R hR=>?_
    refine⟨_,rfl,_,_,rfl,rfl,_,rfl,_,rfl,_,rfl,_,_,rfl,rfl,.inl (by constructor<;>omega),Rw,_,_,g'*st,rfl,rfl,r6,?ix,?_⟩
    case ix=>
     rw[←Int.natCast_mul]
     exact JB (by rw[List.length_map,aD,List.length_replicate];exact hgs)
    have ep:((ai (List.replicate B (gc f M i))).map V.int).set (g'*st) (.int (0+(i:Int)+1))=(ai (fE f M B (g'*st) i)).map V.int:=by
     unfold fE
     rw[←Ce,show(0:Int)+(i:Int)+1=((i+1:Nat):Int) by omega]
    rw[ep]
    have m6:=Ot _ _ m4 FY.1 FY.2
    have UG:Mv≠Rw:=aq m4 C_
    have f7:=f6.upd (o:=.lst ((ai (fE f M B (g'*st) i)).map V.int)) nR
    have k7:cB F L H4 (upd H7 Rw (.lst ((ai (fE f M B (g'*st) i)).map V.int))):=cB.oN Ot C_
    have m7:(upd H7 Rw (.lst ((ai (fE f M B (g'*st) i)).map V.int))) Mv=some (.lst (ps.map V.ref)):=by rw[ak UG];exact m6
    have r7:(upd H7 Rw (.lst ((ai (fE f M B (g'*st) i)).map V.int))) Rw=some (.lst ((ai (fE f M B (g'*st) i)).map V.int)):=af
    generalize upd H7 Rw (.lst ((ai (fE f M B (g'*st) i)).map V.int))=H8 at f7 k7 m7 r7 ⊢
    subst hR
    dsimp only
    refine⟨_,rfl,.inl ⟨rfl,_,.of m7⟩,_,rfl,Rw,_,rfl,.inl ⟨.of r7,fun D hD=>?_⟩⟩
    have sD:=Same.new (o:=.tup ((ai (fE f M B (g'*st) i)).map V.int)) hD
    have m8:=sD _ _ m7
    have ktM:a_ (upd H8 D (.tup ((ai (fE f M B (g'*st) i)).map V.int))) (upd (upd H8 D (.tup ((ai (fE f M B (g'*st) i)).map V.int))) Mv (.lst (ps.map V.ref++[.ref D]))):=a_.lst m8
    refine⟨Mv,_,_,rfl,rfl,m8,by rw[List.length_map,lps];omega,hX _ _ ⟨ps++[D],mv++[fE f M B (g'*st) i],cl++[g'*st],_,_,_,rfl,cB.oN ((k4.trans k7).trans sD.kb2) oC,(f7.same sD).upd FY,by rw[af,List.map_append];rfl,?_,by rw[List.length_append,lm];rfl,by rw[List.length_append,lc];rfl,fun r hr=>?_,fun r hr=>?_⟩⟩
    ·rw[List.map_append]
     exact bu (((w_.keep (f4.ktu k7)).keep sD.kt).keep ktM) (.cons (ktM _ _ af) .nil)
    ·by_cases z:r<i
     ·have e1:(cl++[g'*st]).getD r 0=cl.getD r 0:=by rw[List.getD_eq_getElem?_getD,List.getElem?_append_left (by omega),←List.getD_eq_getElem?_getD]
      rw[List.getElem?_append_left (by omega),hlow r z,e1]
     ·obtain rfl:r=i:=by omega
      have e1:(cl++[g'*st]).getD r 0=g'*st:=by rw[List.getD_eq_getElem?_getD,List.getElem?_append_right (by omega),lc,Nat.sub_self];rfl
      rw[List.getElem?_append_right (by omega),lm,Nat.sub_self,e1]
      rfl
    ·by_cases z:r<i
     ·rw[List.getD_eq_getElem?_getD,List.getElem?_append_left (by omega),←List.getD_eq_getElem?_getD]
      exact hg r z
     ·obtain rfl:r=i:=by omega
      rw[List.getD_eq_getElem?_getD,List.getElem?_append_right (by omega),lc,Nat.sub_self]
      exact⟨g',hg1,rfl,hg2⟩
   ·dsimp only[mr]
    refine⟨_,rfl,_,rfl,_,_,rfl,rfl,rfl,_,rfl,?_⟩
    refine dk (fun z=>?_) (fun z=>?_)
    ·refine⟨_,rfl,rfl,_,rfl,?_⟩
     refine dk (fun y=>?_) (fun y=>?_)
     ·refine⟨_,rfl,_,_,rfl,rfl,rest _ _ ⟨b-1,?_,by omega,fun _=>by omega,rfl⟩⟩
      rw[show((b-1:Nat):Int)=(b:Int)-1 by omega]
      rfl
     ·exact rest _ _ ⟨g,rfl,g1,fun _ e=>y (decide_eq_true (by rw[e];rfl)),rfl⟩
    ·refine rest _ _ ⟨g,rfl,g1,fun e=>absurd (decide_eq_true ?_) z,rfl⟩
     rw[show(0:Int)+(i:Int)=(M:Int)-2 by omega]
  rintro σ H4 ⟨ps,mv,cl,v10,v11,KC,rfl,k4,f4,m4,w_,lm,lc,hlow,hg⟩
  have eM:((M:Int)-1).toNat=M-1:=by omega
  rw[eM] at lm lc hlow hg
  have UH:(M:Int)-1=((M-1:Nat):Int):=by omega
  have lps:ps.length=M-1:=by rw[Paired.length w_,List.length_map,lm]
  subst hR
  dsimp only
  refine ax fun R hR=>?_
  refine⟨_,rfl,.inl ⟨rfl,_,.of m4⟩,_,rfl,_,_,rfl,rfl,by show 1≤sizeLine;decide,fun A1 UI=>⟨_,rfl,A1,_,B,rfl,rfl,.of af,by simp,hB2,by show 1*B≤_;omega,fun R1 UJ=>?_⟩⟩
  have er:(List.replicate B [V.int ((M:Int)-1)]).flatten=(ai (List.replicate B (M-1))).map V.int:=by rw[UH,jJ]
  rw[er]
  have UK:=Same.new (o:=.tup [.int ((M:Int)-1)]) UI
  have UL:=Same.new (o:=.tup ((ai (List.replicate B (M-1))).map V.int)) UJ
  refine⟨_,rfl,by show 1≤sizeLine;decide,fun A2 UM=>⟨_,rfl,A2,_,B,rfl,rfl,.of af,by simp,hB2,by show 1*B≤_;omega,fun R2 UN=>?_⟩⟩
  rw[jJ]
  have Ou:=Same.new (o:=.tup [.int ((M:Nat):Int)]) UM
  have Ov:=Same.new (o:=.tup ((ai (List.replicate B M)).map V.int)) UN
  refine⟨by show 2≤sizeLine;decide,fun El UO=>?_⟩
  have KG:=Same.new (o:=.lst [.ref R1,.ref R2]) UO
  have df:=(((UK.trans UL).trans Ou).trans Ov).trans KG
  have UP:=(Ou.trans Ov).trans KG
  have m5:=df _ _ m4
  have t1:=UP _ _ (show(upd _ R1 (.tup ((ai (List.replicate B (M-1))).map V.int))) R1=_ from af)
  have t2:=KG _ _ (show(upd _ R2 (.tup ((ai (List.replicate B M)).map V.int))) R2=_ from af)
  have Ow:=w_.keep df.kt
  have f5:=f4.same df
  have k5:=k4.trans df.kb2
  refine⟨Mv,El,_,_,rfl,rfl,m5,af,by rw[List.length_map,lps];show M-1+2≤_;omega,?_⟩
  have ktM:=a_.lst (o:=.lst (ps.map V.ref++[.ref R1,.ref R2])) m5
  generalize upd (upd (upd (upd (upd H4 A1 (.tup [.int ((M:Int)-1)])) R1 (.tup ((ai (List.replicate B (M-1))).map V.int))) A2 (.tup [.int ((M:Nat):Int)])) R2 (.tup ((ai (List.replicate B M)).map V.int))) El (.lst [.ref R1,.ref R2])=H5 at m5 t1 t2 Ow f5 k5 ktM ⊢
  have C0:bX (upd H5 Mv (.lst (ps.map V.ref++[.ref R1,.ref R2]))) (ps++[R1,R2]) ((mv++[List.replicate B (M-1),List.replicate B M]).map ai):=by
   rw[List.map_append]
   exact bu (Ow.keep ktM) (.cons (ktM _ _ t1) (.cons (ktM _ _ t2) .nil))
  have f6:=f5.upd (o:=.lst (ps.map V.ref++[.ref R1,.ref R2])) FY
  have k6:cB F L H (upd H5 Mv (.lst (ps.map V.ref++[.ref R1,.ref R2]))):=cB.oN k5 oC
  have m6:(upd H5 Mv (.lst (ps.map V.ref++[.ref R1,.ref R2]))) Mv=some (.lst ((ps++[R1,R2]).map V.ref)):=by rw[af,List.map_append];rfl
  generalize upd H5 Mv (.lst (ps.map V.ref++[.ref R1,.ref R2]))=H6 at C0 f6 k6 m6 ⊢
  subst hR
  dsimp only
  refine⟨_,rfl,_,rfl,_,_,rfl,rfl,_,rfl,by omega,by omega,fun Y hY=>?_⟩
  refine fR (fun j σ H'=>∃v:Option V,σ=[v,some (.int (M:Nat))]∧Same H6 H'∧H' Y=some (.lst (((List.range j).map fun r=>decide (r=M-1)).map V.bl)))
   ⟨none,?sg,Same.new hY,af⟩ ?_ ?_
  case sg=>rfl
  ·rintro j σ H7 hj ⟨v,rfl,s7,y7⟩
   have hj':j<M+1:=by omega
   refine⟨_,rfl,_,rfl,_,_,rfl,rfl,rfl,_,y7,?_,_,rfl,s7.kbn hY KB.write,?_⟩
   ·rw[List.length_map,List.length_map,List.length_range];omega
   ·rw[af,List.range_succ,List.map_append,List.map_append]
    show some (HO.lst (_++[V.bl (decide (V.int (0+(j:Int))=V.int ((M:Int)-1)))]))=some (HO.lst (_++[V.bl (decide (j=M-1))]))
    rw[show decide (V.int (0+(j:Int))=V.int ((M:Int)-1))=decide (j=M-1) from decide_eq_decide.mpr ⟨fun e=>by injection e;omega,fun e=>by rw[e];congr 1;omega⟩]
  rintro σ H7 ⟨v,rfl,s7,y7⟩
  have eL:((M:Int)+1).toNat=M+1:=by omega
  rw[eL] at y7
  have UQ:H7 Y=some (.lst ((cbs M).map V.bl)):=y7
  refine⟨Y,_,rfl,.inl ⟨.of UQ,fun D hD=>?_⟩⟩
  have sD:=Same.new (o:=.tup ((cbs M).map V.bl)) hD
  have s8:=s7.trans sD
  refine⟨_,rfl,Mv,_,rfl,.inl ⟨.of (s8 _ _ m6),fun N hN=>?_⟩⟩
  have sN:=Same.new (o:=.tup ((ps++[R1,R2]).map V.ref)) hN
  refine⟨by show 3≤sizeLine;decide,fun ma hma=>?_⟩
  have qZ:=Same.new (o:=.tup [.ref nm,.ref D,.ref N]) hma
  have s9:=(s8.trans sN).trans qZ
  refine q ma f M (fun r=>cl.getD r 0) (mv++[List.replicate B (M-1),List.replicate B M]) _ (k6.trans s9.kb2) (f6.same s9) ⟨D,N,ps++[R1,R2],af,qZ _ _ (sN _ _ af),qZ _ _ af,C0.keep s9.kt⟩ ⟨?_,?_,?_,?_⟩ f3 M8 FV (fun r hr=>?_) ?_
  ·rw[List.length_append,lm];show M-1+2=_;omega
  ·intro r hr
   rw[List.getElem?_append_left (by omega)]
   exact hlow r hr
  ·rw[List.getElem?_append_right (by omega),lm,Nat.sub_self];rfl
  ·rw[List.getElem?_append_right (by omega),lm,show M-(M-1)=1 by omega];rfl
  ·obtain⟨g,h1,h2,_⟩:=hg r hr
   exact⟨g,h1,h2⟩
  ·obtain⟨g,h1,h2,h3⟩:=hg (M-2) (by omega)
   show cl.getD (M-2) 0≠0
   rw[h2]
   have:=h3 rfl
   exact Nat.mul_ne_zero this (by omega)
def Lf (x y:V):Prop:=(∃i:Int,x=.int i∧y=.int i)∨(∃b:Bool,x=.bl b∧y=.bl b)∨∃s:Str,x=.str s∧y=.str s
def Tr (H:Hp):Nat→V→V→Prop
 | 0,_,_=>False
 | n+1,x,y=>Lf x y∨∃(p q:Addr) (xs ys:List V),x=.ref p∧y=.ref q∧((H p=some (.tup xs)∧H q=some (.tup ys))∨(H p=some (.lst xs)∧H q=some (.lst ys)))∧xs.length=ys.length∧xs.length≤3000∧∀(i:Nat) (u v:V),xs[i]? =some u→ys[i]? =some v→Tr H n u v
theorem Tr.keep {H H':Hp} (k:Same H H'):∀{n:Nat} {x y:V},Tr H n x y→Tr H' n x y
 | 0,_,_,h=>h
 | n+1,x,y,h=>by
  rcases h with h | ⟨p,q,xs,ys,e1,e2,h1,h3,h4,h5⟩
  ·exact .inl h
  ·exact .inr ⟨p,q,xs,ys,e1,e2,h1.imp (fun z=>⟨k _ _ z.1,k _ _ z.2⟩) (fun z=>⟨k _ _ z.1,k _ _ z.2⟩),h3,h4,fun i u v hu hv=>(h5 i u v hu hv).keep k⟩
def pf (n:Nat):Sp:=fun vs H Q _=>∃(x y:V),vs=[x,y]∧Tr H n x y∧∀H',Same H H'→Q (.bl true) H'
theorem yZ (n:Nat):(List.replicate n true).all id=true:=by
 rw[List.all_eq_true]
 intro b hb
 rw[List.eq_of_mem_replicate hb];rfl
theorem xq:PySem.W.kitOne K (.type "list") (.type "tuple")=some false:=by rfl
theorem De:PySem.W.kitOne K (.type "tuple") (.type "list")=some false:=by rfl
theorem KH:PySem.W.kitOne K (.type "int") (.type "tuple")=some false:=by rfl
theorem KI:PySem.W.kitOne K (.type "int") (.type "list")=some false:=by rfl
theorem KJ:PySem.W.kitOne K (.type "bool") (.type "tuple")=some false:=by rfl
theorem KL:PySem.W.kitOne K (.type "bool") (.type "list")=some false:=by rfl
theorem KN:PySem.W.kitOne K (.type "bool") (.type "int")=some true:=by rfl
theorem KO:PySem.W.kitOne K (.type "str") (.type "tuple")=some false:=by rfl
theorem KP:PySem.W.kitOne K (.type "str") (.type "list")=some false:=by rfl
theorem KQ:PySem.W.kitOne K (.type "str") (.type "bool")=some false:=by rfl
theorem KR:PySem.W.kitOne K (.type "str") (.type "int")=some false:=by rfl
theorem Au:aS ["_law_found","_law_due_here"] ["_law_found","_law_due_here"] (aj fH):=⟨rfl,rfl,rfl,by decide+kernel,rfl,by decide+kernel,by decide+kernel⟩
set_option maxHeartbeats 16000000 in
theorem xW {a:bW} (T:Txt K mg a) {n:Nat} (fN:bf P w K mg base bT (n+1) a.fJ a.fX ["_law_found","_law_due_here"] (pf n)):bf P w K mg base bT (n+1+1) a.fJ a.fX ["_law_found","_law_due_here"] (pf (n+1)):=by
 refine T.B9.ok Au (fun vs H Q E h=>?_) (fun cdv A outer s H vs Q E hr h=>?_)
 ·obtain⟨x,y,rfl,_⟩:=h
  rfl
 ·obtain⟨x,y,rfl,tr,k⟩:=h
  have fj:aP (n+1) _:=hr
  refine⟨_,(ah (cX (PW.pt (qc (dB (aA (dz K) (by rfl) T.cw b_ (ae (pv 1) (ae (fu (v:=.ty "tuple") rfl T.bS bB rfl) ag))) (fun _=>rfl)) (nJ (dB (aA (dz K) (by rfl) T.cw b_ (ae (pv 1) (ae (fu (v:=.ty "list") rfl T.qL oT rfl) ag))) (fun _=>rfl)))))
   (ah (cX (PW.pt (qc (bo my (aA (dz K) (by rfl) T.cw b_ (ae (pv 0) (ae (fu (v:=.ty "tuple") rfl T.bS bB rfl) ag))) (aA (dz K) (by rfl) T.cw b_ (ae (pv 1) (ae (fu (v:=.ty "tuple") rfl T.bS bB rfl) ag))) (aU _)) (nJ (bo my (aA (dz K) (by rfl) T.cw b_ (ae (pv 0) (ae (fu (v:=.ty "list") rfl T.qL oT rfl) ag))) (aA (dz K) (by rfl) T.cw b_ (ae (pv 1) (ae (fu (v:=.ty "list") rfl T.qL oT rfl) ag))) (aU _)))))
    (au (aR iO))
    bR)
   (au (aR (lG (di hJ (aA (aM K) (by rfl) T.bF bg (ae (pv 0) ag)) (aA (aM K) (by rfl) T.bF bg (ae (pv 1) ag)) (aU _)) (qd (aA (Bi K rfl) (by rfl) T.M0 IH (ae (cF (aI.mk' (esc:=aj fH) (N:=["_law_found","_law_due_here"]) (own:=["_law_one","_law_other"]) (aF:=[]) (bJ:=[]) rfl rfl (by decide+kernel)) rfl (Hg rfl T.M5 (ae (pv 0) (ae (pv 1) ag))) (fun _ _ _ _=>(yo K (n:=2) rfl (dj (az (i:=0) (show List.Nodup (["_law_one","_law_other"]:List Str) by decide+kernel) rfl (Or.inl rfl)) (dj (az (i:=1) (show List.Nodup (["_law_one","_law_other"]:List Str) by decide+kernel) rfl (Or.inl rfl)) jD)))) (fun _ _ _ _=>bU) (fun _ _ _ _=>(aC fN fj rfl T.gU T.gV T.gW .nil aN (ae (pv 0) (ae (pv 1) ag))))) ag)))))))
   bR)
  (ah (cX (PW.pt (qc (bo my (aA (dz K) (by rfl) T.cw b_ (ae (pv 0) (ae (fu (v:=.ty "bool") rfl T.wA rC rfl) ag))) (aA (dz K) (by rfl) T.cw b_ (ae (pv 1) (ae (fu (v:=.ty "bool") rfl T.wA rC rfl) ag))) (aU _)) (nJ (bo my (aA (dz K) (by rfl) T.cw b_ (ae (pv 0) (ae (fu (v:=.ty "int") rfl T.z_ vK rfl) ag))) (aA (dz K) (by rfl) T.cw b_ (ae (pv 1) (ae (fu (v:=.ty "int") rfl T.z_ vK rfl) ag))) (aU _)))))
   (au (aR iO))
   bR)
  (au (aR (di hJ (pv 0) (pv 1) (aU _)))))),?_⟩
  have big:(10000:Nat)≤sizeLine:=by decide
  rcases tr with lf | ⟨p,q,xs,ys,rfl,rfl,⟨e1,e2⟩ | ⟨e1,e2⟩,hl,h3,sub⟩
  ·obtain⟨t,b1,b2,ty1,ty2,k1,k2,k3,k4,sc,eq⟩:∃(t:Value) (b1 b2:Bool),gg K H x t∧gg K H y t∧PySem.W.kitOne K t (.type "tuple")=some false∧PySem.W.kitOne K t (.type "list")=some false∧PySem.W.kitOne K t (.type "bool")=some b1∧PySem.W.kitOne K t (.type "int")=some b2∧Dw x y=true∧x=y:=by
    rcases lf with⟨i,rfl,rfl⟩ | ⟨b,rfl,rfl⟩ | ⟨z,rfl,rfl⟩
    ·exact⟨_,false,true,.int i,.int i,KH,KI,IE,IC,rfl,rfl⟩
    ·exact⟨_,true,true,.bl b,.bl b,KJ,KL,I_,KN,rfl,rfl⟩
    ·exact⟨_,false,false,.str z,.str z,KO,KP,KQ,KR,rfl,rfl⟩
   refine ax fun Y hY=>?_
   refine⟨_,rfl,y,t,"tuple",false,rfl,ty2,k1,false,rfl,cm ?_⟩
   refine⟨_,rfl,y,t,"list",false,rfl,ty2,k2,false,rfl,cm ?_⟩
   subst hY
   dsimp only[g7]
   refine ax fun Y hY=>?_
   refine⟨_,rfl,x,t,"bool",b1,rfl,ty1,k3,_,rfl,y,t,"bool",b1,rfl,ty2,k3,rfl,_,rfl,?_⟩
   rw[show(!decide (V.bl b1=V.bl b1))=false by rw[decide_eq_true rfl];rfl]
   refine cm ?_
   refine⟨_,rfl,x,t,"int",b2,rfl,ty1,k4,_,rfl,y,t,"int",b2,rfl,ty2,k4,rfl,_,rfl,?_⟩
   rw[show(!decide (V.bl b2=V.bl b2))=false by rw[decide_eq_true rfl];rfl]
   refine cm ?_
   subst hY
   dsimp only[g7]
   refine⟨_,rfl,_,rfl,sc,?_⟩
   rw[decide_eq_true eq]
   exact k H (.refl _)
  ·refine ax fun Y hY=>?_
   refine⟨_,rfl,.ref q,_,"tuple",true,rfl,.tup e2,vI,true,rfl,fA ?_⟩
   refine fA ?_
   refine ax fun Y2 dM=>?_
   refine⟨_,rfl,.ref p,_,"tuple",true,rfl,.tup e1,vI,_,rfl,.ref q,_,"tuple",true,rfl,.tup e2,vI,rfl,_,rfl,cm ?_⟩
   refine⟨_,rfl,.ref p,_,"list",false,rfl,.tup e1,De,_,rfl,.ref q,_,"list",false,rfl,.tup e2,De,rfl,_,rfl,cm ?_⟩
   subst dM
   dsimp only[g7]
   refine⟨_,rfl,_,xs.length,rfl,.inr ⟨_,.of e1,rfl⟩,_,rfl,_,ys.length,rfl,.inr ⟨_,.of e2,rfl⟩,rfl,_,rfl,?_⟩
   rw[hl,show decide (V.int ((ys.length:Nat):Int)=V.int ((ys.length:Nat):Int))=true from decide_eq_true rfl]
   refine fA ?_
   refine .inr ⟨_,rfl,_,rfl,p,q,rfl,⟨_,.of e1⟩,⟨_,.of e2⟩,fun C hC=>?_⟩
   refine BG (xs:=xs) (ys:=ys) (fun i σ H'=>∃v0 v1:Option V,σ=[v0,v1]∧Same H H'∧H' C=some (.lst ((List.replicate i true).map V.bl))) hl
    ⟨none,none,?sg,Same.new hC,af⟩ (by rintro i σ H' _ ⟨_,_,_,s,_⟩;exact⟨.of (s _ _ e1),.of (s _ _ e2)⟩) ?_ ?_
   case sg=>rfl
   ·rintro i u v r σ H1 hu hv ⟨v0,v1,rfl,s1,c1⟩ hr'
    have hi:=(List.getElem?_eq_some_iff.mp hu).1
    have sp:=Same.new (o:=.tup [u,v]) hr'
    refine⟨r,_,rfl,.of af,rfl,_,_,rfl,_,_,rfl,rfl,?_⟩
    refine⟨_,rfl,_,rfl,u,v,rfl,(sub i u v hu hv).keep (s1.trans sp),fun H2 s2=>?_⟩
    have s3:=(s1.trans sp).trans s2
    refine⟨_,s2 _ _ (sp _ _ c1),by rw[List.length_map,List.length_replicate];omega,_,_,rfl,s3.kbn hC KB.write,?_⟩
    rw[af,List.replicate_succ',List.map_append];rfl
   rintro σ H1 ⟨v0,v1,rfl,s1,c1⟩
   refine⟨C,_,rfl,.of c1,?_⟩
   rw[yZ]
   exact k H1 s1
  ·refine ax fun Y hY=>?_
   refine⟨_,rfl,.ref q,_,"tuple",false,rfl,.lst e2,xq,false,rfl,cm ?_⟩
   refine⟨_,rfl,.ref q,_,"list",true,rfl,.lst e2,vH,true,rfl,fA ?_⟩
   refine ax fun Y2 dM=>?_
   refine⟨_,rfl,.ref p,_,"tuple",false,rfl,.lst e1,xq,_,rfl,.ref q,_,"tuple",false,rfl,.lst e2,xq,rfl,_,rfl,cm ?_⟩
   refine⟨_,rfl,.ref p,_,"list",true,rfl,.lst e1,vH,_,rfl,.ref q,_,"list",true,rfl,.lst e2,vH,rfl,_,rfl,cm ?_⟩
   subst dM
   dsimp only[g7]
   refine⟨_,rfl,_,xs.length,rfl,.inl ⟨_,.of e1,rfl⟩,_,rfl,_,ys.length,rfl,.inl ⟨_,.of e2,rfl⟩,rfl,_,rfl,?_⟩
   rw[hl,show decide (V.int ((ys.length:Nat):Int)=V.int ((ys.length:Nat):Int))=true from decide_eq_true rfl]
   refine fA ?_
   refine .inl ⟨_,rfl,_,rfl,p,q,rfl,⟨_,.of e1⟩,⟨_,.of e2⟩,fun C hC=>?_⟩
   refine D6 (xs:=xs) (ys:=ys) (fun i σ H'=>∃v0 v1:Option V,σ=[v0,v1]∧Same H H'∧H' C=some (.lst ((List.replicate i true).map V.bl))) hl
    ⟨none,none,?sg,Same.new hC,af⟩ (by rintro i σ H' _ ⟨_,_,_,s,_⟩;exact⟨.of (s _ _ e1),.of (s _ _ e2)⟩) ?_ ?_
   case sg=>rfl
   ·rintro i u v r σ H1 hu hv ⟨v0,v1,rfl,s1,c1⟩ hr'
    have hi:=(List.getElem?_eq_some_iff.mp hu).1
    have sp:=Same.new (o:=.tup [u,v]) hr'
    refine⟨r,_,rfl,.of af,rfl,_,_,rfl,_,_,rfl,rfl,?_⟩
    refine⟨_,rfl,_,rfl,u,v,rfl,(sub i u v hu hv).keep (s1.trans sp),fun H2 s2=>?_⟩
    have s3:=(s1.trans sp).trans s2
    refine⟨_,s2 _ _ (sp _ _ c1),by rw[List.length_map,List.length_replicate];omega,_,_,rfl,s3.kbn hC KB.write,?_⟩
    rw[af,List.replicate_succ',List.map_append];rfl
   rintro σ H1 ⟨v0,v1,rfl,s1,c1⟩
   refine⟨C,_,rfl,.of c1,?_⟩
   rw[yZ]
   exact k H1 s1
theorem rg {a:bW} (T:Txt K mg a):∀n:Nat,bf P w K mg base bT (n+1) a.fJ a.fX ["_law_found","_law_due_here"] (pf n)
 | 0=>bf.none fun vs H Q E h=>by
  obtain⟨x,y,_,h,_⟩:=h
  exact h
 | n+1=>xW T (rg T n)
def ve (K:PySem.W.Frag) (ts:List Addr):Sp:=fun vs H Q _=>∃(a:Addr) (ns:List Int),vs=[.ref a]∧br K H a (ns.map V.int)∧ns.length≤63∧oX ts H∧∀H',Q (.bl true) H'
theorem bp.tb {a:bW} {H H':Hp} {F L:Addr} (t:TB a H) (f:bp H F L) (k:cB F L H H'):TB a H':=by
 obtain⟨ms,n,sd,e1,e2,_⟩:=f.ex
 have one:∀{T:Addr} {M:List (Pos×Str)},Tab H T M→Tab H' T M:=fun {T M} x=>by
  obtain⟨ps,h1,h2,h3⟩:=x
  refine⟨ps,k _ _ h1 (fun z=>by rw[z,e1] at h1;cases h1) (fun z=>by rw[z,e2] at h1;cases h1),h2,fun p hp=>?_⟩
  rcases h3 p hp with z | ⟨c,z1,z2⟩
  ·exact .inl z
  ·exact .inr ⟨c,z1,k _ _ z2 (fun z=>by rw[z,e1] at z2;cases z2) fun z=>by rw[z,e2] at z2;cases z2⟩
 exact⟨one t.sg,one t.du⟩
theorem bp.kx {a:bW} {H H':Hp} {F L:Addr} (f:bp H F L) (k:KX a H H'):bp H' F L:=by
 obtain⟨ms,n,sd,e1,e2,h⟩:=f.ex
 exact⟨ms,n,sd,k _ _ e1 (fun _ z=>nomatch z),k _ _ e2 (fun _ z=>nomatch z),h⟩
theorem TB.lst {a:bW} {H:Hp} {S:Addr} {xs:List V} {o:HO} (t:TB a H) (e:H S=some (.lst xs)):TB a (upd H S o):=by
 have one:∀{T:Addr} {M:List (Pos×Str)},Tab H T M→Tab (upd H S o) T M:=fun {T M} x=>by
  obtain⟨ps,h1,h2,h3⟩:=x
  refine⟨ps,by rw[ak (fun z=>by rw[z,e] at h1;cases h1)];exact h1,h2,fun p hp=>?_⟩
  rcases h3 p hp with z | ⟨c,z1,z2⟩
  ·exact .inl z
  ·exact .inr ⟨c,z1,by rw[ak (fun z=>by rw[z,e] at z2;cases z2)];exact z2⟩
 exact⟨one t.sg,one t.du⟩
theorem fresh_ne {H:Hp} {R b:Addr} {o:HO} (h:∀o,H R=some o→∃qs,o=.dZ qs) (e:H b=some o) (hn:∀qs,o≠.dZ qs):R≠b:=fun z=>by
 rw[←z] at e
 obtain⟨qs,y⟩:=h o e
 exact hn qs y
theorem rh {H:Hp} {n:Nat} {p q:Addr} {α:Type} (f:α→V) (l:List α) (hf:∀x,Lf (f x) (f x)) (e1:H p=some (.tup (l.map f))) (e2:H q=some (.tup (l.map f))) (hl:l.length≤3000):Tr H (n+2) (.ref p) (.ref q):=
 .inr ⟨p,q,_,_,rfl,rfl,.inl ⟨e1,e2⟩,rfl,by rw[List.length_map];exact hl,fun i u v hu hv=>.inl (by
  rw[hu] at hv
  cases hv
  obtain⟨x,_,rfl⟩:=List.mem_map.mp (List.mem_of_getElem? hu)
  exact hf x)⟩
theorem HL {H:Hp} {p q:Addr} {ps qs:List Addr} {mv:List (List Nat)} (e1:H p=some (.tup (ps.map V.ref))) (e2:H q=some (.tup (qs.map V.ref))) (t1:bX H ps (mv.map ai)) (t2:bX H qs (mv.map ai)) (hl:mv.length≤3000) (hr:∀l∈mv,l.length≤3000):Tr H 3 (.ref p) (.ref q):=by
 have l1:ps.length=mv.length:=by rw[Paired.length t1,List.length_map]
 have l2:qs.length=mv.length:=by rw[Paired.length t2,List.length_map]
 refine .inr ⟨p,q,_,_,rfl,rfl,.inl ⟨e1,e2⟩,by rw[List.length_map,List.length_map,l1,l2],by rw[List.length_map,l1];exact hl,fun i u v hu hv=>?_⟩
 obtain⟨a,rfl,ea⟩:=lQ hu
 obtain⟨b,rfl,eb⟩:=lQ hv
 obtain⟨r,er,h1⟩:=t1.get ea
 obtain⟨r',Ox,h2⟩:=t2.get eb
 rw[er] at Ox
 cases Ox
 refine rh V.int r (fun x=>.inl ⟨x,rfl,rfl⟩) h1 h2 ?_
 obtain⟨l,hl',rfl⟩:=List.mem_map.mp (List.mem_of_getElem? er)
 rw[aD];exact hr l hl'
theorem y_ {H:Hp} {m t n1 n2 y1 y2 v1 v2:Addr} {ps qs:List Addr} {us:List Str} {bs:List Bool} {mv:List (List Nat)} (e1:H m=some (.tup [.ref n1,.ref y1,.ref v1])) (e2:H t=some (.tup [.ref n2,.ref y2,.ref v2])) (a1:H n1=some (.tup (us.map V.str))) (a2:H n2=some (.tup (us.map V.str)))
  (b1:H y1=some (.tup (bs.map V.bl))) (b2:H y2=some (.tup (bs.map V.bl))) (c1:H v1=some (.tup (ps.map V.ref))) (c2:H v2=some (.tup (qs.map V.ref))) (t1:bX H ps (mv.map ai)) (t2:bX H qs (mv.map ai)) (lu:us.length≤3000) (lb:bs.length≤3000) (hl:mv.length≤3000) (hr:∀l∈mv,l.length≤3000):Tr H 4 (.ref m) (.ref t):=by
 refine .inr ⟨m,t,_,_,rfl,rfl,.inl ⟨e1,e2⟩,rfl,by show 3≤3000;decide,fun i u v hu hv=>?_⟩
 match i,hu,hv with
 | 0,hu,hv=>cases hu;cases hv;exact rh V.str us (fun x=>.inr (.inr ⟨x,rfl,rfl⟩)) a1 a2 lu
 | 1,hu,hv=>cases hu;cases hv;exact rh V.bl bs (fun x=>.inr (.inl ⟨x,rfl,rfl⟩)) b1 b2 lb
 | 2,hu,hv=>cases hu;cases hv;exact HL c1 c2 t1 t2 hl hr
theorem y6 {H:Hp} {p q:Addr} {vs ws:List V} {xs:List (List Nat)} (e1:H p=some (.lst vs)) (e2:H q=some (.lst ws)) (r1:eF j0 H vs xs) (r2:eF j0 H ws xs) (hl:xs.length≤3000) (hr:∀l∈xs,l.length≤3000):Tr H 4 (.ref p) (.ref q):=by
 have l1:vs.length=xs.length:=Paired.length r1
 have l2:ws.length=xs.length:=Paired.length r2
 refine .inr ⟨p,q,_,_,rfl,rfl,.inr ⟨e1,e2⟩,by omega,by omega,fun i u v hu hv=>?_⟩
 obtain⟨S,hS,a,rfl,ea⟩:=cZ r1 hu
 obtain⟨S',hS',b,rfl,eb⟩:=cZ r2 hv
 rw[hS] at hS'
 cases hS'
 exact rh (fun(z:Nat)=>V.int (z:Int)) S (fun x=>.inl ⟨x,rfl,rfl⟩) ea eb (hr S (List.mem_of_getElem? hS))
structure KS (b:Nat) (ss:List Str) (x:Str) (bs:List Bool) (mv:List (List Nat)):Prop where
 few:bs.length≤62
 sets:∃bd,(∀l:List (List Nat),l.Nodup→i' b ss x bs mv l→l.length≤bd)∧bd≤2000
theorem Df {b:Nat} {ss:List Str} {x:Str} {bs:List Bool} {mv:List (List Nat)} (n0:0<bs.length) (h:bs.length≤6):KS b ss x bs mv:=by
 refine⟨by omega,2 ^ bs.length,fun l nd hl=>?_,?_⟩
 ·exact Ht nd fun z hz=>by
   obtain⟨w,hw,rfl⟩:=hl z hz
   exact o6 (B:=0) (eU n0)
 ·have:(2:Nat) ^ bs.length≤2 ^ 6:=Nat.pow_le_pow_right (by decide) h
  omega
theorem Dg {b:Nat} (hb:2≤b) {ss:List Str} {k:Nat} {x:Str} (nd:ss.Nodup) (hx:ss[k]? =some x) {f M:Nat} {cs:Nat→Nat} {mv:List (List Nat)} (c:ke f M (b ^ ss.length) cs mv) (hf:f<3) (hM:8≤M) (uv:M≤61) (hc:∀r,r<M-1→∃g,g<b∧cs r=g*b ^ (ss.length-1-k)):KS b ss x (cbs M) mv:=by
 have hc':∀r,r<M-1→cs r<b ^ ss.length∧own b ss (oth ss x) (cs r)=0:=fun r hr=>by
  obtain⟨g,hg,e⟩:=hc r hr
  rw[e]
  exact C6 hb nd hx hg
 refine⟨by rw[pe];omega,2*(M+1),fun l CW hl=>?_,by omega⟩
 exact C4 hb nd hx c hf hM hc' (EJ hb nd hx) (HJ hb nd hx) CW hl
structure LS (a:bW) (F L pl nm ma C t N Yy va:Addr) (vs:List V) (ps:List Addr) (pool ss os:List Str) (bs ys:List Bool) (mv xs mv':List (List Nat)) (H:Hp):Prop where
 tb:TB a H
 fd:bp H F L
 po:H pl=some (.tup (pool.map V.str))
 en:H nm=some (.tup (ss.map V.str))
 em:fK H ma nm bs mv
 ec:H C=some (.lst vs)
 rp:eF j0 H vs xs
 et:H t=some (.tup [.ref N,.ref Yy,.ref va])
 eN:H N=some (.tup (os.map V.str))
 eY:H Yy=some (.tup (ys.map V.bl))
 ev:H va=some (.tup (ps.map V.ref))
 tp:bX H ps (mv'.map ai)
section
variable {a:bW} {F L pl nm ma C t N Yy va:Addr} {vs:List V} {ps:List Addr} {pool ss os:List Str} {bs ys:List Bool} {mv xs mv':List (List Nat)} {H H':Hp}
theorem LS.all (s:LS a F L pl nm ma C t N Yy va vs ps pool ss os bs ys mv xs mv' H) (tb:TB a H') (fd:bp H' F L) (kt:a_ H H') (ec:H' C=some (.lst vs)):LS a F L pl nm ma C t N Yy va vs ps pool ss os bs ys mv xs mv' H':=
 ⟨tb,fd,kt _ _ s.po,kt _ _ s.en,s.em.keep kt,ec,s.rp.keep kt,kt _ _ s.et,kt _ _ s.eN,kt _ _ s.eY,kt _ _ s.ev,s.tp.keep kt⟩
theorem LS.kx (s:LS a F L pl nm ma C t N Yy va vs ps pool ss os bs ys mv xs mv' H) (k:KX a H H') (tb:TB a H'):LS a F L pl nm ma C t N Yy va vs ps pool ss os bs ys mv xs mv' H':=s.all tb (s.fd.kx k) k.kt (k _ _ s.ec fun _ y=>nomatch y)
theorem LS.same (s:LS a F L pl nm ma C t N Yy va vs ps pool ss os bs ys mv xs mv' H) (k:Same H H'):LS a F L pl nm ma C t N Yy va vs ps pool ss os bs ys mv xs mv' H':=s.kx (KX.same k) (s.tb.same k)
theorem LS.kb2 (s:LS a F L pl nm ma C t N Yy va vs ps pool ss os bs ys mv xs mv' H) (k:cB F L H H') (f:bp H' F L) (nC:C≠F∧C≠L):LS a F L pl nm ma C t N Yy va vs ps pool ss os bs ys mv xs mv' H':=s.all (bp.tb s.tb s.fd k) f (s.fd.ktu k) (k _ _ s.ec nC.1 nC.2)
end
theorem eP:aS ["_law_script","_law_feed_here","_law_pool","_law_at","_law_names_here","_law_base","_law_machine_here","_law_spot","_law_name","_law_came","_law_due_here","_law_found"] ["_law_script"] (aj jv):=⟨rfl,rfl,rfl,by decide+kernel,rfl,by decide+kernel,by decide+kernel⟩
set_option maxHeartbeats 32000000 in
theorem KU {a:bW} (T:Txt K mg a) (hB:dY mg base):bf P w K mg base bT 7 a.zQ a.BP ["_law_script"] (ve K [a.cK,a.iG]):=by
 have EN:=Cd (P:=P) (w:=w) (base:=base) T
 have bV:=kK (P:=P) (w:=w) (base:=base) T
 have Dh:=Af (P:=P) (w:=w) (base:=base) T
 have xX:=wY (P:=P) (w:=w) (base:=base) T
 have Di:=As (P:=P) (w:=w) (base:=base) T
 have fN:bf P w K mg base bT 5 a.fJ a.fX ["_law_found","_law_due_here"] (pf 4):=rg T 4
 have HM:=EI (P:=P) (w:=w) (base:=base) T hB
 have EO:=Dd (P:=P) (w:=w) (base:=base) T hB
 have ja:=ra (P:=P) (w:=w) (base:=base) T hB
 have gZ:=q_ (P:=P) (w:=w) (base:=base) T hB
 have sQ:∀t:Tok,Vals [V.int 2000] [Value.int 2000 t]:=fun t=>.cons ⟨t,rfl⟩ .nil
 obtain⟨Uv,m_⟩:=T.uk
 obtain⟨Uw,jC⟩:=T.uo
 refine T.MZ.ok eP (fun vs H Q E h=>?_) (fun cdv A outer s H vs Q E hr h=>?_)
 ·obtain⟨sa,ns,rfl,_⟩:=h
  rfl
 ·obtain⟨sa,ns,rfl,hS,hns,hO,q⟩:=h
  have Dj:aP 1 _:=hr.mono (by decide)
  have bE:aP 1 _:=hr.mono (by decide)
  have Av:aP 2 _:=hr.mono (by decide)
  have xr:aP 2 _:=hr.mono (by decide)
  have Aw:aP 2 _:=hr.mono (by decide)
  have fj:aP 5 _:=hr.mono (by decide)
  have ER:aP 3 _:=hr.mono (by decide)
  have il:aP 5 _:=hr.mono (by decide)
  have f':aP 5 _:=hr.mono (by decide)
  have Dk:aP 6 _:=hr
  refine⟨_,(ah (av (i:=1) eP.nd rfl (Or.inl rfl) (aC EN Dj rfl T.Ec T.Ed T.Ee .nil aN (ae (pv 0) ag)))
  (ah (av (i:=2) eP.nd rfl (Or.inl rfl) (aC Dh Av rfl T.BZ T.B_ T.B0 .nil aN (ae (pv 1) (ae (aG cP ao (aC bV bE rfl T.cy T.cz T.cA .nil aN (ae (pv 1) (ae ao ag)))) ag))))
  (ah (av (i:=3) eP.nd rfl (Or.inl rfl) (aC bV bE rfl T.cy T.cz T.cA .nil aN (ae (pv 1) (ae (aA (aM K) (by rfl) T.bF bg (ae (pv 2) ag)) ag))))
  (ah (av (i:=4) eP.nd rfl (Or.inl rfl) (aG (sx K) (gD (oW K) (pv 2) d_ (fP (pv 3))) (gD (oW K) (pv 2) (fP (aG cP (pv 3) ao)) d_)))
  (ah (av (i:=5) eP.nd rfl (Or.inl rfl) (aG cP ao (aC bV bE rfl T.cy T.cz T.cA .nil aN (ae (pv 1) (ae (aJ (bC K) (bz (ae ao (ae ao ag))) (aG pK (aA (aM K) (by rfl) T.bF bg (ae (pv 4) ag)) ao) (fun _ _=>rfl)) ag)))))
  (ah (av (i:=6) eP.nd rfl (Or.inl rfl) (aC xX xr rfl T.xH T.xI T.xJ .nil aN (ae (pv 1) (ae (pv 5) (ae (pv 4) (ae ao ag))))))
  (ah (av (i:=7) eP.nd rfl (Or.inl rfl) (aC bV bE rfl T.cy T.cz T.cA .nil aN (ae (pv 1) (ae (aA (aM K) (by rfl) T.bF bg (ae (pv 4) ag)) ag))))
  (ah (cX (bo hJ (aC bV bE rfl T.cy T.cz T.cA .nil aN (ae (pv 1) (ae ao ag))) ao (aU _))
   (au (av (i:=6) eP.nd rfl (Or.inl rfl) (aC Di Aw rfl T.Ca T.Cb T.Cc .nil aN (ae (pv 1) (ae (pv 5) (ae (pv 4) (ae (pv 7) ag)))))))
   bR)
  (ah (av (i:=8) eP.nd rfl (Or.inl rfl) (aJ (aO K) (pv 4) (pv 7) (fun _ _=>rfl)))
  (ah (qe (aC HM ER rfl T.Hm T.Hn T.Ho .nil aN (ae (pv 5) (ae (pv 6) (ae (pv 8) ag)))) (nL rfl (dj (az (i:=9) eP.nd rfl (Or.inl rfl)) (dj (az (i:=10) eP.nd rfl (Or.inl rfl)) jD))))
  (ah (av (i:=11) eP.nd rfl (Or.inl rfl) (aC ja il rfl T.kH T.kI m_ (sQ _) aN (ae (pv 5) (ae (pv 6) (ae (pv 8) ag)))))
  (ah (cX (PW.pt (qc (lF (dB (aC fN fj rfl T.gU T.gV T.gW .nil aN (ae (pv 11) (ae (pv 9) ag))) (fun _=>rfl))) (nJ (lF (dB (aC fN fj rfl T.gU T.gV T.gW .nil aN (ae (aC gZ f' rfl T.i4 T.i5 jC (sQ _) aN (ae (pv 5) (ae (pv 6) (ae (pv 8) ag)))) (ae (pv 10) ag))) (fun _=>rfl))))))
   (au (aR iO))
   bR)
  (ah (bt (cf PySem.F.plainAttrs_list PySem.F.slot_list_append PySem.F.type_list_append aZ (pv 11) (ae (bP ag) ag)))
  (ah (cX (PW.pt (qb (bo hJ (aC bV bE rfl T.cy T.cz T.cA .nil aN (ae (pv 1) (ae ao ag))) ao (aU _)) (oR (lF (dB (aC EO Dk rfl T.Eh T.Ei T.Ej .nil aN (ae (aG cP ao (aC bV bE rfl T.cy T.cz T.cA .nil aN (ae (pv 1) (ae ao ag)))) ag)) (fun _=>rfl))))))
   (au (aR iO))
   bR)
  (ah (cX (lF (dB (aC fN fj rfl T.gU T.gV T.gW .nil aN (ae (aC ja il rfl T.kH T.kI T.uj .nil aN (ae (pv 5) (ae (pv 6) (ae (pv 8) (ae (aA (aM K) (by rfl) T.bF bg (ae (pv 9) ag)) ag))))) (ae (pv 9) ag))) (fun _=>rfl)))
   (au (aR iO))
   bR)
  (ah (cX (lF (dB (aC fN fj rfl T.gU T.gV T.gW .nil aN (ae (aC gZ f' rfl T.i4 T.i5 T.um .nil aN (ae (pv 5) (ae (pv 6) (ae (pv 8) (ae (aA (aM K) (by rfl) T.bF bg (ae (pv 9) ag)) ag))))) (ae (pv 10) ag))) (fun _=>rfl)))
   (au (aR iO))
   bR)
  (ah (cX (bo rm (aC gZ f' rfl T.i4 T.i5 T.um .nil aN (ae (pv 5) (ae (pv 6) (ae (pv 8) (ae (aG iY (aA (aM K) (by rfl) T.bF bg (ae (pv 9) ag)) ao) ag))))) fk (aU _))
   (au (aR iO))
   bR)
  (au (aR (lG (di nQ (aC ja il rfl T.kH T.kI T.uj .nil aN (ae (pv 5) (ae (pv 6) (ae (pv 8) (ae (aG iY (aA (aM K) (by rfl) T.bF bg (ae (pv 9) ag)) ao) ag))))) fk (aU _)) (qd (aC fN fj rfl T.gU T.gV T.gW .nil aN (ae (aC gZ f' rfl T.i4 T.i5 jC (sQ _) aN (ae (pv 5) (ae (pv 6) (ae (aJ (aO K) (pv 2) (pv 3) (fun _ _=>rfl)) ag)))) (ae (pv 6) ag)))))))))))))))))))))))),?_⟩
  have big:(10000:Nat)≤sizeLine:=by decide
  have wZ:(2 ^ 10:Nat)<2 ^ 1000:=Nat.pow_lt_pow_right (by decide) (by decide)
  have small:∀x:Nat,x≤1000→x<2 ^ 1000:=fun x hx=>Nat.lt_trans (show x<2 ^ 10 by omega) wZ
  have Oy:TB a H:=⟨hO.tab (by simp),hO.tab (by simp)⟩
  refine ax fun R hR=>?_
  refine⟨_,rfl,sa,ns,rfl,hS,hns,fun F L H1 hF hL s1 f1=>?_⟩
  have Dl:=Oy.same s1
  dsimp only[ay]
  subst hR
  refine ax fun R hR=>?_
  refine⟨_,rfl,_,rfl,F,L,3,rfl,f1,by decide,small _ (by decide),fun r H2 r1 k2 f2=>⟨_,_,rfl,rfl,F,L,2+r,by rw[show((2+r:Nat):Int)=2+(r:Int) by omega];rfl,f2,by omega,fun pl pool H3 hpl k3 f3 y8 Wv UR FN=>?_⟩⟩
  have j':=bp.tb (bp.tb Dl f1 k2) f2 k3
  have Oz:=UR.once
  dsimp only[ay]
  subst hR
  refine ax fun R hR=>?_
  refine⟨_,rfl,_,rfl,.ref pl,pool.length,rfl,.inr ⟨_,.of y8,by rw[List.length_map]⟩,F,L,pool.length,rfl,f3,by omega,small _ (by omega),fun at' H4 hat k4 f4=>?_⟩
  have qY:=bp.tb j' f3 k4
  have Ax:=f3.ktu k4 _ _ y8
  dsimp only[ay]
  subst hR
  refine ax fun R hR=>?_
  refine⟨_,rfl,pb ⟨_,rfl,_,rfl,rd Ax fun u1 H5 s5 e5=>⟨_,rfl,_,rfl,_,_,rfl,rfl,_,rfl,pb (rd (s5 _ _ Ax) fun u2 H6 s6 e6=>?_)⟩⟩⟩
  rw[yW _ (by rw[List.length_map];omega)] at e5
  rw[show(at':Int)+1=((at'+1:Nat):Int) by omega,uy _ (by rw[List.length_map];omega)] at e6
  refine⟨u1,u2,_,_,rfl,rfl,s6 _ _ e5,e6,?_,fun nm H7 s7 e7=>?_⟩
  ·rw[List.length_take,List.length_drop,List.length_map];omega
  obtain⟨ss,hss⟩:∃ss,del at' pool=ss:=⟨_,rfl⟩
  have gb:H7 nm=some (.tup (ss.map V.str)):=by
   rw[e7,←hss];unfold del;rw[List.map_append,List.map_take,List.map_drop]
  have N0:ss.length+1=pool.length:=by rw[←hss];exact o7 hat
  obtain⟨xo,OA⟩:∃x,pool[at']? =some x:=⟨_,List.getElem?_eq_getElem hat⟩
  have OB:oth pool xo=ss:=by rw[o8 Oz OA,hss]
  have nd:ss.Nodup:=by rw[←OB];exact List.Pairwise.sublist List.filter_sublist Oz
  have xno:xo ∉ ss:=fun z=>by rw[←OB] at z;exact(yM.mp z).2 rfl
  have FZ:=(s5.trans s6).trans s7
  have f7:=f4.same FZ
  have uA:=qY.same FZ
  have KW:=FZ _ _ Ax
  clear e5 e6 e7 s5 s6 s7
  dsimp only[ay]
  subst hR
  refine ax fun R hR=>?_
  obtain⟨d,hd,hd0,W0⟩:∃d:Nat,lI ([.int 3,.int 1]:List V) ((ss.length:Int) / 3)=some (.int (d:Nat))∧0<d∧d≤3:=by
   have:(ss.length:Int) / 3=0∨(ss.length:Int) / 3=1:=by omega
   rcases this with e | e
   ·rw[e];exact⟨3,rfl,by decide,by decide⟩
   ·rw[e];exact⟨1,rfl,by decide,by decide⟩
  refine⟨_,rfl,by show 2≤sizeLine;decide,fun Z hZ=>?_⟩
  have sZ:=Same.new (o:=.lst [.int 3,.int 1]) hZ
  refine⟨_,rfl,_,ss.length,rfl,.inr ⟨_,.of (sZ _ _ gb),by rw[List.length_map]⟩,_,_,rfl,rfl,⟨by decide,by decide⟩,Z,_,_,_,rfl,rfl,.of af,hd,F,L,d,rfl,f7.same sZ,hd0,small _ (by omega),fun r' H8 r1' k8 f8=>⟨_,_,rfl,rfl,?_⟩⟩
  have uE:=bp.tb (uA.same sZ) (f7.same sZ) k8
  have oJ:=(f7.same sZ).ktu k8
  have ES:=oJ _ _ (sZ _ _ gb)
  have KY:=oJ _ _ (sZ _ _ KW)
  have eb:(2:Int)+(r':Int)=((2+r':Nat):Int):=by omega
  dsimp only[ay]
  subst hR
  refine ax fun R hR=>?_
  rw[eb]
  generalize hbb:2+r'=b
  have hb2:2≤b:=by omega
  have hb4:b≤4:=by omega
  clear gb KW f7 uA hd
  refine⟨_,rfl,_,rfl,_,rfl,F,L,nm,b,6,ss,rfl,f8,hb2,hb4,ES,by omega,by decide,by decide,fun ma bs mv H9 hma k9 f9 em dJ h0 OC hst=>?_⟩
  have OD:=bp.tb uE f8 k9
  have ET:=f8.ktu k9 _ _ ES
  have KZ:=f8.ktu k9 _ _ KY
  dsimp only[ay]
  subst hR
  refine ax fun R hR=>?_
  refine⟨_,rfl,_,rfl,.ref nm,ss.length,rfl,.inr ⟨_,.of ET,by rw[List.length_map]⟩,F,L,ss.length,rfl,f9,by omega,small _ (by omega),fun k Fq hk k10 rj=>?_⟩
  have Ay:=bp.tb OD f9 k10
  have vf:=f9.ktu k10 _ _ ET
  have Az:=f9.ktu k10 _ _ KZ
  have K_:=em.keep (f9.ktu k10)
  dsimp only[ay]
  subst hR
  obtain⟨x,hx⟩:∃x,ss[k]? =some x:=⟨_,List.getElem?_eq_getElem hk⟩
  refine gN (t:=mr _ _ _) (u:=nK _ _) (fun σ H'=>∃(ma:Addr) (bs:List Bool) (mv:List (List Nat)),σ=[some (.ref sa),some (.ref F),some (.ref pl),some (.int (at':Nat)),some (.ref nm),some (.int (b:Nat)),some (.ref ma),some (.int (k:Nat)),none,none,none,none]∧TB a H'∧bp H' F L∧H' pl=some (.tup (pool.map V.str))∧H' nm=some (.tup (ss.map V.str))∧fK H' ma nm bs mv∧Moves bs.length (b ^ ss.length) mv∧0<bs.length∧KS b ss x bs mv) ?_ (fun R rest=>?_)
  rotate_left
  ·dsimp only[mr]
   refine⟨_,rfl,F,L,3,rfl,rj,by decide,small _ (by decide),fun r7 SH r71 k11 f11=>⟨rfl,_,rfl,?_⟩⟩
   have K0:=bp.tb Ay rj k11
   have sX:=rj.ktu k11
   refine dk (fun _=>?_) (fun _=>rest _ _ ⟨ma,bs,mv,rfl,K0,f11,sX _ _ Az,sX _ _ vf,K_.keep sX,dJ,h0,Df h0 OC⟩)
   exact⟨_,rfl,_,rfl,_,rfl,_,rfl,F,L,nm,b,k,ss,rfl,f11,hb2,hb4,sX _ _ vf,hk,by omega,fun US f M cs mv2 W2 k12 y9 P2 ch UT M8 FV hcs hc2=>rest _ _ ⟨US,cbs M,mv2,rfl,bp.tb K0 f11 k12,y9,f11.ktu k12 _ _ (sX _ _ Az),f11.ktu k12 _ _ (sX _ _ vf),P2,by rw[pe];exact ch.moves M8,by rw[pe];omega,Dg hb2 nd hx ch UT M8 FV hcs⟩⟩
  clear em K_ dJ h0 OC hst hma Oy Dl j' qY uE OD Ay f1 f2 f3 f4 f8 f9 rj k2 k3 k4 k8 k9 k10 ES ET vf y8 Ax KY KZ Az s1 hF hL hpl oJ sZ hZ FZ ma bs mv
  rintro σ W3 ⟨ma,bs,mv,rfl,tb,fd,y8,gb,em,dJ,n0,fit⟩
  obtain⟨bd,few,hbd⟩:=fit.sets
  have kW:=fit.few
  refine ax fun R hR=>?_
  refine⟨_,rfl,_,rfl,nm,_,_,.str x,rfl,rfl,.of gb,aB (by rw[List.getElem?_map,hx];rfl),?_⟩
  dsimp only[ay]
  subst hR
  refine ax fun R hR=>?_
  refine⟨_,rfl,_,rfl,_,rfl,b,k,ma,ss,x,bs,mv,bd,rfl,hb2,hb4,⟨nm,em,gb,dJ,n0⟩,nd,hx,by omega,kW,tb,few,hbd,fun pd C t N Yy va vs ps xs mv' UU k2 tb2 hC epd et eN eY ev tp eC rp hl hlx gr=>?_⟩
  have za:LS a F L pl nm ma C t N Yy va vs ps pool ss (oth ss x) bs (xs.map (jk b ss x bs mv)) mv xs mv' UU:=⟨tb2,fd.kx k2,k2.kt _ _ y8,k2.kt _ _ gb,em.keep k2.kt,eC,rp,et,eN,eY,ev,tp⟩
  have nC:C≠F∧C≠L:=by
   obtain⟨ms,n,sd,z1,z2,_⟩:=fd.ex
   exact⟨fresh_ne hC z1 (fun _ y=>nomatch y),fresh_ne hC z2 (fun _ y=>nomatch y)⟩
  have W4:0<xs.length:=Cv gr
  have wL:vs.length=xs.length:=Paired.length rp
  have P4:=gr.dJ hl
  have ho:=lW ss x
  have N5:b ^ (oth ss x).length≤256:=cp hb4 (by omega)
  have P5:∀l∈mv',l.length≤3000:=fun l hl=>by rw[(P4.lead l hl).1];omega
  have Nd:∀l∈mv,l.length≤3000:=fun l hl=>by rw[(dJ.lead l hl).1];have:=cp hb4 (show ss.length≤4 by omega);omega
  have okx:∀S∈xs,S.length≤3000:=fun S hS=>by
   obtain⟨w',_,rfl⟩:=gr.reach S hS
   have:=sG (o6 (B:=0) (mv:=mv) (LL:=bA b ss (oth ss x)) (w:=w') (eU n0))
   unfold kd
   omega
  have K1:x∈ss:=List.mem_of_getElem? hx
  have tooMany:∀{ys:List (List Nat)} {m:Nat},xs.length≤m→ys.Nodup→i' b ss x bs mv ys→m<ys.length→False:=fun {ys m} h1 h2 h3 h4=>by
   have:=rf gr hl h2 h3
   omega
  have uniq:∀{ys mw:List (List Nat)},bZ [0] (kd b ss x bs mv) (b ^ (oth ss x).length) ys mw→mw.length=ys.length→mw=mv'∧ys=xs:=fun {ys mw} g h=>Ap g h gr hl
  have p9:∀{H':Hp},LS a F L pl nm ma C t N Yy va vs ps pool ss (oth ss x) bs (xs.map (jk b ss x bs mv)) mv xs mv' H'→Mc b H' ma ss bs mv:=fun s=>⟨nm,s.em,s.en,dJ,n0⟩
  have Dm:∀{H':Hp} {p n:Addr},LS a F L pl nm ma C t N Yy va vs ps pool ss (oth ss x) bs (xs.map (jk b ss x bs mv)) mv xs mv' H'→fK H' p n (xs.map (jk b ss x bs mv)) mv'→H' n=some (.tup ((oth ss x).map V.str))→Tr H' 4 (.ref p) (.ref t):=fun {H' p n} s gX en'=>by
   obtain⟨y',v',ps',e1,e2,e3,e4⟩:=gX
   exact y_ e1 s.et en' s.eN e2 s.eY e3 s.ev e4 s.tp (by omega) (by rw[List.length_map];omega) (by omega) P5
  clear em gb y8 tb fd few hC et eN eY ev tp eC rp k2 tb2 fit
  refine⟨pd,_,rfl,.of epd,rfl,_,_,rfl,_,_,rfl,rfl,?_⟩
  dsimp only[ay]
  subst hR
  refine ax fun R hR=>?_
  refine⟨_,rfl,_,rfl,_,rfl,b,2000,ma,ss,x,bs,mv,rfl,hb2,hb4,p9 za,by omega,kW,by decide,za.tb,fun ys H3 k3 j' K2 K3 K4=>(tooMany (by omega) K2 K3 K4).elim,fun D ys mw ws H3 k3 j' hD eD K5 hl3 P6 F_=>?_⟩
  obtain⟨e1,e2⟩:=uniq F_ hl3
  subst e1 e2
  have qV:=za.kx k3 j'
  have nD:D≠F∧D≠L∧D≠C:=by
   obtain⟨ms,n,sd,z1,z2,_⟩:=za.fd.ex
   exact⟨fresh_ne hD z1 (fun _ y=>nomatch y),fresh_ne hD z2 (fun _ y=>nomatch y),fresh_ne hD za.ec (fun _ y=>nomatch y)⟩
  dsimp only[ay]
  subst hR
  refine ax fun R hR=>?_
  refine⟨_,rfl,_,rfl,_,_,rfl,y6 eD qV.ec K5 qV.rp (by omega) okx,fun H4 s4=>⟨true,rfl,cm ?_⟩⟩
  have yP:=qV.same s4
  refine⟨_,rfl,_,rfl,_,rfl,b,2000,ma,ss,x,bs,mv,rfl,hb2,hb4,p9 yP,by omega,kW,by decide,yP.tb,.inr ⟨K1,fun zs H5 k5 wV OE OG OH=>(tooMany (by omega) OE OG OH).elim,fun p n zs mz H5 k5 wV gX Dn K6 P7 F'=>?_⟩⟩
  obtain⟨e1,e2⟩:=uniq F' K6
  subst e1 e2
  have lX:=yP.kx k5 wV
  have OI:H5 D=some (.lst ws):=k5 _ _ (s4 _ _ eD) fun _ y=>nomatch y
  refine⟨_,rfl,_,_,rfl,Dm lX gX Dn,fun H6 s6=>⟨true,rfl,cm ?_⟩⟩
  have pD:=lX.same s6
  have Ga:=s6 _ _ OI
  dsimp only[g7]
  subst hR
  refine ax fun R hR=>?_
  have W5:ws.length≤2000:=by rw[Paired.length K5];omega
  refine⟨_,rfl,.inl ⟨rfl,_,.of Ga⟩,by decide,fun e he=>?_⟩
  have se:=Same.new (o:=.tup []) he
  have Gb:=se _ _ Ga
  refine⟨D,_,_,rfl,rfl,Gb,by omega,?_⟩
  have Gd:LS a F L pl nm ma C t N Yy va vs ps pool ss (oth ss x) bs (zs.map (jk b ss x bs mv)) mv zs mz (upd (upd H6 e (.tup [])) D (.lst (ws++[.ref e]))):=(pD.same se).all ((pD.same se).tb.lst Gb) ((pD.same se).fd.upd ⟨nD.1,nD.2.1⟩) (a_.lst Gb) (by rw[ak nD.2.2.symm];exact(pD.same se).ec)
  generalize upd (upd H6 e (.tup [])) D (.lst (ws++[.ref e]))=H7 at Gd ⊢
  subst hR
  dsimp only
  refine gN (t:=mr _ _ _) (u:=nK _ _) (fun σ H'=>σ=[some (.ref sa),some (.ref F),some (.ref pl),some (.int (at':Nat)),some (.ref nm),some (.int (b:Nat)),some (.ref ma),some (.int (k:Nat)),some (.str x),some (.ref C),some (.ref t),some (.ref D)]∧LS a F L pl nm ma C t N Yy va vs ps pool ss (oth ss x) bs (zs.map (jk b ss x bs mv)) mv zs mz H') ?_ (fun R rest=>?_)
  rotate_left
  ·dsimp only[mr]
   refine⟨_,rfl,F,L,16,rfl,Gd.fd,by decide,small _ (by decide),fun d1 H8 q1 k8 g8=>⟨rfl,_,rfl,?_⟩⟩
   have K7:=Gd.kb2 k8 g8 nC
   refine dk (fun _=>?_) (fun _=>?_)
   ·refine⟨_,rfl,F,L,3,rfl,g8,by decide,small _ (by decide),fun d2 H9 q2 k9 g9=>⟨_,_,rfl,rfl,9+d2,by rw[show((9+d2:Nat):Int)=9+(d2:Int) by omega];rfl,by omega,by omega,(K7.kb2 k9 g9 nC).tb,fun Fq k10 Ay=>⟨true,rfl,?_⟩⟩⟩
    refine cm ?_
    exact rest _ _ ⟨rfl,(K7.kb2 k9 g9 nC).kx k10 Ay⟩
   ·refine cm ?_
    exact rest _ _ ⟨rfl,K7⟩
  clear Gd pD lX yP qV za eD OI Ga Gb K5 F_ F' k3 k5 s4 s6 se he hD gX Dn epd
  rintro σ J ⟨rfl,lj⟩
  refine ax fun R hR=>?_
  refine⟨_,rfl,_,rfl,_,rfl,_,rfl,_,vs.length,rfl,.inl ⟨_,.of lj.ec,rfl⟩,b,vs.length,ma,ss,x,bs,mv,rfl,hb2,hb4,p9 lj,by omega,kW,by omega,lj.tb,fun ys J1 k1 Dl UW UX UY=>(tooMany (by omega) UW UX UY).elim,fun D' ys mw ws' J1 k1 Dl hD1 UZ U_ hl1 WA U0=>?_⟩
  obtain⟨e1,e2⟩:=uniq U0 hl1
  subst e1 e2
  have K8:=lj.kx k1 Dl
  refine⟨_,rfl,_,_,rfl,y6 UZ K8.ec U_ K8.rp (by omega) okx,fun J2 s2=>⟨true,rfl,cm ?_⟩⟩
  have Ge:=K8.same s2
  dsimp only[g7]
  subst hR
  refine ax fun R hR=>?_
  refine⟨_,rfl,_,rfl,_,rfl,_,rfl,_,vs.length,rfl,.inl ⟨_,.of Ge.ec,rfl⟩,b,vs.length,ma,ss,x,bs,mv,rfl,hb2,hb4,p9 Ge,by omega,kW,by omega,Ge.tb,.inr ⟨K1,fun zs J3 k3 j' K2 K3 K4=>(tooMany (by omega) K2 K3 K4).elim,fun p n zs mz J3 k3 j' gX Dn hl3 P6 F_=>?_⟩⟩
  obtain⟨e1,e2⟩:=uniq F_ hl3
  subst e1 e2
  have OJ:=Ge.kx k3 j'
  refine⟨_,rfl,_,_,rfl,Dm OJ gX Dn,fun J4 s4=>⟨true,rfl,cm ?_⟩⟩
  have Gf:=OJ.same s4
  dsimp only[g7]
  subst hR
  have el1:((vs.length:Nat):Int)-1=((vs.length-1:Nat):Int):=by omega
  refine ax fun R hR=>?_
  refine⟨_,rfl,_,rfl,_,rfl,_,rfl,_,vs.length,rfl,.inl ⟨_,.of Gf.ec,rfl⟩,_,_,rfl,rfl,b,vs.length-1,ma,ss,x,bs,mv,by dsimp only;rw[el1];rfl,hb2,hb4,p9 Gf,by omega,kW,by omega,Gf.tb,.inr ⟨K1,fun zs J5 k5 wV OE OG OH=>?_,fun p n zs mz J5 k5 wV gX Dn K6 P7 F'=>?_⟩⟩
  rotate_left
  ·obtain⟨e1,e2⟩:=uniq F' K6
   subst e1 e2
   omega
  have Gg:=Gf.kx k5 wV
  refine⟨rfl,_,rfl,cm ?_⟩
  dsimp only[g7]
  subst hR
  refine⟨_,rfl,_,rfl,_,rfl,_,rfl,_,vs.length,rfl,.inl ⟨_,.of Gg.ec,rfl⟩,_,_,rfl,rfl,b,vs.length-1,ma,ss,x,bs,mv,by dsimp only;rw[el1];rfl,hb2,hb4,p9 Gg,by omega,kW,by omega,Gg.tb,fun ys J6 k6 FU Kp W6 W7=>?_,fun D' ys mw ws' J6 k6 FU NW Ga oH U1 WB U2=>?_⟩
  rotate_left
  ·obtain⟨e1,e2⟩:=uniq U2 U1
   subst e1 e2
   omega
  have zb:=Gg.kx k6 FU
  refine⟨rfl,_,rfl,dk (fun _=>?_) (fun z=>absurd rfl z)⟩
  refine⟨_,rfl,_,rfl,_,rfl,_,rfl,pl,_,_,.str xo,rfl,rfl,.of zb.po,aB (by rw[List.getElem?_map,OA];rfl),b,2000,ma,ss,xo,bs,mv,rfl,hb2,hb4,p9 zb,by omega,kW,by decide,zb.tb,.inl ⟨xno,?_⟩⟩
  obtain⟨y',v',ps',e1,e2,e3,e4⟩:=zb.em
  exact⟨_,rfl,_,_,rfl,y_ e1 e1 zb.en zb.en e2 e2 e3 e3 e4 e4 (by omega) (by omega) (by rw[dJ.len];omega) Nd,fun J7 s7=>q J7⟩
@[elab_as_elim] theorem ug {P:List Value→Prop} (us:List Value) (e:us.length=1) (h:∀a,P [a]):P us:=by
 cases us with
 | nil=>cases e
 | cons a us=>cases us with
  | nil=>exact h a
  | cons _ _=>cases e
@[elab_as_elim] theorem ln2 {P:List Value→Prop} (us:List Value) (e:us.length=2) (h:∀a0 a1,P [a0,a1]):P us:=by
 cases us with
 | nil=>cases e
 | cons a us=>exact ug (P:=fun z=>P (a::z)) us (Nat.succ.inj e) (h a)
@[elab_as_elim] theorem rl {P:List Value→Prop} (us:List Value) (e:us.length=3) (h:∀a0 a1 a2,P [a0,a1,a2]):P us:=by
 cases us with
 | nil=>cases e
 | cons a us=>exact ln2 (P:=fun z=>P (a::z)) us (Nat.succ.inj e) (h a)
@[elab_as_elim] theorem uF {P:List Value→Prop} (us:List Value) (e:us.length=4) (h:∀a0 a1 a2 a3,P [a0,a1,a2,a3]):P us:=by
 cases us with
 | nil=>cases e
 | cons a us=>exact rl (P:=fun z=>P (a::z)) us (Nat.succ.inj e) (h a)
@[elab_as_elim] theorem OL {P:List Value→Prop} (us:List Value) (e:us.length=5) (h:∀a0 a1 a2 a3 a4,P [a0,a1,a2,a3,a4]):P us:=by
 cases us with
 | nil=>cases e
 | cons a us=>exact uF (P:=fun z=>P (a::z)) us (Nat.succ.inj e) (h a)
@[elab_as_elim] theorem W8 {P:List Value→Prop} (us:List Value) (e:us.length=6) (h:∀a0 a1 a2 a3 a4 a5,P [a0,a1,a2,a3,a4,a5]):P us:=by
 cases us with
 | nil=>cases e
 | cons a us=>exact OL (P:=fun z=>P (a::z)) us (Nat.succ.inj e) (h a)
theorem all_mk {l:PySem.W.OpenLaw} {w:World} {K:PySem.W.Frag} {h:Heap} {mg:Str→Option Value} {fa:Addr} (X:K.In h) (G:h.Ns mainGlobals mg) (hfa:mg "law"=some (.ref fa))
  {f0:Addr} {U3 U4:Option Addr} {U5:Array (Option Value)} {U6 U7 U8 U9 U':Value} {OM:Value}
  {f1:Addr} {Vb K9:Option Addr} {Vc:Array (Option Value)} {Vd K' La Lb Lc:Value} {Dp:Addr}
  {zc Ve:Nat} {P8:Value} {P9:Option Addr} {Ld:Tok} {Qa:Array (Option Value)}
  {f2:Addr} {Vf Vg:Option Addr} {sl2:Array (Option Value)} {Vh Vi Vj Vk Vl:Value} {OO:Value}
  {f3:Addr} {Vm Vn:Option Addr} {Vo:Array (Option Value)} {Vp Vq Vr Vs Vt:Value} {OP:Value}
  {f4:Addr} {Vu Vv:Option Addr} {Vw:Array (Option Value)} {Vx Vy Vz VA VB:Value} {OQ:Value}
  {f5:Addr} {VC VD:Option Addr} {VE:Array (Option Value)} {VF VG VH VI VJ:Value} {OS:Value}
  {f6:Addr} {VL VM:Option Addr} {VN:Array (Option Value)} {VO VP VQ VR VS:Value} {OT:Value}
  {f7:Addr} {VT VU:Option Addr} {VW:Array (Option Value)} {VX VY VZ V_ V0:Value} {OU:Value}
  {f8:Addr} {V1 V2:Option Addr} {V3:Array (Option Value)} {V4 V5 V6 V7 V8:Value} {OV:Value}
  {f9:Addr} {V9 OW:Option Addr} {V':Array (Option Value)} {Wa OX OY OZ O_:Value} {zf:Addr}
  {uG:Addr} {Qb:Option Addr} {qa:Array Value} {Qd:Array (Option Value)}
  {rj:Addr} {Qe EU:Option Addr} {Qg:Array (Option Value)} {Qh EV EW EX EY:Value} {xt:Addr}
  {tf Qi:Nat} {Nf:Value} {Ng:Option Addr} {Gh:Tok} {Nh:Array (Option Value)}
  {f11:Addr} {Qj EZ:Option Addr} {Qk:Array (Option Value)} {Ql E_ E1 E2 E3:Value} {xu:Addr}
  {tj Qm:Nat} {Ni:Value} {Nj:Option Addr} {Gi:Tok} {Nk:Array (Option Value)}
  {y9:Addr} {Qn Qo:Option Addr} {Qp:Array (Option Value)} {Qq Qr Qs Qt Qu:Value} {Le:Value}
  {Gj:Addr} {Qv Qw:Option Addr} {Qx:Array (Option Value)} {Qy Qz QA QB QC:Value} {Lg:Value}
  {Gk:Addr} {QD QE:Option Addr} {QF:Array (Option Value)} {QG QH QI QJ QK:Value} {Lh:Value}
  {Gm:Addr} {QL QM:Option Addr} {QN:Array (Option Value)} {QO QP QQ QR QS:Value} {Li:Value}
  {Gn:Addr} {QT QU:Option Addr} {QV:Array (Option Value)} {QW QX QY QZ Q_:Value} {Lj:Value}
  {Gp:Addr} {Q0 Q1:Option Addr} {Q2:Array (Option Value)} {Q3 Q4 Q5 Q6 Q7:Value} {Lk:Value}
  {Gq:Addr} {Q8 Q9:Option Addr} {Ra:Array (Option Value)} {Rb Rc Rf Rg Rh:Value} {Ll:Value}
  {Gr:Addr} {Ri Rj:Option Addr} {Rk:Array (Option Value)} {Rm Rn Ro Rp Rq:Value} {Lm:Value}
  {Gs:Addr} {Rt Ru:Option Addr} {Rv:Array (Option Value)} {Rx Ry Rz RA RB:Value} {Ln:Value}
  {Gu:Addr} {RC RD:Option Addr} {RE:Array (Option Value)} {RF RG RH RI RJ:Value} {Lo:Value}
  {Gv:Addr} {RK RL:Option Addr} {RM:Array (Option Value)} {RN RO RP RQ RS:Value} {Lp:Value}
  {Gw:Addr} {RT Lq:Option Addr} {RU:Array (Option Value)} {RV Lr Ls Lu Lv:Value} {tm:Addr}
  {oQ:Addr} {Nl:Option Addr} {m9:Array Value} {Nm:Array (Option Value)}
  {Gx:Addr} {RW RX:Option Addr} {RY:Array (Option Value)} {RZ R_ R0 R3 R4:Value} {Lw:Value}
  {Gy:Addr} {R5 R6:Option Addr} {R7:Array (Option Value)} {R8 R9 R' Sb Sd:Value} {Lx:Value}
  {Ly:Addr} {Se Lz:Option Addr} {Sf:Array (Option Value)} {Sg LA LB LC LF:Value} {E4:Value}
  (a0:PySem.W.nsIn K mainGlobals "all_letters"=some (some (.ref f0))) (l0:K.lookup f0=some ⟨U6,U3,.func (PySem.W.fnOf "all_letters" "all_letters" (aL dn) (aH dn) (aj dn) .none U7 U8 U9 U4 OM U'),U5⟩) (c0:PySem.W.codeIn K OM "all_letters"=true) (k0:PySem.W.keepIn K (.ref f0)=true)
  (a1:PySem.W.nsIn K mainGlobals "grown_from"=some (some (.ref f1))) (l1:K.lookup f1=some ⟨Vd,Vb,.func (PySem.W.fnOf "grown_from" "grown_from" (aL bI) (aH bI) (aj bI) (.ref zc) K' La Lb K9 (.ref Dp) Lc),Vc⟩) (c1:PySem.W.codeIn K (.ref Dp) "grown_from"=true) (k1:PySem.W.keepIn K (.ref f1)=true)
  (Gz:K.lookup zc=some ⟨P8,P9,.seq #[(.int 2000 Ld)] Ve,Qa⟩)
  (a2:PySem.W.nsIn K mainGlobals "machine_of"=some (some (.ref f2))) (l2:K.lookup f2=some ⟨Vh,Vf,.func (PySem.W.fnOf "machine_of" "machine_of" (aL eh) (aH eh) (aj eh) .none Vi Vj Vk Vg OO Vl),sl2⟩) (c2:PySem.W.codeIn K OO "machine_of"=true) (k2:PySem.W.keepIn K (.ref f2)=true)
  (a3:PySem.W.nsIn K mainGlobals "own_letters"=some (some (.ref f3))) (l3:K.lookup f3=some ⟨Vp,Vm,.func (PySem.W.fnOf "own_letters" "own_letters" (aL dq) (aH dq) (aj dq) .none Vq Vr Vs Vn OP Vt),Vo⟩) (c3:PySem.W.codeIn K OP "own_letters"=true) (k3:PySem.W.keepIn K (.ref f3)=true)
  (a4:PySem.W.nsIn K mainGlobals "other_names"=some (some (.ref f4))) (l4:K.lookup f4=some ⟨Vx,Vu,.func (PySem.W.fnOf "other_names" "other_names" (aL dr) (aH dr) (aj dr) .none Vy Vz VA Vv OQ VB),Vw⟩) (c4:PySem.W.codeIn K OQ "other_names"=true) (k4:PySem.W.keepIn K (.ref f4)=true)
  (a5:PySem.W.nsIn K mainGlobals "letters_over"=some (some (.ref f5))) (l5:K.lookup f5=some ⟨VF,VC,.func (PySem.W.fnOf "letters_over" "letters_over" (aL cS) (aH cS) (aj cS) .none VG VH VI VD OS VJ),VE⟩) (c5:PySem.W.codeIn K OS "letters_over"=true) (k5:PySem.W.keepIn K (.ref f5)=true)
  (a6:PySem.W.nsIn K mainGlobals "rooms_before"=some (some (.ref f6))) (l6:K.lookup f6=some ⟨VO,VL,.func (PySem.W.fnOf "rooms_before" "rooms_before" (aL cU) (aH cU) (aj cU) .none VP VQ VR VM OT VS),VN⟩) (c6:PySem.W.codeIn K OT "rooms_before"=true) (k6:PySem.W.keepIn K (.ref f6)=true)
  (a7:PySem.W.nsIn K mainGlobals "going_on"=some (some (.ref f7))) (l7:K.lookup f7=some ⟨VX,VT,.func (PySem.W.fnOf "going_on" "going_on" (aL fb) (aH fb) (aj fb) .none VY VZ V_ VU OU V0),VW⟩) (c7:PySem.W.codeIn K OU "going_on"=true) (k7:PySem.W.keepIn K (.ref f7)=true)
  (a8:PySem.W.nsIn K mainGlobals "led_to"=some (some (.ref f8))) (l8:K.lookup f8=some ⟨V4,V1,.func (PySem.W.fnOf "led_to" "led_to" (aL iy) (aH iy) (aj iy) .none V5 V6 V7 V2 OV V8),V3⟩) (c8:PySem.W.codeIn K OV "led_to"=true) (k8:PySem.W.keepIn K (.ref f8)=true)
  (a9:PySem.W.nsIn K mainGlobals "sets_growth"=some (some (.ref f9))) (l9:K.lookup f9=some ⟨Wa,V9,.func (PySem.W.fnOf "sets_growth" "sets_growth" (aL bw) (aH bw) (aj bw) .none OX OY OZ OW (.ref zf) O_),V'⟩) (c9:PySem.W.codeIn K (.ref zf) "sets_growth"=true) (k9:PySem.W.keepIn K (.ref f9)=true)
  (LG:K.lookup zf=some ⟨.type "code",Qb,.fields qa,Qd⟩) (O0:qa[11]? =some (.ref uG))
  (LH:((match (qa[11]? :Option Value) with | some (.ref P')=>P' == uG | _=>false)&&(match qa.getD 18 .none with | .str _ _=>true | _=>false)&&(match qa.getD 7 .none with | .int _ _=>true | _=>false)&&(match qa.getD 9 .none with | .bool _=>true | _=>false)&&(match qa.getD 10 .none with | .int _ _=>true | _=>false)&&zf != uG)=true)
  (LI:K.lookup uG=none) (LJ:h.get? uG=some (PySem.W.tabObj #[]))
  (a10:PySem.W.nsIn K mainGlobals "sets_of"=some (some (.ref rj))) (l10:K.lookup rj=some ⟨Qh,Qe,.func (PySem.W.fnOf "sets_of" "sets_of" (aL cH) (aH cH) (aj cH) (.ref tf) EV EW EX EU (.ref xt) EY),Qg⟩) (LK:PySem.W.codeIn K (.ref xt) "sets_of"=true) (k10:PySem.W.keepIn K (.ref rj)=true)
  (AA:K.lookup tf=some ⟨Nf,Ng,.seq #[(.int 2000 Gh)] Qi,Nh⟩)
  (a11:PySem.W.nsIn K mainGlobals "some_of"=some (some (.ref f11))) (LN:K.lookup f11=some ⟨Ql,Qj,.func (PySem.W.fnOf "some_of" "some_of" (aL cI) (aH cI) (aj cI) (.ref tj) E_ E1 E2 EZ (.ref xu) E3),Qk⟩) (LO:PySem.W.codeIn K (.ref xu) "some_of"=true) (k11:PySem.W.keepIn K (.ref f11)=true)
  (AB:K.lookup tj=some ⟨Ni,Nj,.seq #[(.int 2000 Gi)] Qm,Nk⟩)
  (a12:PySem.W.nsIn K mainGlobals "_law_feed"=some (some (.ref y9))) (LP:K.lookup y9=some ⟨Qq,Qn,.func (PySem.W.fnOf "_law_feed" "_law_feed" (aL gG) (aH gG) (aj gG) .none Qr Qs Qt Qo Le Qu),Qp⟩) (c12:PySem.W.codeIn K Le "_law_feed"=true) (k12:PySem.W.keepIn K (.ref y9)=true)
  (a13:PySem.W.nsIn K mainGlobals "_law_draw"=some (some (.ref Gj))) (LQ:K.lookup Gj=some ⟨Qy,Qv,.func (PySem.W.fnOf "_law_draw" "_law_draw" (aL iA) (aH iA) (aj iA) .none Qz QA QB Qw Lg QC),Qx⟩) (LU:PySem.W.codeIn K Lg "_law_draw"=true) (k13:PySem.W.keepIn K (.ref Gj)=true)
  (a14:PySem.W.nsIn K mainGlobals "_law_after"=some (some (.ref Gk))) (LV:K.lookup Gk=some ⟨QG,QD,.func (PySem.W.fnOf "_law_after" "_law_after" (aL gQ) (aH gQ) (aj gQ) .none QH QI QJ QE Lh QK),QF⟩) (LW:PySem.W.codeIn K Lh "_law_after"=true) (k14:PySem.W.keepIn K (.ref Gk)=true)
  (a15:PySem.W.nsIn K mainGlobals "_law_names"=some (some (.ref Gm))) (LX:K.lookup Gm=some ⟨QO,QL,.func (PySem.W.fnOf "_law_names" "_law_names" (aL eQ) (aH eQ) (aj eQ) .none QP QQ QR QM Li QS),QN⟩) (LY:PySem.W.codeIn K Li "_law_names"=true) (GA:PySem.W.keepIn K (.ref Gm)=true)
  (a16:PySem.W.nsIn K mainGlobals "_law_rings"=some (some (.ref Gn))) (LZ:K.lookup Gn=some ⟨QW,QT,.func (PySem.W.fnOf "_law_rings" "_law_rings" (aL gR) (aH gR) (aj gR) .none QX QY QZ QU Lj Q_),QV⟩) (c16:PySem.W.codeIn K Lj "_law_rings"=true) (GB:PySem.W.keepIn K (.ref Gn)=true)
  (a17:PySem.W.nsIn K mainGlobals "_law_machine"=some (some (.ref Gp))) (L_:K.lookup Gp=some ⟨Q3,Q0,.func (PySem.W.fnOf "_law_machine" "_law_machine" (aL c_) (aH c_) (aj c_) .none Q4 Q5 Q6 Q1 Lk Q7),Q2⟩) (L0:PySem.W.codeIn K Lk "_law_machine"=true) (GC:PySem.W.keepIn K (.ref Gp)=true)
  (a18:PySem.W.nsIn K mainGlobals "_law_letters"=some (some (.ref Gq))) (L3:K.lookup Gq=some ⟨Rb,Q8,.func (PySem.W.fnOf "_law_letters" "_law_letters" (aL dW) (aH dW) (aj dW) .none Rc Rf Rg Q9 Ll Rh),Ra⟩) (L4:PySem.W.codeIn K Ll "_law_letters"=true) (GD:PySem.W.keepIn K (.ref Gq)=true)
  (a19:PySem.W.nsIn K mainGlobals "_law_grown"=some (some (.ref Gr))) (L5:K.lookup Gr=some ⟨Rm,Ri,.func (PySem.W.fnOf "_law_grown" "_law_grown" (aL gT) (aH gT) (aj gT) .none Rn Ro Rp Rj Lm Rq),Rk⟩) (L6:PySem.W.codeIn K Lm "_law_grown"=true) (GF:PySem.W.keepIn K (.ref Gr)=true)
  (a20:PySem.W.nsIn K mainGlobals "_law_alike"=some (some (.ref Gs))) (L7:K.lookup Gs=some ⟨Rx,Rt,.func (PySem.W.fnOf "_law_alike" "_law_alike" (aL fH) (aH fH) (aj fH) .none Ry Rz RA Ru Ln RB),Rv⟩) (L8:PySem.W.codeIn K Ln "_law_alike"=true) (GG:PySem.W.keepIn K (.ref Gs)=true)
  (a21:PySem.W.nsIn K mainGlobals "_law_wholes"=some (some (.ref Gu))) (L9:K.lookup Gu=some ⟨RF,RC,.func (PySem.W.fnOf "_law_wholes" "_law_wholes" (aL fU) (aH fU) (aj fU) .none RG RH RI RD Lo RJ),RE⟩) (c21:PySem.W.codeIn K Lo "_law_wholes"=true) (GH:PySem.W.keepIn K (.ref Gu)=true)
  (a22:PySem.W.nsIn K mainGlobals "_law_going_on"=some (some (.ref Gv))) (Ma:K.lookup Gv=some ⟨RN,RK,.func (PySem.W.fnOf "_law_going_on" "_law_going_on" (aL de) (aH de) (aj de) .none RO RP RQ RL Lp RS),RM⟩) (Mb:PySem.W.codeIn K Lp "_law_going_on"=true) (GI:PySem.W.keepIn K (.ref Gv)=true)
  (a23:PySem.W.nsIn K mainGlobals "_law_due"=some (some (.ref Gw))) (Md:K.lookup Gw=some ⟨RV,RT,.func (PySem.W.fnOf "_law_due" "_law_due" (aL eB) (aH eB) (aj eB) .none Lr Ls Lu Lq (.ref tm) Lv),RU⟩) (Me:PySem.W.codeIn K (.ref tm) "_law_due"=true) (GJ:PySem.W.keepIn K (.ref Gw)=true)
  (E5:K.lookup tm=some ⟨.type "code",Nl,.fields m9,Nm⟩) (Mf:m9[11]? =some (.ref oQ))
  (E6:((match (m9[11]? :Option Value) with | some (.ref P')=>P' == oQ | _=>false)&&(match m9.getD 18 .none with | .str _ _=>true | _=>false)&&(match m9.getD 7 .none with | .int _ _=>true | _=>false)&&(match m9.getD 9 .none with | .bool _=>true | _=>false)&&(match m9.getD 10 .none with | .int _ _=>true | _=>false)&&tm != oQ)=true)
  (E7:K.lookup oQ=none) (E8:h.get? oQ=some (PySem.W.tabObj #[]))
  (a24:PySem.W.nsIn K mainGlobals "_law_wide"=some (some (.ref Gx))) (Mg:K.lookup Gx=some ⟨RZ,RW,.func (PySem.W.fnOf "_law_wide" "_law_wide" (aL iB) (aH iB) (aj iB) .none R_ R0 R3 RX Lw R4),RY⟩) (Mh:PySem.W.codeIn K Lw "_law_wide"=true) (GK:PySem.W.keepIn K (.ref Gx)=true)
  (a25:PySem.W.nsIn K mainGlobals "_law_chain"=some (some (.ref Gy))) (Mi:K.lookup Gy=some ⟨R8,R5,.func (PySem.W.fnOf "_law_chain" "_law_chain" (aL fI) (aH fI) (aj fI) .none R9 R' Sb R6 Lx Sd),R7⟩) (Mj:PySem.W.codeIn K Lx "_law_chain"=true) (GL:PySem.W.keepIn K (.ref Gy)=true)
  (a26:PySem.W.nsIn K mainGlobals "law"=some (some (.ref Ly))) (Mk:K.lookup Ly=some ⟨Sg,Se,.func (PySem.W.fnOf "law" "law" (aL jv) (aH jv) (aj jv) .none LA LB LC Lz E4 LF),Sf⟩) (Ml:PySem.W.codeIn K E4 "law"=true) (Mm:PySem.W.keepIn K (.ref Ly)=true)
  (z0:PySem.W.nsIn K mainGlobals "range"=some none)
  (z1:PySem.W.nsIn K mainGlobals "tuple"=some none)
  (z2:PySem.W.nsIn K mainGlobals "len"=some none)
  (z3:PySem.W.nsIn K mainGlobals "enumerate"=some none)
  (z4:PySem.W.nsIn K mainGlobals "list"=some none)
  (z5:PySem.W.nsIn K mainGlobals "sorted"=some none)
  (z6:PySem.W.nsIn K mainGlobals "abs"=some none)
  (z7:PySem.W.nsIn K mainGlobals "isinstance"=some none)
  (z8:PySem.W.nsIn K mainGlobals "any"=some none)
  (z9:PySem.W.nsIn K mainGlobals "bool"=some none)
  (Bd:PySem.W.nsIn K mainGlobals "min"=some none)
  (Mn:PySem.W.nsIn K mainGlobals "all"=some none)
  (Mp:PySem.W.nsIn K mainGlobals "int"=some none)
  (Mq:PySem.W.nsIn K mainGlobals "set"=some none)
  (Mr:PySem.W.nsIn K mainGlobals "zip"=some none)
  (vT:uG≠oQ)
  :∃(fd:FuncData) (ts:List Addr),(∀T∈ts,(∃c,PySem.W.CodeHd h c T)∧h.get? T=some (PySem.W.tabObj #[])∧K.lookup T=none)∧(∀(s:Shared) (v:Value),BindsTo s fd ⟨[v],[]⟩ [("_law_script",v)])∧∀base:Heap,K.In base→base.Ns mainGlobals mg→dY mg base→bf l.prog w K mg base bT 7 fa fd ["_law_script"] (ve K ts):=by
 have e:=hfa.symm.trans (PySem.W.mg_of X G a26)
 cases e
 have F0:=ck (st:=dn) l0 c0 k0
 have b0:=F0.binds (ps:=["base","many"]) fun _ _ _ _ _ _ us hl=>ln2 us hl fun _ _=>rfl
 have F1:=lO (st:=bI) l1 c1 k1
 have b1:Binds K (PySem.W.fnOf "grown_from" "grown_from" (aL bI) (aH bI) (aj bI) (.ref zc) K' La Lb K9 (.ref Dp) Lc) ["first","many","onward","is_yes","most"] []:=fun s us hK hl=>OL us (by rw[List.append_nil] at hl;exact hl) fun _ _ _ _ _=>BindsTo.of_defaults (T:=zc) rfl (hK _ _ Gz) rfl rfl rfl
 have d1:∃t,Binds K (PySem.W.fnOf "grown_from" "grown_from" (aL bI) (aH bI) (aj bI) (.ref zc) K' La Lb K9 (.ref Dp) Lc) ["first","many","onward","is_yes","most"] [.int 2000 t]:=⟨Ld,fun s us hK hl=>have h3:us.length=4:=(by simpa using hl);uF us h3 fun _ _ _ _=>BindsTo.of_defaults (T:=zc) rfl (hK _ _ Gz) rfl rfl rfl⟩
 have F2:=ck (st:=eh) l2 c2 k2
 have b2:=F2.binds (ps:=["base","names","growth","most"]) fun _ _ _ _ _ _ us hl=>uF us hl fun _ _ _ _=>rfl
 have F3:=ck (st:=dq) l3 c3 k3
 have b3:=F3.binds (ps:=["base","names","own"]) fun _ _ _ _ _ _ us hl=>rl us hl fun _ _ _=>rfl
 have F4:=ck (st:=dr) l4 c4 k4
 have b4:=F4.binds (ps:=["machine","name"]) fun _ _ _ _ _ _ us hl=>ln2 us hl fun _ _=>rfl
 have F5:=ck (st:=cS) l5 c5 k5
 have b5:=F5.binds (ps:=["base","machine","name"]) fun _ _ _ _ _ _ us hl=>rl us hl fun _ _ _=>rfl
 have F6:=ck (st:=cU) l6 c6 k6
 have b6:=F6.binds (ps:=["machine","letters"]) fun _ _ _ _ _ _ us hl=>ln2 us hl fun _ _=>rfl
 have F7:=ck (st:=fb) l7 c7 k7
 have b7:=F7.binds (ps:=["machine","letters"]) fun _ _ _ _ _ _ us hl=>ln2 us hl fun _ _=>rfl
 have F8:=ck (st:=iy) l8 c8 k8
 have b8:=F8.binds (ps:=["machine","some","letters"]) fun _ _ _ _ _ _ us hl=>rl us hl fun _ _ _=>rfl
 have F9:=lO (st:=bw) l9 c9 k9
 have H9:=t9 LG LH
 have b9:Binds K (PySem.W.fnOf "sets_growth" "sets_growth" (aL bw) (aH bw) (aj bw) .none OX OY OZ OW (.ref zf) O_) ["base","machine","name"] []:=.all fun us hl=>rl us hl fun _ _ _=>rfl
 have F10:=lO (st:=cH) l10 LK k10
 have b10:Binds K (PySem.W.fnOf "sets_of" "sets_of" (aL cH) (aH cH) (aj cH) (.ref tf) EV EW EX EU (.ref xt) EY) ["base","machine","name","most"] []:=fun s us hK hl=>uF us (by rw[List.append_nil] at hl;exact hl) fun _ _ _ _=>BindsTo.of_defaults (T:=tf) rfl (hK _ _ AA) rfl rfl rfl
 have Wb:∃t,Binds K (PySem.W.fnOf "sets_of" "sets_of" (aL cH) (aH cH) (aj cH) (.ref tf) EV EW EX EU (.ref xt) EY) ["base","machine","name","most"] [.int 2000 t]:=⟨Gh,fun s us hK hl=>have h3:us.length=3:=(by simpa using hl);rl us h3 fun _ _ _=>BindsTo.of_defaults (T:=tf) rfl (hK _ _ AA) rfl rfl rfl⟩
 have F11:=lO (st:=cI) LN LO k11
 have Wc:Binds K (PySem.W.fnOf "some_of" "some_of" (aL cI) (aH cI) (aj cI) (.ref tj) E_ E1 E2 EZ (.ref xu) E3) ["base","machine","name","most"] []:=fun s us hK hl=>uF us (by rw[List.append_nil] at hl;exact hl) fun _ _ _ _=>BindsTo.of_defaults (T:=tj) rfl (hK _ _ AB) rfl rfl rfl
 have Wd:∃t,Binds K (PySem.W.fnOf "some_of" "some_of" (aL cI) (aH cI) (aj cI) (.ref tj) E_ E1 E2 EZ (.ref xu) E3) ["base","machine","name","most"] [.int 2000 t]:=⟨Gi,fun s us hK hl=>have h3:us.length=3:=(by simpa using hl);rl us h3 fun _ _ _=>BindsTo.of_defaults (T:=tj) rfl (hK _ _ AB) rfl rfl rfl⟩
 have F12:=ck (st:=gG) LP c12 k12
 have Wf:=F12.binds (ps:=["_law_script"]) fun _ _ _ _ _ _ us hl=>ug us hl fun _=>rfl
 have F13:=ck (st:=iA) LQ LU k13
 have Wg:=F13.binds (ps:=["_law_feed_here","_law_many"]) fun _ _ _ _ _ _ us hl=>ln2 us hl fun _ _=>rfl
 have F14:=ck (st:=gQ) LV LW k14
 have Wh:=F14.binds (ps:=["_law_word"]) fun _ _ _ _ _ _ us hl=>ug us hl fun _=>rfl
 have F15:=ck (st:=eQ) LX LY GA
 have Wi:=F15.binds (ps:=["_law_feed_here","_law_many"]) fun _ _ _ _ _ _ us hl=>ln2 us hl fun _ _=>rfl
 have F16:=ck (st:=gR) LZ c16 GB
 have Wj:=F16.binds (ps:=["_law_moves"]) fun _ _ _ _ _ _ us hl=>ug us hl fun _=>rfl
 have F17:=ck (st:=c_) L_ L0 GC
 have Wk:=F17.binds (ps:=["_law_feed_here","_law_base","_law_names_here","_law_most"]) fun _ _ _ _ _ _ us hl=>uF us hl fun _ _ _ _=>rfl
 have F18:=ck (st:=dW) L3 L4 GD
 have Wl:=F18.binds (ps:=["_law_base","_law_many"]) fun _ _ _ _ _ _ us hl=>ln2 us hl fun _ _=>rfl
 have F19:=ck (st:=gT) L5 L6 GF
 have Wm:=F19.binds (ps:=["_law_first","_law_many","_law_onward","_law_most"]) fun _ _ _ _ _ _ us hl=>uF us hl fun _ _ _ _=>rfl
 have F20:=ck (st:=fH) L7 L8 GG
 have Wn:=F20.binds (ps:=["_law_found","_law_due_here"]) fun _ _ _ _ _ _ us hl=>ln2 us hl fun _ _=>rfl
 have F21:=ck (st:=fU) L9 c21 GH
 have Wo:=F21.binds (ps:=["_law_base","_law_names_here","_law_name"]) fun _ _ _ _ _ _ us hl=>rl us hl fun _ _ _=>rfl
 have F22:=ck (st:=de) Ma Mb GI
 have Wq:=F22.binds (ps:=["_law_machine_here","_law_noughts"]) fun _ _ _ _ _ _ us hl=>ln2 us hl fun _ _=>rfl
 have F23:=lO (st:=eB) Md Me GJ
 have O1:=t9 E5 E6
 have Wr:Binds K (PySem.W.fnOf "_law_due" "_law_due" (aL eB) (aH eB) (aj eB) .none Lr Ls Lu Lq (.ref tm) Lv) ["_law_base","_law_machine_here","_law_name"] []:=.all fun us hl=>rl us hl fun _ _ _=>rfl
 have F24:=ck (st:=iB) Mg Mh GK
 have Ws:=F24.binds (ps:=["_law_many"]) fun _ _ _ _ _ _ us hl=>ug us hl fun _=>rfl
 have F25:=ck (st:=fI) Mi Mj GL
 have Wt:=F25.binds (ps:=["_law_feed_here","_law_base","_law_names_here","_law_at"]) fun _ _ _ _ _ _ us hl=>uF us hl fun _ _ _ _=>rfl
 have F26:=ck (st:=jv) Mk Ml Mm
 have T:Txt K mg ⟨f0,_,f1,_,Dp,f2,_,f3,_,f4,_,f5,_,f6,_,f7,_,f8,_,f9,_,zf,uG,rj,_,xt,f11,_,xu,y9,_,Gj,_,Gk,_,Gm,_,Gn,_,Gp,_,Gq,_,Gr,_,Gs,_,Gu,_,Gv,_,Gw,_,tm,oQ,Gx,_,Gy,_,fa,_⟩:=⟨F0,PySem.W.mg_of X G a0,k0,b0,F1,PySem.W.mg_of X G a1,k1,b1,d1,F2,PySem.W.mg_of X G a2,k2,b2,F3,PySem.W.mg_of X G a3,k3,b3,F4,PySem.W.mg_of X G a4,k4,b4,F5,PySem.W.mg_of X G a5,k5,b5,F6,PySem.W.mg_of X G a6,k6,b6,F7,PySem.W.mg_of X G a7,k7,b7,F8,PySem.W.mg_of X G a8,k8,b8,F9,H9,PySem.W.mg_of X G a9,k9,b9,F10,PySem.W.mg_of X G a10,k10,b10,Wb,F11,PySem.W.mg_of X G a11,k11,Wc,Wd,F12,PySem.W.mg_of X G a12,k12,Wf,F13,PySem.W.mg_of X G a13,k13,Wg,F14,PySem.W.mg_of X G a14,k14,Wh,F15,PySem.W.mg_of X G a15,GA,Wi,F16,PySem.W.mg_of X G a16,GB,Wj,F17,PySem.W.mg_of X G a17,GC,Wk,F18,PySem.W.mg_of X G a18,GD,Wl,F19,PySem.W.mg_of X G a19,GF,Wm,F20,PySem.W.mg_of X G a20,GG,Wn,F21,PySem.W.mg_of X G a21,GH,Wo,F22,PySem.W.mg_of X G a22,GI,Wq,F23,O1,PySem.W.mg_of X G a23,GJ,Wr,F24,PySem.W.mg_of X G a24,GK,Ws,F25,PySem.W.mg_of X G a25,GL,Wt,F26,PySem.W.mg_of X G a26,PySem.W.mg_none_of X G z0,PySem.W.mg_none_of X G z1,PySem.W.mg_none_of X G z2,PySem.W.mg_none_of X G z3,PySem.W.mg_none_of X G z4,PySem.W.mg_none_of X G z5,PySem.W.mg_none_of X G z6,PySem.W.mg_none_of X G z7,PySem.W.mg_none_of X G z8,PySem.W.mg_none_of X G z9,PySem.W.mg_none_of X G Bd,PySem.W.mg_none_of X G Mn,PySem.W.mg_none_of X G Mp,PySem.W.mg_none_of X G Mq,PySem.W.mg_none_of X G Mr,vT⟩
 exact⟨PySem.W.fnOf "law" "law" (aL jv) (aH jv) (aj jv) .none LA LB LC Lz E4 LF,[uG,oQ],(List.forall_mem_cons.mpr ⟨⟨⟨_,PySem.W.codeHd_of_K X H9⟩,LJ,LI⟩,(List.forall_mem_cons.mpr ⟨⟨⟨_,PySem.W.codeHd_of_K X O1⟩,E8,E7⟩,(fun _ h=>nomatch h)⟩)⟩),fun s v=>.of_eq rfl,fun base _ _ hB=>KU T hB⟩
theorem walk {l:PySem.W.OpenLaw} {q:Program} {loose:List Str} {XP:(Str→Option Value)→Heap→Prop} {YP:World→Heap→Prop} {d:DefRec} {K:Params→PySem.W.Frag} (hn:l.most=some 63) (hdf:d.params.defaults=[])
  (hY:∀(w:World) (h:Heap),YP w h→(K w.params).In h)
  (F:∀(w:World) (mg:Str→Option Value) (fa:Addr) (h:Heap),(K w.params).In h→h.Ns mainGlobals mg→mg d.name=some (.ref fa)→YP w h→
   ∃(fd:FuncData) (ts:List Addr),(∀T∈ts,(∃c,PySem.W.CodeHd h c T)∧h.get? T=some (PySem.W.tabObj #[])∧(K w.params).lookup T=none)∧(∀(s:Shared) (u:Value),BindsTo s fd ⟨[u],[]⟩ [("_law_script",u)])∧
    ∀base:Heap,(K w.params).In base→base.Ns mainGlobals mg→dY mg base→bf l.prog w (K w.params) mg base bT 7 fa fd ["_law_script"] (ve (K w.params) ts)):
  PySem.W.WalkO q loose XP YP l.row.toRowW d [] (fun f vs=>PySem.call f vs):=
 L2.DT (n:=63) (k:=7) (x:="_law_script") (sp:=fun w ts=>ve (K w.params) ts) hn (by decide) hdf ⟨rfl,by decide,by decide,rfl⟩ hY F (fun _ _ a ns _ hl hO hS=>⟨a,ns,rfl,hS,hl,hO,fun _=>rfl⟩)
end
end My
namespace PySem.W.Fast
theorem tw563202613702913762 : True := trivial
theorem tw11574273116689612158 : True := trivial
theorem tw17318172627300414113 : True := trivial
theorem tw4481252046308822214 : True := trivial
theorem tw3644235333416324067 : True := trivial
theorem tw10217357425373129189 : True := trivial
theorem tw5569618997202489165 : True := trivial
theorem tw7025461008185027926 : True := trivial
theorem tw3403378621396661806 : True := trivial
theorem tw12786552043473592548 : True := trivial
theorem tw13032499242493873418 : True := trivial
theorem tw7379666957499306968 : True := trivial
theorem tw5620848190451039149 : True := trivial
theorem tw16986764961613937278 : True := trivial
theorem tw6785875773855639579 : True := trivial
theorem tw16192498384764750646 : True := trivial
theorem tw5237909921297322231 : True := trivial
theorem tw9489633883829463549 : True := trivial
theorem tw1459387549913566000 : True := trivial
theorem tw2099454227127521245 : True := trivial
theorem tw2913376387127978059 : True := trivial
theorem tw5520109738142902633 : True := trivial
theorem tw7018717114982510720 : True := trivial
theorem tw15934472102538460149 : True := trivial
theorem tw9818354770976340856 : True := trivial
theorem tw15485652288057911126 : True := trivial
theorem tw2282652643059271120 : True := trivial
theorem tw1231819540868300504 : True := trivial
theorem tw3298758755285787399 : True := trivial
theorem tw5711817523472580138 : True := trivial
theorem tw2104317129344038151 : True := trivial
theorem tw7951154082453075116 : True := trivial
theorem tw16184269539242579373 : True := trivial
theorem tw13292551642874713300 : True := trivial
theorem tw14283066344401262900 : True := trivial
theorem tw15712531631043148697 : True := trivial
theorem tw3593215821900635448 : True := trivial
theorem tw3988419418986091999 : True := trivial
theorem tw367616825126503201 : True := trivial
theorem tw16966763892900514677 : True := trivial
theorem tw18067646046219176404 : True := trivial
theorem tw12792264018724651805 : True := trivial
theorem tw3820835310493986024 : True := trivial
theorem tw354349118091991017 : True := trivial
theorem tw5001736264060821982 : True := trivial
theorem tw4058469271842256677 : True := trivial
theorem tw15766085194127667012 : True := trivial
theorem tw2819213493658201986 : True := trivial
theorem tw11279755536972373549 : True := trivial
theorem tw14261994660854518050 : True := trivial
theorem tw569940652026466481 : True := trivial
theorem tw17945488546927186761 : True := trivial
theorem tw1820068505526856732 : True := trivial
theorem tw7806571264162126536 : True := trivial
theorem tw478900188063229840 : True := trivial
theorem tw2774186841449806684 : True := trivial
theorem tw4330384692837964602 : True := trivial
theorem tw2341946382883727086 : True := trivial
theorem tw5225310845486226535 : True := trivial
theorem tw16221240123844037331 : True := trivial
theorem tw910125734382701280 : True := trivial
theorem tw9987588946441391027 : True := trivial
theorem tw5744027185379813332 : True := trivial
theorem tw8163183178958685129 : True := trivial
theorem tw2014979302353445297 : True := trivial
theorem tw8489895585132779369 : True := trivial
theorem tw9441993671500296357 : True := trivial
theorem tw11121765453041764507 : True := trivial
theorem tw17049308133682837408 : True := trivial
theorem tw18212940160234837409 : True := trivial
theorem tw5792499009899607825 : True := trivial
theorem tw8397816099277856552 : True := trivial
theorem tw4455521234219667588 : True := trivial
theorem tw15623764897573896095 : True := trivial
theorem tw4067880537025655251 : True := trivial
theorem tw12205006794881506091 : True := trivial
theorem tw8946720881982288876 : True := trivial
theorem tw5558876311679248821 : True := trivial
theorem tw7820794371961454033 : True := trivial
theorem tw8351054848349683030 : True := trivial
theorem tw3714350126346873065 : True := trivial
theorem tw8277017095826425152 : True := trivial
theorem tw17939165896619702619 : True := trivial
theorem tw13888211354303326473 : True := trivial
theorem tw18055724180235112089 : True := trivial
theorem tw8639072531646403761 : True := trivial
end PySem.W.Fast
open PySem PySem.W PyProof.Rows
set_option maxRecDepth 100000 in
set_option maxHeartbeats 0 in
theorem PySem.Challenge.cw_figurejudge_k42_sets_of_rooms_holds : PySem.Challenge.rw_figurejudge_k42_sets_of_rooms.Holds := by
 w_on;o_law;k_head;(case hw=>w_witness2)
 k_fill
 refine My.walk (l:=PySem.Challenge.rw_figurejudge_k42_sets_of_rooms) rfl rfl (fun w h Y=>PySem.W.km_in_of Y) ?F
 case F=>
  intro w mg fa h KX G hmg Y
  refine' My.all_mk KX G hmg ?a0 ?l0 ?c0 ?k0 ?a1 ?l1 ?c1 ?k1 ?Gz ?a2 ?l2 ?c2 ?k2 ?a3 ?l3 ?c3 ?k3 ?a4 ?l4 ?c4 ?k4 ?a5 ?l5 ?c5 ?k5 ?a6 ?l6 ?c6 ?k6 ?a7 ?l7 ?c7 ?k7 ?a8 ?l8 ?c8 ?k8 ?a9 ?l9 ?c9 ?k9 ?LG ?O0 ?LH ?LI ?LJ ?a10 ?l10 ?LK ?k10 ?AA ?a11 ?LN ?LO ?k11 ?AB ?a12 ?LP ?c12 ?k12 ?a13 ?LQ ?LU ?k13 ?a14 ?LV ?LW ?k14 ?a15 ?LX ?LY ?GA ?a16 ?LZ ?c16 ?GB ?a17 ?L_ ?L0 ?GC ?a18 ?L3 ?L4 ?GD ?a19 ?L5 ?L6 ?GF ?a20 ?L7 ?L8 ?GG ?a21 ?L9 ?c21 ?GH ?a22 ?Ma ?Mb ?GI ?a23 ?Md ?Me ?GJ ?E5 ?Mf ?E6 ?E7 ?E8 ?a24 ?Mg ?Mh ?GK ?a25 ?Mi ?Mj ?GL ?a26 ?Mk ?Ml ?Mm ?z0 ?z1 ?z2 ?z3 ?z4 ?z5 ?z6 ?z7 ?z8 ?z9 ?Bd ?Mn ?Mp ?Mq ?Mr ?vT
  (case a0=>k_is)
  (case l0=>k_is)
  (case c0=>k_is)
  (case k0=>k_is)
  (case a1=>k_is)
  (case l1=>k_is)
  (case c1=>k_is)
  (case k1=>k_is)
  (case Gz=>k_is)
  (case a2=>k_is)
  (case l2=>k_is)
  (case c2=>k_is)
  (case k2=>k_is)
  (case a3=>k_is)
  (case l3=>k_is)
  (case c3=>k_is)
  (case k3=>k_is)
  (case a4=>k_is)
  (case l4=>k_is)
  (case c4=>k_is)
  (case k4=>k_is)
  (case a5=>k_is)
  (case l5=>k_is)
  (case c5=>k_is)
  (case k5=>k_is)
  (case a6=>k_is)
  (case l6=>k_is)
  (case c6=>k_is)
  (case k6=>k_is)
  (case a7=>k_is)
  (case l7=>k_is)
  (case c7=>k_is)
  (case k7=>k_is)
  (case a8=>k_is)
  (case l8=>k_is)
  (case c8=>k_is)
  (case k8=>k_is)
  (case a9=>k_is)
  (case l9=>k_is)
  (case c9=>k_is)
  (case k9=>k_is)
  (case LG=>k_is)
  (case O0=>rfl)
  (case LH=>rfl)
  (case LI=>kernel_rfl)
  (case LJ=>exact PySem.W.km_tabs_of Y _ (by decide))
  (case a10=>k_is)
  (case l10=>k_is)
  (case LK=>k_is)
  (case k10=>k_is)
  (case AA=>k_is)
  (case a11=>k_is)
  (case LN=>k_is)
  (case LO=>k_is)
  (case k11=>k_is)
  (case AB=>k_is)
  (case a12=>k_is)
  (case LP=>k_is)
  (case c12=>k_is)
  (case k12=>k_is)
  (case a13=>k_is)
  (case LQ=>k_is)
  (case LU=>k_is)
  (case k13=>k_is)
  (case a14=>k_is)
  (case LV=>k_is)
  (case LW=>k_is)
  (case k14=>k_is)
  (case a15=>k_is)
  (case LX=>k_is)
  (case LY=>k_is)
  (case GA=>k_is)
  (case a16=>k_is)
  (case LZ=>k_is)
  (case c16=>k_is)
  (case GB=>k_is)
  (case a17=>k_is)
  (case L_=>k_is)
  (case L0=>k_is)
  (case GC=>k_is)
  (case a18=>k_is)
  (case L3=>k_is)
  (case L4=>k_is)
  (case GD=>k_is)
  (case a19=>k_is)
  (case L5=>k_is)
  (case L6=>k_is)
  (case GF=>k_is)
  (case a20=>k_is)
  (case L7=>k_is)
  (case L8=>k_is)
  (case GG=>k_is)
  (case a21=>k_is)
  (case L9=>k_is)
  (case c21=>k_is)
  (case GH=>k_is)
  (case a22=>k_is)
  (case Ma=>k_is)
  (case Mb=>k_is)
  (case GI=>k_is)
  (case a23=>k_is)
  (case Md=>k_is)
  (case Me=>k_is)
  (case GJ=>k_is)
  (case E5=>k_is)
  (case Mf=>rfl)
  (case E6=>rfl)
  (case E7=>kernel_rfl)
  (case E8=>exact PySem.W.km_tabs_of Y _ (by decide))
  (case a24=>k_is)
  (case Mg=>k_is)
  (case Mh=>k_is)
  (case GK=>k_is)
  (case a25=>k_is)
  (case Mi=>k_is)
  (case Mj=>k_is)
  (case GL=>k_is)
  (case a26=>k_is)
  (case Mk=>k_is)
  (case Ml=>k_is)
  (case Mm=>k_is)
  (case z0=>k_is)
  (case z1=>k_is)
  (case z2=>k_is)
  (case z3=>k_is)
  (case z4=>k_is)
  (case z5=>k_is)
  (case z6=>k_is)
  (case z7=>k_is)
  (case z8=>k_is)
  (case z9=>k_is)
  (case Bd=>k_is)
  (case Mn=>k_is)
  (case Mp=>k_is)
  (case Mq=>k_is)
  (case Mr=>k_is)
  (case vT=>decide)
#print axioms PySem.Challenge.cw_figurejudge_k42_sets_of_rooms_holds
