import PyProof.Rows.All
import Wide.All
import OpenK.AllK
import Wide.FinOn
import Lean
import PyProof.EqAt
import PyProof.EqKinds
import PyProof.TupleCall
import PyProof.NeKinds
import PyProof.ListRange
import PyProof.Draws
import PyProof.Rows.SortStr
import KE.KDictSum
import KE.KEqDict
import KE.KDictOf
import KE.KRevSl
import PyProof.StrWalks
import PyProof.StrBlock2
import PyProof.SetKind
import PyProof.SetRoads
import PyProof.Rows.SetFrom
import PyProof.ReprRoads
import PyProof.ReprLen
import PyProof.NsDelKeeps
import PyProof.ListMulRoad
import PyProof.FactsAll.tuple_2
import KE.KLam
import KE.KNestM
import PyProof.AttrMissHeap
import PyProof.Rows.SortShell
import PySem.Challenge.RW_figurejudge_k34_rooms_of_same_and_less
set_option Elab.async false
set_option linter.all false
set_option maxRecDepth 100000
set_option maxHeartbeats 4000000
namespace L2
open PySem PySem.Spec PyProof.Rows
abbrev Key:=Sum Int Str
def oB:Key→Value→Bool
 | .inl k,v=>Value.isInt k v
 | .inr x,v=>Value.isStrOf x v
def Oo (w:World):Key→Int
 | .inl k=>hashInt k
 | .inr x=>hashStr w x
theorem cB:∀{k:Key} {v:Value},oB k v=true→(∃i t,k=Sum.inl i∧v=Value.int i t)∨(∃x t,k=Sum.inr x∧v=Value.str x t)
 | .inl i,v,h=>by
  obtain⟨t,e⟩:=Value.isInt_shape (k:=i) (v:=v) h
  exact .inl ⟨i,t,rfl,e⟩
 | .inr x,v,h=>by
  obtain⟨t,e⟩:=Value.isStrOf_shape (x:=x) (v:=v) h
  exact .inr ⟨x,t,rfl,e⟩
theorem AX (i:Int) (t:Tok):oB (.inl i) (.int i t)=true:=by simp[oB,Value.isInt]
theorem AY (x:Str) (t:Tok):oB (.inr x) (.str x t)=true:=by simp[oB,Value.isStrOf]
theorem Hj (a b:Int):decide ((Sum.inl a:Key)=Sum.inl b)=(a == b):=by
 by_cases e:a=b
 ·subst e;simp
 ·have h:¬(Sum.inl a:Key)=Sum.inl b:=fun q=>e (Sum.inl.inj q)
  rw[decide_eq_false h]
  exact(beq_eq_false_iff_ne.mpr e).symm
theorem Hk (a b:Str):decide ((Sum.inr a:Key)=Sum.inr b)=decide (a=b):=by
 by_cases e:a=b
 ·subst e;simp
 ·have h:¬(Sum.inr a:Key)=Sum.inr b:=fun q=>e (Sum.inr.inj q)
  rw[decide_eq_false h,decide_eq_false e]
theorem Hl (a:Int) (b:Str):decide ((Sum.inl a:Key)=Sum.inr b)=false:=decide_eq_false (fun q=>nomatch q)
theorem Hm (a:Str) (b:Int):decide ((Sum.inr a:Key)=Sum.inl b)=false:=decide_eq_false (fun q=>nomatch q)
def bh (prog:Program) (w:World):PySem.KeyKind prog w Key where
 is:=oB
 hash:=Oo w
 inj:=fun v a b ha hb=>by
  rcases cB ha with⟨i,t,rfl,rfl⟩ | ⟨x,t,rfl,rfl⟩
  ·rcases cB hb with⟨j,u,rfl,e⟩ | ⟨y,u,rfl,e⟩
   ·injection e with e1 _;rw[e1]
   ·exact nomatch e
  ·rcases cB hb with⟨j,u,rfl,e⟩ | ⟨y,u,rfl,e⟩
   ·exact nomatch e
   ·injection e with e1 _;rw[e1]
 byValue:=fun k v h=>by
  rcases cB h with⟨i,t,rfl,rfl⟩ | ⟨x,t,rfl,rfl⟩<;>rfl
 pyHash:=fun hv h=>by
  rcases cB hv with⟨i,t,rfl,rfl⟩ | ⟨x,t,rfl,rfl⟩
  ·exact wpAny_pyHash_int h
  ·exact wpAny_pyHash_str h
 eqBool:=fun hu hv h=>by
  rcases cB hu with⟨i,t,rfl,rfl⟩ | ⟨x,t,rfl,rfl⟩
  ·rcases cB hv with⟨j,u,rfl,rfl⟩ | ⟨y,u,rfl,rfl⟩
   ·rw[Hj] at h;exact wpAny_eqBool_int h
   ·rw[Hl] at h;exact SeqAt.EqAt.int_str i t y u _ _ _ _ h
  ·rcases cB hv with⟨j,u,rfl,rfl⟩ | ⟨y,u,rfl,rfl⟩
   ·rw[Hm] at h;exact SeqAt.EqAt.str_int x t j u _ _ _ _ h
   ·rw[Hk] at h;exact wpAny_eqBool_str h
 «strs» :=fun k x t v h=>by
  rcases cB h with⟨i,u,rfl,e⟩ | ⟨y,u,rfl,e⟩
  ·exact nomatch e
  ·injection e with e1 _
   subst e1
   cases v<;>rfl
theorem yc (prog:Program) (w:World) (i:Int) (t:Tok):(bh prog w).is (.inl i) (.int i t)=true:=AX i t
theorem yd (prog:Program) (w:World) (x:Str) (t:Tok):(bh prog w).is (.inr x) (.str x t)=true:=AY x t
inductive V where
 | non | bl (b:Bool) | int (i:Int) | str (x:Str) | jw (b:Array UInt8) | flt (b:UInt64) | ref (a:Addr) | ty (n:String)
 deriving DecidableEq
def RelV:V→Value→Prop
 | .non,u=>u=Value.none
 | .bl b,u=>u=Value.bool b
 | .int i,u=>∃t,u=Value.int i t
 | .str x,u=>∃t,u=Value.str x t
 | .jw b,u=>∃t,u=Value.bytes b t
 | .flt b,u=>∃t,u=Value.float b t
 | .ref a,u=>u=Value.ref a
 | .ty n,u=>u=Value.type n
abbrev Vals:List V→List Value→Prop:=Paired RelV
theorem Vals.length {xs:List V} {us:List Value} (r:Vals xs us):xs.length=us.length:=Paired.length r
theorem Vals.get:∀{xs:List V} {us:List Value} {i:Nat} {x:V},Vals xs us→xs[i]? =some x→∃u,us[i]? =some u∧RelV x u
 | _,_,_,_,.nil,e=>by simp at e
 | _,_,0,_,.cons r _,e=>by simp at e;subst e;exact⟨_,rfl,r⟩
 | _,_,i+1,x,.cons _ t,e=>by
  obtain⟨u,h1,h2⟩:=Vals.get (i:=i) (x:=x) t (by simpa using e)
  exact⟨u,by simpa using h1,h2⟩
theorem Vals.append:∀{xs ys:List V} {us ws:List Value},Vals xs us→Vals ys ws→Vals (xs++ys) (us++ws)
 | _,_,_,_,.nil,s=>s
 | _,_,_,_,.cons r t,s=>.cons r (Vals.append t s)
theorem Vals.take:∀{xs:List V} {us:List Value} (n:Nat),Vals xs us→Vals (xs.take n) (us.take n)
 | _,_,0,_=>.nil
 | _,_,_+1,.nil=>.nil
 | _,_,n+1,.cons r t=>.cons r (Vals.take n t)
theorem Vals.drop:∀{xs:List V} {us:List Value} (n:Nat),Vals xs us→Vals (xs.drop n) (us.drop n)
 | _,_,0,r=>r
 | _,_,_+1,.nil=>.nil
 | _,_,n+1,.cons _ t=>Vals.drop n t
def fw:Option V→Option Value→Prop
 | some v,some u=>RelV v u
 | none,none=>True
 | _,_=>False
def KV {κ:Type}:List (κ×V)→List (κ×Value)→Prop:=Paired fun(p:κ×V) (q:κ×Value)=>p.1=q.1∧RelV p.2 q.2
def kV:Key→V
 | .inl i=>.int i
 | .inr x=>.str x
inductive HO where
 | lst (xs:List V)
 | tup (xs:List V)
 | dK (kvs:List (Key×V)) | dT (kvs:List (List Key×V))
 | set (S:Int→Bool) (n:Nat)
 | ins (C dx:Addr) (fs:List (Str×V))
 | own (x:Addr)
 | xd (fs:List (Str×V))
 | met (f x:Addr)
 | rng (lo hi:Int)
 | iP (o:Obj) (u:HO)
 | f' (ps:Array Value)
 | ext (φ:Heap→Prop)
abbrev Hp:=Addr→Option HO
def upd (H:Hp) (a:Addr) (o:HO):Hp:=fun b=>if b=a then some o else H b
theorem af {H:Hp} {a:Addr} {o:HO}:upd H a o a=some o:=by unfold upd;rw[if_pos rfl]
theorem ak {H:Hp} {a b:Addr} {o:HO} (h:b≠a):upd H a o b=H b:=by unfold upd;rw[if_neg h]
theorem fL {H:Hp} {a b:Addr} {o u:HO} (h:H a=some o) (h':H b=some u) (d:o≠u):a≠b:=by
 intro e;subst e;rw[h] at h';exact d (Option.some.inj h')
theorem aj {H:Hp} {a b:Addr} {o:HO} (h:H a=some o) (h':H b=none):a≠b:=by
 intro e;subst e;rw[h] at h';cases h'
section
variable (P:Program) (w:World)
def bq (H:Hp) (h:Heap) (a:Addr):HO→Prop
 | .lst xs=>xs.length≤sizeLine∧∃(its:List Value) (n:Nat),Vals xs its∧h.get? a=some {cls:=.type "list",data:=.seq its.toArray n}
 | .tup xs=>(xs.length≤sizeLine∧∃o,h.get? a=some o∧o.dict=none)∧∃its:List Value,Vals xs its∧IsTup h a its.toArray
 | .dK kvs=>kvs.length≤sizeLine∧(a == sysModules)=false∧∃vs,KV kvs vs∧h.DictOf (bh P w) a vs
 | .dT kvs=>kvs.length≤sizeLine∧(a == sysModules)=false∧∃xs:List (List Key×Addr×Value),
   Paired (fun(p:List Key×V) (q:List Key×Addr×Value)=>p.1=q.1∧H q.2.1=some (.tup (p.1.map kV))∧RelV p.2 q.2.2) kvs xs∧
   ∃o es ep,h.get? a=some o∧o.ExactDict∧o.data=.dict es ep∧es.toList=xs.map (entryOfKey (tupleKind (bh P w)))∧(xs.map (·.1)).Nodup
 | .set S n=>h.SetOf (intKind P w) a S n
 | .ins C dx fs=>H dx=some (.own a)∧fs.length≤1000∧dx≠a∧h.get? a=some (PySem.W.instObj C dx)∧
   ∃mA,h.Ns1 dx mA∧(∀f,fw (fs.lookup f) (mA f))∧PySem.Within mA (fs.map (·.1))
 | .own _=>∃o,h.get? a=some o
 | .xd fs=>∃mA,h.Ns1 a mA∧∀f,fw (fs.lookup f) (mA f)
 | .rng lo hi=>∃t u v,h.get? a=some {cls:=.type "range",data:=.fields #[.int lo t,.int hi u,.int 1 v]}
 | .iP o u=>h.get? a=some o∧bq H h a u
 | .f' ps=>h.get? a=some {cls:=.none,data:=.fields ps}
 | .met f x=>h.get? a=some (PySem.W.methodObj (.ref f) (.ref x))
 | .ext φ=>φ h∧(∃o,h.get? a=some o)∧∀h1 h2:Heap,φ h1→(∀o,h1.get? a=some o→h2.get? a=some o)→φ h2
def cC (H:Hp) (h:Heap):Prop:=∀a o,H a=some o→bq P w H h a o
end
section
variable {P:Program} {w:World} {H H':Hp} {h h':Heap} {a:Addr} {o:HO}
theorem bq.lt (x:bq P w H h a o):a<h.objs.size:=by
 cases o with
 | lst xs=>obtain⟨_,_,_,_,e⟩:=x;exact Heap.lt_size e
 | tup xs=>obtain⟨_,_,_,p⟩:=x;exact p.lt
 | dK kvs=>obtain⟨_,_,_,_,o,_,_,e,_⟩:=x;exact Heap.lt_size e
 | dT kvs=>obtain⟨_,_,_,_,o,_,_,e,_⟩:=x;exact Heap.lt_size e
 | set S n=>obtain⟨o,_,_,_,e,_⟩:=x;exact Heap.lt_size e
 | ins C dx fs=>obtain⟨_,_,_,e,_⟩:=x;exact Heap.lt_size e
 | own y=>obtain⟨_,e⟩:=x;exact Heap.lt_size e
 | xd fs=>obtain⟨_,⟨_,_,_,e,_⟩,_⟩:=x;exact Heap.lt_size e
 | rng lo hi=>obtain⟨_,_,_,e⟩:=x;exact Heap.lt_size e
 | iP ob u=>obtain⟨e,_⟩:=x;exact Heap.lt_size e
 | f' ps=>exact Heap.lt_size (show h.get? a=some _ from x)
 | met f y=>exact Heap.lt_size (show h.get? a=some _ from x)
 | ext φ=>obtain⟨_,⟨_,e⟩,_⟩:=x;exact Heap.lt_size e
theorem Paired.lJ {α β:Type} {F G:α→β→Prop}:∀{l₁:List α} {l₂:List β},Paired F l₁ l₂→(∀a b,F a b→G a b)→Paired G l₁ l₂
 | _,_,.nil,_=>.nil
 | _,_,.cons r t,f=>.cons (f _ _ r) (Paired.lJ t f)
theorem bq.stay (x:bq P w H h a o) (k:∀b u,(b=a∨H b=some (.own a))→h.get? b=some u→h'.get? b=some u)
  (ho:∀b,H b=some (.own a)→H' b=some (.own a)) (ht:∀b xs,H b=some (.tup xs)→H' b=some (.tup xs)):bq P w H' h' a o:=by
 induction o with
 | lst xs=>obtain⟨z,its,n,r,e⟩:=x;exact⟨z,its,n,r,k _ _ (.inl rfl) e⟩
 | tup xs=>obtain⟨⟨z,o2,e2,d2⟩,its,r,ob,e,c⟩:=x;exact⟨⟨z,o2,k _ _ (.inl rfl) e2,d2⟩,its,r,ob,k _ _ (.inl rfl) e,c⟩
 | dK kvs=>obtain⟨z,y,vs,r,ob,es,ep,e,c⟩:=x;exact⟨z,y,vs,r,ob,es,ep,k _ _ (.inl rfl) e,c⟩
 | dT kvs=>
  obtain⟨z,y,xs,r,ob,es,ep,e,c⟩:=x
  exact⟨z,y,xs,Paired.lJ r fun p q z=>⟨z.1,ht _ _ z.2.1,z.2.2⟩,ob,es,ep,k _ _ (.inl rfl) e,c⟩
 | set S n=>obtain⟨ob,es,ep,t,e,c⟩:=x;exact⟨ob,es,ep,t,k _ _ (.inl rfl) e,c⟩
 | ins C dx fs=>
  obtain⟨d,z,ne,e,mA,⟨od,es,ep,e2,c⟩,r⟩:=x
  exact⟨ho _ d,z,ne,k _ _ (.inl rfl) e,mA,⟨od,es,ep,k _ _ (.inr d) e2,c⟩,r⟩
 | own y=>obtain⟨ob,e⟩:=x;exact⟨ob,k _ _ (.inl rfl) e⟩
 | xd fs=>obtain⟨mA,⟨od,es,ep,e,c⟩,r⟩:=x;exact⟨mA,⟨od,es,ep,k _ _ (.inl rfl) e,c⟩,r⟩
 | rng lo hi=>obtain⟨t,u,v,e⟩:=x;exact⟨t,u,v,k _ _ (.inl rfl) e⟩
 | iP ob u ih=>obtain⟨e,q⟩:=x;exact⟨k _ _ (.inl rfl) e,ih q⟩
 | f' ps=>
  have e:h.get? a=some {cls:=.none,data:=.fields ps}:=x
  show h'.get? a=some {cls:=.none,data:=.fields ps}
  exact k a _ (.inl rfl) e
 | met f y=>
  have e:h.get? a=some (PySem.W.methodObj (.ref f) (.ref y)):=x
  show h'.get? a=some (PySem.W.methodObj (.ref f) (.ref y))
  exact k a _ (.inl rfl) e
 | ext φ=>obtain⟨p,⟨o,e⟩,st⟩:=x;exact⟨st _ _ p fun o q=>k _ _ (.inl rfl) q,⟨o,k _ _ (.inl rfl) e⟩,st⟩
theorem cC.lt (x:cC P w H h) (e:H a=some o):a<h.objs.size:=(x a o e).lt
theorem cC.fresh (x:cC P w H h) (e:h.objs.size≤a):H a=none:=by
 cases q:H a with
 | none=>rfl
 | some u=>exact absurd (Nat.lt_of_lt_of_le (x.lt q) e) (Nat.lt_irrefl _)
theorem cC.kept (x:cC P w H h) (k:∀b u,h.get? b=some u→h'.get? b=some u):cC P w H h':=fun a o e=>
 (x a o e).stay (fun b u _ q=>k b u q) (fun _ q=>q) fun _ _ q=>q
theorem cC.laid (x:cC P w H h) (k:∀b u,h.get? b=some u→h'.get? b=some u) (hp:h.objs.size≤a) (new:bq P w (upd H a o) h' a o):cC P w (upd H a o) h':=fun b u e=>by
 have hn:=x.fresh hp
 by_cases hb:b=a
 ·subst hb;rw[af] at e;cases e;exact new
 ·rw[ak hb] at e
  exact(x b u e).stay (fun c v _ q=>k c v q) (fun c q=>by rw[ak (aj q hn)];exact q) fun c xs q=>by rw[ak (aj q hn)];exact q
end
def Rd (H:Hp) (a:Addr) (u:HO):Prop:=H a=some u∨∃o,H a=some (.iP o u)
theorem Rd.ok {P:Program} {w:World} {H:Hp} {h:Heap} {a:Addr} {u:HO} (r:Rd H a u) (x:cC P w H h):bq P w H h a u:=by
 rcases r with r | ⟨o,r⟩
 ·exact x a u r
 ·obtain⟨_,q⟩:=x a _ r
  exact q
def AZ:Option HO→Prop
 | some (.lst _)=>True
 | some (.dK _)=>True
 | some (.dT _)=>True
 | some (.set _ _)=>True
 | some (.ins _ _ _)=>True
 | some (.ext _)=>True
 | _=>False
section
variable {P:Program} {w:World} {H:Hp} {h h':Heap} {x e:Addr} {o':HO}
theorem cC.write (ok:cC P w H h) (mu:AZ (H x)) (he:e=x∨H e=some (.own x)) (k:∀b u,b≠e→h.get? b=some u→h'.get? b=some u) (heo:∃u,h'.get? e=some u)
  (new:bq P w (upd H x o') h' x o'):cC P w (upd H x o') h':=fun b u q=>by
 have Hn:∀c y,H c=some (.own y)→c≠x:=fun c y r z=>by subst z;rw[r] at mu;exact mu
 have Oq:∀c xs,H c=some (.tup xs)→c≠x:=fun c xs r z=>by subst z;rw[r] at mu;exact mu
 by_cases hb:b=x
 ·subst hb;rw[af] at q;cases q;exact new
 ·rw[ak hb] at q
  by_cases hbe:b=e
  ·have q':H b=some (.own x):=by
    rcases he with z | z
    ·exact absurd (hbe.trans z) hb
    ·rw[hbe];exact z
   rw[q] at q';cases q'
   obtain⟨v,hv⟩:=heo
   exact⟨v,by rw[hbe];exact hv⟩
  ·refine(ok b u q).stay (fun c v hc r=>k c v ?_ r) (fun c r=>by rw[ak (Hn c b r)];exact r) fun c xs r=>by rw[ak (Oq c xs r)];exact r
   rcases hc with rfl | hc
   ·exact hbe
   ·rintro rfl
    rcases he with z | z
    ·exact Hn c b hc z
    ·rw[hc] at z;cases z;exact hb rfl
end
structure Un (fs ex:List Addr) (H H':Hp) (h h':Heap):Prop where
 keep:∀b o,h.get? b=some o→H b=none→b ∉ fs→b ∉ ex→h'.get? b=some o
 slot:∀b o,h.get? b=some o→H b=none→b∈fs→b ∉ ex→∃sl,h'.get? b=some {o with slots:=sl}
 free:∀b o,h.get? b=some o→H b=none→b ∉ ex→H' b=none
 there:∀b o,h.get? b=some o→b ∉ ex→∃o',h'.get? b=some o'
 tups:∀b xs,H b=some (.tup xs)→H' b=some (.tup xs)
 jx:∀b o u,H b=some (.iP o u)→H' b=some (.iP o u)
 jy:∀b ps,H b=some (.f' ps)→∃more,H' b=some (.f' (ps++more))
section
variable {fs fs' ex ex':List Addr} {H H1 H2:Hp} {h h1 h2 h':Heap} {a x e:Addr} {o:HO}
theorem Un.any (u:Un fs ex H H1 h h1) {b:Addr} {ob:Obj} (q:h.get? b=some ob) (n:H b=none) (hx:b ∉ ex):∃sl,h1.get? b=some {ob with slots:=sl}:=by
 by_cases hb:b∈fs
 ·exact u.slot b ob q n hb hx
 ·exact⟨ob.slots,u.keep b ob q n hb hx⟩
theorem Un.kept (k:∀b u,h.get? b=some u→h'.get? b=some u):Un fs ex H H h h':=
 ⟨fun b ob q _ _ _=>k b ob q,fun b ob q _ _ _=>⟨ob.slots,k b ob q⟩,fun _ _ _ n _=>n,fun b ob q _=>⟨ob,k b ob q⟩,fun _ _ q=>q,fun _ _ _ q=>q,fun _ ps q=>⟨#[],by rw[q];simp⟩⟩
theorem Un.refl:Un fs ex H H h h:=Un.kept fun _ _ q=>q
theorem Un.laid (k:∀b u,h.get? b=some u→h'.get? b=some u) (hp:h.objs.size≤a) (hn:H a=none):Un fs ex H (upd H a o) h h' where
 keep:=fun b u q _ _ _=>k b u q
 slot:=fun b u q _ _ _=>⟨u.slots,k b u q⟩
 free:=fun b u q n _=>by rw[ak (Nat.ne_of_lt (Nat.lt_of_lt_of_le (Heap.lt_size q) hp))];exact n
 there:=fun b u q _=>⟨u,k b u q⟩
 tups:=fun b xs q=>by rw[ak (aj q hn)];exact q
 jx:=fun b u xs q=>by rw[ak (aj q hn)];exact q
 jy:=fun b ps q=>⟨#[],by rw[ak (aj q hn),q];simp⟩
theorem Un.write (mu:AZ (H x)) (he:e=x∨H e=some (.own x)) (k:∀b u,b≠e→h.get? b=some u→h'.get? b=some u) (heo:∃u,h'.get? e=some u):Un fs ex H (upd H x o) h h':=by
 have hx:∀b,H b=none→b≠x:=fun b n z=>by subst z;rw[n] at mu;exact mu
 have hb:∀b,H b=none→b≠e:=fun b n z=>by
  subst z
  rcases he with r | r
  ·exact hx b n r
  ·rw[n] at r;cases r
 have hm:∀b u,H b=some u→¬AZ (some u)→b≠x:=fun b u q nm z=>by subst z;rw[q] at mu;exact nm mu
 refine⟨fun b u q n _ _=>k b u (hb b n) q,fun b u q n _ _=>⟨u.slots,k b u (hb b n) q⟩,fun b u q n _=>by rw[ak (hx b n)];exact n,fun b u q _=>?_,
  fun b xs q=>by rw[ak (hm b _ q fun z=>z)];exact q,fun b u xs q=>by rw[ak (hm b _ q fun z=>z)];exact q,fun b ps q=>⟨#[],by rw[ak (hm b _ q fun z=>z),q];simp⟩⟩
 by_cases hbe:b=e
 ·subst hbe;exact heo
 ·exact⟨u,k b u hbe q⟩
end
def EU (h:Heap) (H:Hp):List Addr:=(List.range h.objs.size).filter fun a=>(H a).isSome
def jz (h:Heap) (H:Hp):Heap:=PySem.W.hideAll h (EU h H)
theorem tH (h:Heap) (H:Hp):(jz h H).objs.size=h.objs.size:=PySem.W.hideAll_size _ _
theorem vD {h:Heap} {H:Hp} {b:Addr} {o:Obj} (e:h.get? b=some o) (n:H b=none):(jz h H).get? b=some o:=
 PySem.W.hideAll_get _ e fun hm=>by
  have q:(H b).isSome=true:=(List.mem_filter.mp hm).2
  rw[n] at q;simp at q
theorem yx {h:Heap} {H:Hp} {b:Addr} {o:Obj} (e:(jz h H).get? b=some o):h.get? b=some o∧H b=none:=by
 have e':h.get? b=some o:=PySem.W.of_hideAll (EU h H) e
 refine⟨e',?_⟩
 cases q:H b with
 | none=>rfl
 | some x=>
  have hm:b∈EU h H:=List.mem_filter.mpr ⟨List.mem_range.mpr (Heap.lt_size e'),by simp[q]⟩
  have z:(jz h H).get? b=none:=PySem.W.hideAll_none (EU h H) hm
  rw[z] at e;cases e
structure Mod (K:PySem.W.Frag) (mg:Str→Option Value) (base:Heap):Prop where
 m7:K.In base
 glob:base.Ns mainGlobals mg
 blt:∃mb,base.Ns builtinsNs mb∧∀x:Str,x≠"__name__"→mb x=bootBuiltins x
 nolimit:base.NoLimit
structure Cx where
 prog:Program
 w:World
 K:PySem.W.Frag
 mg:Str→Option Value
 base:Heap
 A:Around
 N:List Str
 s₀:Shared
 H₀:Hp
 env:Env
 outer:List Env
 stack:List Env
 ex:List Addr
 fn:Str→Bool
 calm:Bool
 pn:List (Addr×Obj)
 xe:Value→Shared→Prop
def frs (l:List Env):List Addr:=l.filterMap (·.frame)
abbrev Cx.fs (X:Cx):List Addr:=frs X.outer
def yy (sc:Scope) (x:Str):Prop:=sc.names.lookup x=some .local∨sc.names.lookup x=some .cell∨sc.names.lookup x=some .free
def Loc (sc:Scope) (x:Str):Prop:=sc.names.lookup x=some .local∨sc.names.lookup x=some .cell
def Look (env:Env) (h:Heap) (m:Str→Option Value) (x:Str) (u:Value):Prop:=
 (env.kindOf x=some .local∧m x=some u)∨((env.kindOf x=some .cell∨env.kindOf x=some .free)∧∃c,env.cells.lookup x=some c∧h.IsCell c (some u))
structure Cx.Ok (X:Cx):Prop where
 mod:Mod X.K X.mg X.base
 kind:X.env.scope.kind=.function
 glob:X.env.globals=mainGlobals
 blt:X.env.builtins=builtinsNs
 above:X.s₀.heap.objs.size≤X.env.locals
 inj:∀x y c,X.env.cells.lookup x=some c→X.env.cells.lookup y=some c→x=y
 has:∀x,(X.env.kindOf x=some .cell∨X.env.kindOf x=some .free)→∃c,X.env.cells.lookup x=some c
 cab:∀x c,X.fn x=true→X.env.cells.lookup x=some c→X.s₀.heap.objs.size≤c
 hd:X.calm=true→X.A.handled=none
 frames:X.A.frames=some X.stack
 stk:X.stack=X.outer∨(X.stack=X.env::X.outer∧X.env.frame=some X.env.locals)
 Ho:∀b∈X.ex,b≠X.env.locals∧∀x c,X.env.cells.lookup x=some c→c≠b
 bs:∀b o,X.base.get? b=some o→X.s₀.heap.get? b=some o∧X.H₀ b=none
 m8:X.base.objs.size≤X.s₀.heap.objs.size
 vE:∀b o,X.base.get? b=some o→b ∉ X.ex
 vF:∀b∈X.ex,b ∉ X.fs
 g_:X.s₀.heap.FunFrames X.base X.outer
 tI:∀b∈X.fs,X.H₀ b=none
structure Inv (X:Cx) (pins:List (Addr×Obj)) (σ:List (Option V)) (H:Hp) (s:Shared):Prop where
 ok:X.Ok
 os:s.os=X.s₀.os
 bare:AllBare s.gens
 base:Un X.fs X.ex X.H₀ H X.s₀.heap s.heap
 loc:∃m,s.heap.Ns X.env.locals m∧∀(i:Nat) (x:Str) (v:V),X.N[i]? =some x→σ[i]? =some (some v)→yy X.env.scope x→∃u,RelV v u∧Look X.env s.heap m x u
 cell:∀x c,X.env.cells.lookup x=some c→∃v,s.heap.IsCell c v
 free:H X.env.locals=none
 fM:∀x c,X.env.cells.lookup x=some c→H c=none
 pin:∀p∈X.pn++pins,s.heap.get? p.1=some p.2∧H p.1=none∧p.1≠X.env.locals∧p.1 ∉ X.fs∧∀v,p.2.data≠.cell v
 hok:cC X.prog X.w H s.heap
 len:σ.length=X.N.length
section
variable {X:Cx} {pins:List (Addr×Obj)} {σ:List (Option V)} {H H':Hp} {s:Shared} {h':Heap}
theorem Cx.Ok.Hq (ok:X.Ok) {b:Addr} {o:Obj} (e:X.base.get? b=some o):b ∉ X.fs:=fun hb=>by
 have:=(ok.g_.mem hb).1
 rw[e] at this;cases this
theorem Inv.bs (I:Inv X pins σ H s):∀b o,X.base.get? b=some o→s.heap.get? b=some o∧H b=none:=fun b o e=>
 ⟨I.base.keep b o (I.ok.bs b o e).1 (I.ok.bs b o e).2 (I.ok.Hq e) (I.ok.vE b o e),I.base.free b o (I.ok.bs b o e).1 (I.ok.bs b o e).2 (I.ok.vE b o e)⟩
theorem Inv.bk (I:Inv X pins σ H s):∀b o,X.base.get? b=some o→s.heap.get? b=some o:=fun b o e=>(I.bs b o e).1
theorem Inv.mod (I:Inv X pins σ H s):Mod X.K X.mg X.base:=I.ok.mod
theorem Inv.gb (I:Inv X pins σ H s):X.K.In s.heap:=I.ok.mod.m7.keeps I.bk
theorem Inv.lt (I:Inv X pins σ H s):X.env.locals<s.heap.objs.size:=let ⟨_,hn,_⟩:=I.loc;hn.lt
theorem Inv.sz (I:Inv X pins σ H s):X.s₀.heap.objs.size≤s.heap.objs.size:=Nat.le_trans I.ok.above (Nat.le_of_lt I.lt)
theorem Inv.Ot (I:Inv X pins σ H s) {a:Addr} (h:s.heap.objs.size≤a):a ∉ X.fs:=fun hb=>by
 obtain⟨_,o,ho,_⟩:=I.ok.g_.mem hb
 exact absurd (Nat.lt_of_lt_of_le (Heap.lt_size ho) (Nat.le_trans I.sz h)) (Nat.lt_irrefl _)
theorem Inv.tJ (I:Inv X pins σ H s):∀x c,X.env.cells.lookup x=some c→c≠X.env.locals:=fun x c e z=>by
 obtain⟨v,o,ho,hd⟩:=I.cell x c e
 obtain⟨m,⟨o',es,ep,ho',hd',_⟩,_⟩:=I.loc
 rw[z,ho'] at ho;cases ho;rw[hd'] at hd;cases hd
theorem Inv.g_ (I:Inv X pins σ H s):s.heap.FunFrames X.base X.outer:=by
 have all:∀(l:List Env),(∀b∈frs l,b∈X.fs)→X.s₀.heap.FunFrames X.base l→s.heap.FunFrames X.base l:=by
  intro l
  induction l with
  | nil=>intro _ _;trivial
  | cons env r ih=>
   intro hs hl
   obtain⟨hk,⟨L,o,hf,hn,ho,hd⟩,hr⟩:=hl
   have hL:L∈X.fs:=hs L (by unfold frs;rw[List.filterMap_cons,hf];exact List.mem_cons_self)
   obtain⟨sl,e⟩:=I.base.slot L o ho (I.ok.tI L hL) hL fun z=>I.ok.vF L z hL
   exact⟨hk,⟨L,_,hf,hn,e,hd⟩,ih (fun b hb=>hs b (by unfold frs;rw[List.filterMap_cons,hf];exact List.mem_cons_of_mem _ hb)) hr⟩
 exact all X.outer (fun _ hb=>hb) I.ok.g_
theorem Inv.stack (I:Inv X pins σ H s):s.heap.FunFrames X.base X.stack:=by
 rcases I.ok.stk with e | ⟨e,hf⟩
 ·rw[e];exact I.g_
 ·rw[e]
  obtain⟨m,hn,_⟩:=I.loc
  refine .cons (by rw[I.ok.kind];decide) hf hn ?_ I.g_
  exact Heap.get?_none_of_le (Nat.le_trans I.ok.m8 I.ok.above)
theorem Inv.m9 (I:Inv X pins σ H s):∀b∈frs X.stack,b∈X.env.locals::X.fs:=fun b hb=>by
 rcases I.ok.stk with e | ⟨e,hf⟩
 ·rw[e] at hb;exact List.mem_cons_of_mem _ hb
 ·rw[e] at hb
  unfold frs at hb
  rw[List.filterMap_cons,hf] at hb
  exact hb
theorem Inv.kJ (I:Inv X pins σ H s):∀b∈frs X.stack,H b=none:=fun b hb=>by
 rcases List.mem_cons.mp (I.m9 b hb) with e | hb
 ·rw[e];exact I.free
 ·obtain⟨_,o,ho,_⟩:=I.ok.g_.mem hb
  exact I.base.free b o ho (I.ok.tI b hb) fun z=>I.ok.vF b z hb
theorem Inv.step {g':Array GenState} {t':Nat} {d':Drawn} {ch:List Addr} (I:Inv X pins σ H s)
  (hch:∀b∈ch,(b∈X.ex∨X.s₀.heap.objs.size≤b)∧b≠X.env.locals∧(∀x c,X.env.cells.lookup x=some c→c≠b)∧∀p∈X.pn++pins,p.1≠b)
  (keep:∀b o,b≠X.env.locals→b ∉ X.fs→b ∉ ch→s.heap.get? b=some o→H b=none→h'.get? b=some o)
  (slot:∀b o,b≠X.env.locals→b∈X.fs→b ∉ ch→s.heap.get? b=some o→H b=none→∃sl,h'.get? b=some {o with slots:=sl}) (free:∀b o,b ∉ ch→s.heap.get? b=some o→H b=none→H' b=none)
  (there:∀b o,b ∉ ch→s.heap.get? b=some o→∃o',h'.get? b=some o')
  (tups:∀b xs,H b=some (.tup xs)→H' b=some (.tup xs)) (jx:∀b o u,H b=some (.iP o u)→H' b=some (.iP o u)) (jy:∀b ps,H b=some (.f' ps)→∃more,H' b=some (.f' (ps++more)))
  (ns:∀m,s.heap.Ns X.env.locals m→h'.Ns X.env.locals m) (hok:cC X.prog X.w H' h') (hg:AllBare g'):
  Inv X pins σ H' {s with heap:=h',gens:=g',drawn:=d',toks:=t'}:=by
 have MT:∀b o,X.s₀.heap.get? b=some o→b≠X.env.locals:=fun b o e=>Nat.ne_of_lt (Nat.lt_of_lt_of_le (Heap.lt_size e) I.ok.above)
 have EV:∀b o,X.s₀.heap.get? b=some o→b ∉ X.ex→b ∉ ch:=fun b o e hx hb=>by
  rcases(hch b hb).1 with z | z
  ·exact hx z
  ·exact absurd (Nat.lt_of_lt_of_le (Heap.lt_size e) z) (Nat.lt_irrefl _)
 have cellK:∀x c,X.env.cells.lookup x=some c→∀v,s.heap.IsCell c v→h'.IsCell c v:=fun x c e v ⟨o,ho,hd⟩=>by
  have ng:c ∉ ch:=fun z=>(hch c z).2.2.1 x c e rfl
  by_cases hc:c∈X.fs
  ·obtain⟨sl,q⟩:=slot c o (I.tJ x c e) hc ng ho (I.fM x c e)
   exact⟨_,q,hd⟩
  ·exact⟨o,keep c o (I.tJ x c e) hc ng ho (I.fM x c e),hd⟩
 refine⟨I.ok,I.os,hg,⟨fun b o e n hb hx=>?_,fun b o e n hb hx=>?_,fun b o e n hx=>?_,fun b o e hx=>?_,fun b xs e=>tups b xs (I.base.tups b xs e),fun b o xs e=>jx b o xs (I.base.jx b o xs e),fun b ps e=>?_⟩,?_,fun x c e=>?_,?_,fun x c e=>?_,fun p hp=>?_,hok,I.len⟩
 ·exact keep b o (MT b o e) hb (EV b o e hx) (I.base.keep b o e n hb hx) (I.base.free b o e n hx)
 ·obtain⟨sl,e1⟩:=I.base.slot b o e n hb hx
  obtain⟨sl',e2⟩:=slot b _ (MT b o e) hb (EV b o e hx) e1 (I.base.free b o e n hx)
  exact⟨sl',e2⟩
 ·obtain⟨o',e1⟩:=I.base.there b o e hx
  exact free b o' (EV b o e hx) e1 (I.base.free b o e n hx)
 ·obtain⟨o',e1⟩:=I.base.there b o e hx
  exact there b o' (EV b o e hx) e1
 ·obtain⟨m1,e1⟩:=I.base.jy b ps e
  obtain⟨m2,e2⟩:=jy b _ e1
  exact⟨m1++m2,by rw[e2,Array.append_assoc]⟩
 ·obtain⟨m,hn,hl⟩:=I.loc
  refine⟨m,ns m hn,fun i x v e1 e2 e3=>?_⟩
  obtain⟨u,r,l⟩:=hl i x v e1 e2 e3
  refine⟨u,r,?_⟩
  rcases l with l | ⟨k,c,e,z⟩
  ·exact .inl l
  ·exact .inr ⟨k,c,e,cellK x c e _ z⟩
 ·obtain⟨v,z⟩:=I.cell x c e
  exact⟨v,cellK x c e v z⟩
 ·obtain⟨m,⟨o,_,_,ho,_⟩,_⟩:=I.loc
  exact free _ o (fun z=>(hch _ z).2.1 rfl) ho I.free
 ·obtain⟨v,o,ho,hd⟩:=I.cell x c e
  exact free c o (fun z=>(hch c z).2.2.1 x c e rfl) ho (I.fM x c e)
 ·obtain⟨e,n,ne,nf,d⟩:=I.pin p hp
  have ng:p.1 ∉ ch:=fun z=>(hch p.1 z).2.2.2 p hp rfl
  exact⟨keep p.1 p.2 ne nf ng e n,free p.1 p.2 ng e n,ne,nf,d⟩
theorem Inv.un {t':Nat} (I:Inv X pins σ H s) (u:Un X.fs [] H H' s.heap h') (hok:cC X.prog X.w H' h'):Inv X pins σ H' {s with heap:=h',toks:=t'}:=by
 obtain⟨m,⟨o,es,ep,ho,r⟩,_⟩:=id I.loc
 obtain⟨sl,hL⟩:=u.any ho I.free (by simp)
 exact I.step (g':=s.gens) (d':=s.drawn) (ch:=[]) (fun _ z=>nomatch z) (fun b o _ hb _ e n=>u.keep b o e n hb (by simp)) (fun b o _ hb _ e n=>u.slot b o e n hb (by simp)) (fun b o _ e n=>u.free b o e n (by simp)) (fun b o _ e=>u.there b o e (by simp)) u.tups u.jx u.jy (fun m' hm=>by
  obtain⟨o',es',ep',ho',r'⟩:=hm
  rw[ho] at ho';cases ho'
  exact⟨_,es',ep',hL,r'⟩) hok I.bare
theorem Inv.call {g':Array GenState} {t':Nat} {d':Drawn} {ch:List Addr} (I:Inv X pins σ H s) (u:Un (frs X.stack) ch H H' s.heap h') (hok:cC X.prog X.w H' h') (hg:AllBare g')
  (hch:∀b∈ch,(b∈X.ex∨X.s₀.heap.objs.size≤b)∧b≠X.env.locals∧(∀x c,X.env.cells.lookup x=some c→c≠b)∧∀p∈X.pn++pins,p.1≠b):
  Inv X pins σ H' {s with heap:=h',gens:=g',drawn:=d',toks:=t'}:=by
 obtain⟨m,⟨o,es,ep,ho,r⟩,_⟩:=id I.loc
 obtain⟨sl,hL⟩:=u.any ho I.free fun z=>(hch _ z).2.1 rfl
 exact I.step (ch:=ch) hch (fun b o hL hb hc e n=>u.keep b o e n (fun z=>(List.mem_cons.mp (I.m9 b z)).elim hL hb) hc) (fun b o _ _ hc e n=>u.any e n hc) (fun b o hc e n=>u.free b o e n hc) (fun b o hc e=>u.there b o e hc) u.tups u.jx u.jy (fun m' hm=>by
  obtain⟨o',es',ep',ho',r'⟩:=hm
  rw[ho] at ho';cases ho'
  exact⟨_,es',ep',hL,r'⟩) hok hg
theorem Inv.turned {t':Nat} {it:Addr} (I:Inv X pins σ H s) (k:∀b o,b≠it→s.heap.get? b=some o→h'.get? b=some o) (hn:H it=none) (hL:it≠X.env.locals)
  (h1:it∈X.ex∨X.s₀.heap.objs.size≤it) (h2:∀x c,X.env.cells.lookup x=some c→c≠it) (h3:∀p∈X.pn++pins,p.1≠it):Inv X pins σ H {s with heap:=h',toks:=t'}:=by
 have MU:∀b u,H b=some u→b≠it:=fun b u e z=>by rw[z,hn] at e;cases e
 refine I.step (g':=s.gens) (d':=s.drawn) (ch:=[it]) (fun b hb=>?_) (fun b o _ _ hc e _=>k b o (fun z=>hc (by simp[z])) e) (fun b o _ _ hc e _=>⟨o.slots,k b o (fun z=>hc (by simp[z])) e⟩) (fun _ _ _ _ n=>n)
  (fun b o hc e=>⟨o,k b o (fun z=>hc (by simp[z])) e⟩) (fun _ _ e=>e) (fun _ _ _ e=>e) (fun b ps e=>⟨#[],by rw[e];simp⟩) (fun m hm=>?_) (fun b u e=>?_) I.bare
 ·have e:b=it:=by simpa using hb
  subst e
  exact⟨h1,hL,h2,h3⟩
 ·obtain⟨o,es,ep,ho,r⟩:=hm
  exact⟨o,es,ep,k _ o (Ne.symm hL) ho,r⟩
 ·refine(I.hok b u e).stay (fun c v hc q=>k c v ?_ q) (fun _ q=>q) fun _ _ q=>q
  rcases hc with z | z
  ·rw[z];exact MU b u e
  ·exact MU c _ z
theorem Inv.tok (I:Inv X pins σ H s) (t:Nat):Inv X pins σ H {s with toks:=t}:=I.un (h':=s.heap) (t':=t) Un.refl I.hok
theorem Inv.kept {t':Nat} (I:Inv X pins σ H s) (k:∀b u,s.heap.get? b=some u→h'.get? b=some u):Inv X pins σ H {s with heap:=h',toks:=t'}:=I.un (Un.kept k) (I.hok.kept k)
theorem Inv.laid {a:Addr} {o:HO} {t':Nat} (I:Inv X pins σ H s) (k:∀b u,s.heap.get? b=some u→h'.get? b=some u) (hp:s.heap.objs.size≤a) (new:bq X.prog X.w (upd H a o) h' a o):
  Inv X pins σ (upd H a o) {s with heap:=h',toks:=t'}:=I.un (Un.laid k hp (I.hok.fresh hp)) (I.hok.laid k hp new)
theorem Inv.write {x e:Addr} {o:HO} {t':Nat} (I:Inv X pins σ H s) (mu:AZ (H x)) (he:e=x∨H e=some (.own x)) (k:∀b u,b≠e→s.heap.get? b=some u→h'.get? b=some u) (heo:∃u,h'.get? e=some u)
  (new:bq X.prog X.w (upd H x o) h' x o):Inv X pins σ (upd H x o) {s with heap:=h',toks:=t'}:=I.un (Un.write mu he k heo) (I.hok.write mu he k heo new)
theorem Inv.yz {EW:List (Addr×Obj)} (I:Inv X pins σ H s) (h:∀p∈EW,s.heap.get? p.1=some p.2∧H p.1=none∧p.1≠X.env.locals∧p.1 ∉ X.fs∧∀v,p.2.data≠.cell v):Inv X EW σ H s:=
 ⟨I.ok,I.os,I.bare,I.base,I.loc,I.cell,I.free,I.fM,fun p hp=>(List.mem_append.mp hp).elim (fun z=>I.pin p (List.mem_append_left _ z)) (h p),I.hok,I.len⟩
theorem vG {N:List Str} (hN:N.Nodup) {i j:Nat} {x:Str} (a:N[i]? =some x) (b:N[j]? =some x):i=j:=by
 obtain⟨h1,e1⟩:=List.getElem?_eq_some_iff.mp a
 obtain⟨h2,e2⟩:=List.getElem?_eq_some_iff.mp b
 exact(List.getElem_inj hN).mp (e1.trans e2.symm)
theorem tK {M:Model} {A:Around} {E:Value→Shared→Prop} {i:Nat} {x:Str} {v:V} {u:Value} {Q:Unit→Shared→Prop} (I:Inv X pins σ H s) (hN:X.N.Nodup) (hi:X.N[i]? =some x) (hx:Loc X.env.scope x) (r:RelV v u)
  (h:∀s',Inv X pins (σ.set i (some v)) H s'→(∃a,Heap.SameBut a s.heap s'.heap∧(a=X.env.locals∨X.env.cells.lookup x=some a))→Q () s') (hf:X.fn x=true∨X.env.scope.names.lookup x=some .local:=by first | exact .inl rfl | exact .inr rfl | assumption):wpAny M A (storeName X.env x u) Q E s:=by
 obtain⟨m,hn,hl⟩:=id I.loc
 have hcls:(X.env.scope.kind == .class||(X.env.scope.kind == .module&&X.env.locals != X.env.globals))=false:=by rw[I.ok.kind];rfl
 have MV:i<σ.length:=by rw[I.len];exact(List.getElem?_eq_some_iff.mp hi).1
 have tJ:=I.tJ
 have tracked:∀{a:Addr} {h':Heap},(∃o,s.heap.get? a=some o∧H a=none)→Heap.SameBut a s.heap h'→cC X.prog X.w H h':=fun {a h'} ha hs b ob e=>by
  obtain⟨_,_,hfree⟩:=ha
  refine(I.hok b ob e).stay (fun c w' hc q=>(hs.2 c ?_).trans q) (fun _ q=>q) fun _ _ q=>q
  rintro rfl
  rcases hc with rfl | hc
  ·rw[hfree] at e;cases e
  ·rw[hfree] at hc;cases hc
 rcases hx with hk | hk
 ·refine wpAny_storeName_local hk hn (fun h' hn' hs=>?_) hcls
  obtain⟨oL,_,_,hoL,_⟩:=id hn
  refine h _ ⟨I.ok,I.os,I.bare,⟨fun b o e n hb hx=>?_,fun b o e n hb hx=>?_,I.base.free,fun b o e hx=>?_,I.base.tups,I.base.jx,I.base.jy⟩,⟨_,hn',fun j y v' e1 e2 e3=>?_⟩,fun y c e=>?_,I.free,I.fM,fun p hp=>?_,tracked ⟨oL,hoL,I.free⟩ hs,by simpa using I.len⟩ ⟨_,hs,.inl rfl⟩
  ·exact(hs.2 b (Nat.ne_of_lt (Nat.lt_of_lt_of_le (Heap.lt_size e) I.ok.above))).trans (I.base.keep b o e n hb hx)
  ·obtain⟨sl,e1⟩:=I.base.slot b o e n hb hx
   exact⟨sl,(hs.2 b (Nat.ne_of_lt (Nat.lt_of_lt_of_le (Heap.lt_size e) I.ok.above))).trans e1⟩
  ·obtain⟨o',e1⟩:=I.base.there b o e hx
   exact⟨o',(hs.2 b (Nat.ne_of_lt (Nat.lt_of_lt_of_le (Heap.lt_size e) I.ok.above))).trans e1⟩
  ·by_cases hj:j=i
   ·subst hj
    rw[hi] at e1;cases e1
    rw[List.getElem?_set_self MV] at e2
    cases e2
    exact⟨u,r,.inl ⟨hk,by simp⟩⟩
   ·rw[List.getElem?_set_ne (Ne.symm hj)] at e2
    obtain⟨u',r',q⟩:=hl j y v' e1 e2 e3
    refine⟨u',r',?_⟩
    rcases q with⟨k,e⟩ | ⟨k,c,e,z⟩
    ·refine .inl ⟨k,?_⟩
     have:y≠x:=fun e=>hj (vG hN e1 (e▸hi))
     simp[this,e]
    ·exact .inr ⟨k,c,e,z.sameBut hs (tJ y c e)⟩
  ·obtain⟨w',z⟩:=I.cell y c e
   exact⟨w',z.sameBut hs (tJ y c e)⟩
  ·obtain⟨e,n,ne,nf,d⟩:=I.pin p hp
   exact⟨(hs.2 p.1 ne).trans e,n,ne,nf,d⟩
 ·have hfn:X.fn x=true:=by
   rcases hf with z | z
   ·exact z
   ·rw[z] at hk;cases hk
  obtain⟨c,hc⟩:=I.ok.has x (.inl hk)
  obtain⟨w',z⟩:=I.cell x c hc
  refine wpAny_storeName_cell I.ok.kind hk hc z (fun h' hc' hs=>?_)
  obtain⟨oc,hoc,Ou⟩:=id z
  refine h {s with heap:=h'} ⟨I.ok,I.os,I.bare,⟨fun b o e n hb hx=>?_,fun b o e n hb hx=>?_,I.base.free,fun b o e hx=>?_,I.base.tups,I.base.jx,I.base.jy⟩,⟨m,hn.sameBut hs (Ne.symm (tJ x c hc)),fun j y v' e1 e2 e3=>?_⟩,fun y c' e=>?_,I.free,I.fM,fun p hp=>?_,tracked ⟨oc,hoc,I.fM x c hc⟩ hs,by simpa using I.len⟩ ⟨c,hs,.inr hc⟩
  ·exact(hs.2 b (Nat.ne_of_lt (Nat.lt_of_lt_of_le (Heap.lt_size e) (I.ok.cab x c hfn hc)))).trans (I.base.keep b o e n hb hx)
  ·obtain⟨sl,e1⟩:=I.base.slot b o e n hb hx
   exact⟨sl,(hs.2 b (Nat.ne_of_lt (Nat.lt_of_lt_of_le (Heap.lt_size e) (I.ok.cab x c hfn hc)))).trans e1⟩
  ·obtain⟨o',e1⟩:=I.base.there b o e hx
   exact⟨o',(hs.2 b (Nat.ne_of_lt (Nat.lt_of_lt_of_le (Heap.lt_size e) (I.ok.cab x c hfn hc)))).trans e1⟩
  ·by_cases hj:j=i
   ·subst hj
    rw[hi] at e1;cases e1
    rw[List.getElem?_set_self MV] at e2
    cases e2
    exact⟨u,r,.inr ⟨.inl hk,c,hc,hc'⟩⟩
   ·rw[List.getElem?_set_ne (Ne.symm hj)] at e2
    obtain⟨u',r',q⟩:=hl j y v' e1 e2 e3
    refine⟨u',r',?_⟩
    rcases q with q | ⟨k,c',e,z'⟩
    ·exact .inl q
    ·refine .inr ⟨k,c',e,z'.sameBut hs ?_⟩
     rintro rfl
     exact hj (vG hN e1 (I.ok.inj _ _ _ e hc▸hi))
  ·by_cases hcc:c'=c
   ·subst hcc;exact⟨_,hc'⟩
   ·obtain⟨w2,z2⟩:=I.cell y c' e
    exact⟨w2,z2.sameBut hs hcc⟩
  ·obtain⟨e,n,ne,nf,d⟩:=I.pin p hp
   refine⟨(hs.2 p.1 ?_).trans e,n,ne,nf,d⟩
   intro q
   rw[q,hoc] at e
   have q':oc=p.2:=Option.some.inj e
   exact d w' (by rw[←q'];exact Ou)
theorem lK {M:Model} {A:Around} {E:Value→Shared→Prop} {i:Nat} {x:Str} {v:V} {u:Value} {Q:Unit→Shared→Prop} (I:Inv X pins σ H s) (hN:X.N.Nodup) (hi:X.N[i]? =some x) (hx:Loc X.env.scope x) (r:RelV v u)
  (h:∀s',Inv X pins (σ.set i (some v)) H s'→Q () s') (hf:X.fn x=true∨X.env.scope.names.lookup x=some .local:=by first | exact .inl rfl | exact .inr rfl | assumption):wpAny M A (storeName X.env x u) Q E s:=
 tK I hN hi hx r (fun s' I' _=>h s' I') hf
theorem Inv.call' {s':Shared} {ch:List Addr} (I:Inv X pins σ H s) (ho:s'.os=s.os) (u:Un (frs X.stack) ch H H' s.heap s'.heap) (hok:cC X.prog X.w H' s'.heap) (hg:AllBare s'.gens)
  (hch:∀b∈ch,(b∈X.ex∨X.s₀.heap.objs.size≤b)∧b≠X.env.locals∧(∀x c,X.env.cells.lookup x=some c→c≠b)∧∀p∈X.pn++pins,p.1≠b):Inv X pins σ H' s':=by
 obtain⟨h',g',d',t',o'⟩:=s'
 have e:o'=s.os:=ho
 subst e
 exact I.call (g':=g') (t':=t') (d':=d') u hok hg hch
end
abbrev XK:=Value→Option Addr→Hp→Prop
abbrev St:=List (Option V)
abbrev VK:=V→Hp→Prop
abbrev TE:=St→Hp→VK→Prop
abbrev TT:=St→Hp→(Bool→Hp→Prop)→Prop
abbrev TA:=St→Hp→(List V→Hp→Prop)→Prop
structure Ends where
 nx:St→Hp→Prop
 rt:VK
 bk:St→Hp→Prop:=fun _ _=>False
 ct:St→Hp→Prop:=fun _ _=>False
abbrev TS:=Ends→St→Hp→Prop
def EP (X:Cx) (pins:List (Addr×Obj)) (σ:St) (Q:VK) (u:Value) (s':Shared):Prop:=∃v H',Inv X pins σ H' s'∧RelV v u∧Q v H'
def TP (X:Cx) (pins:List (Addr×Obj)) (σ:St) (Q:Bool→Hp→Prop) (b:Bool) (s':Shared):Prop:=∃H',Inv X pins σ H' s'∧Q b H'
def AP (X:Cx) (pins:List (Addr×Obj)) (σ:St) (Q:List V→Hp→Prop) (us:List Value) (s':Shared):Prop:=∃vs H',Inv X pins σ H' s'∧Vals vs us∧Q vs H'
def SP (X:Cx) (pins:List (Addr×Obj)) (D:Ends) (f:Flow) (s':Shared):Prop:=
 match f with
 | .next=>∃σ' H',Inv X pins σ' H' s'∧D.nx σ' H'
 | .brk=>∃σ' H',Inv X pins σ' H' s'∧D.bk σ' H'
 | .cont=>∃σ' H',Inv X pins σ' H' s'∧D.ct σ' H'
 | .ret u=>∃v σ' H',Inv X pins σ' H' s'∧RelV v u∧D.rt v H'
def PE (X:Cx) (e:Expr) (t:TE):Prop:=
 ∀(pins:List (Addr×Obj)) (s:Shared) (σ:St) (H:Hp) (Q:VK),Inv X pins σ H s→t σ H Q→wpAny (model X.prog X.w) X.A (eval e X.env) (EP X pins σ Q) X.xe s
def PT (X:Cx) (e:Expr) (t:TT):Prop:=
 ∀(pins:List (Addr×Obj)) (s:Shared) (σ:St) (H:Hp) (Q:Bool→Hp→Prop),Inv X pins σ H s→t σ H Q→wpAny (model X.prog X.w) X.A (isTrue e X.env (eval e X.env)) (TP X pins σ Q) X.xe s
def PW (X:Cx) (e:Expr) (t:TT):Prop:=
 ∀(whole:Sem Value) (pins:List (Addr×Obj)) (s:Shared) (σ:St) (H:Hp) (Q:Bool→Hp→Prop),Inv X pins σ H s→t σ H Q→wpAny (model X.prog X.w) X.A (isTrue e X.env whole) (TP X pins σ Q) X.xe s
theorem PW.pt {X:Cx} {e:Expr} {t:TT} (h:PW X e t):PT X e t:=h _
def PA (X:Cx) (es:List Expr) (t:TA):Prop:=
 ∀(pos:Pos) (pins:List (Addr×Obj)) (s:Shared) (σ:St) (H:Hp) (Q:List V→Hp→Prop),Inv X pins σ H s→t σ H Q→wpAny (model X.prog X.w) X.A (spliced (backTo pos (starEach es X.env))) (AP X pins σ Q) X.xe s
def PS (X:Cx) (st:Stmt) (t:TS):Prop:=
 ∀(pins:List (Addr×Obj)) (s:Shared) (σ:St) (H:Hp) (D:Ends),Inv X pins σ H s→t D σ H→wpAny (model X.prog X.w) X.A (exec st X.env) (SP X pins D) X.xe s
def jf (X:Cx) (st:List Stmt) (t:TS):Prop:=
 ∀(pins:List (Addr×Obj)) (s:Shared) (σ:St) (H:Hp) (D:Ends),Inv X pins σ H s→t D σ H→wpAny (model X.prog X.w) X.A (execs st X.env) (SP X pins D) X.xe s
theorem aE {α:Type} {t:Sem α} {Q Q':α→Shared→Prop} {M:Model} {A:Around} {E:Value→Shared→Prop} {s:Shared} (h:wpAny M A t Q E s) (hQ:∀a s,Q a s→Q' a s):wpAny M A t Q' E s:=wpAny_mono h hQ fun _ _ x=>x
section
variable {X:Cx}
def Du (i:Nat):TE:=fun σ H Q=>∃v,σ[i]? =some (some v)∧Q v H
def tC (v:V):TE:=fun _ H Q=>Q v H
theorem Hr {i:Nat} {x:Str} {pos:Pos} (hN:X.N[i]? =some x) (hv:yy X.env.scope x) (hd:(x == ("__debug__":Str))=false:=by decide) (hcd:(x == ("__classdict__":Str))=false:=by decide):PE X (.Name x pos) (Du i):=by
 intro pins s σ H Q I h
 obtain⟨v,e,h⟩:=h
 obtain⟨m,hn,hl⟩:=I.loc
 obtain⟨u,r,l⟩:=hl i x v hN e hv
 have fin:EP X pins σ Q u s:=⟨v,H,I,r,h⟩
 rcases l with⟨hk,hm⟩ | ⟨hk,c,hc,hcell⟩
 ·exact wpAny_Name (wpAny_loadName_local I.ok.kind hk hn hm fin) hd
 ·rcases hk with hk | hk
  ·exact wpAny_Name (wpAny_loadName_cell I.ok.kind hk hc hcell fin) hd
  ·exact wpAny_Name (wpAny_loadName_free I.ok.kind hk hc hcell fin hcd) hd
theorem ao {i j pos}:PE X (.Constant (.int i) j pos) (tC (.int i)):=fun _ _ _ H _ I h=>wpAny_Constant_int ⟨.int i,H,I.tok _,⟨_,rfl⟩,h⟩
theorem lL {b j pos}:PE X (.Constant (.bool b) j pos) (tC (.bl b)):=fun _ _ _ H _ I h=>Constant_bool ⟨.bl b,H,I,rfl,h⟩
theorem dB {j pos}:PE X (.Constant .none j pos) (tC .non):=fun _ _ _ H _ I h=>Constant_none ⟨.non,H,I,rfl,h⟩
theorem bb {x j pos}:PE X (.Constant (.str x) j pos) (tC (.str x)):=fun _ _ _ H _ I h=>Calls.Constant_str ⟨.str x,H,I.tok _,⟨_,rfl⟩,h⟩
def Gl (X:Cx) (x:Str):Prop:=X.env.kindOf x=some .globalImplicit
theorem rE {E:Value→Shared→Prop} {pins:List (Addr×Obj)} {s:Shared} {σ:St} {H:Hp} {x:Str} {u:Value} {pos:Pos} {Q:Value→Shared→Prop} (I:Inv X pins σ H s) (hg:Gl X x) (hm:X.mg x=some u) (h:Q u s)
  (hd:(x == ("__debug__":Str))=false:=by decide):wpAny (model X.prog X.w) X.A (eval (.Name x pos) X.env) Q E s:=
 Calls.Name_function_global I.ok.kind hg (Calls.loadGlobal_global (by rw[I.ok.glob];exact I.mod.glob.keeps I.bk) hm h) hd
theorem gc {E:Value→Shared→Prop} {pins:List (Addr×Obj)} {s:Shared} {σ:St} {H:Hp} {x:Str} {u:Value} {pos:Pos} {Q:Value→Shared→Prop} (I:Inv X pins σ H s) (hg:Gl X x) (hm:X.mg x=none) (hv:bootBuiltins x=some u) (h:Q u s)
  (hn:x≠"__name__":=by decide) (hd:(x == ("__debug__":Str))=false:=by decide):wpAny (model X.prog X.w) X.A (eval (.Name x pos) X.env) Q E s:=by
 obtain⟨mb,h1,h2⟩:=I.mod.blt
 exact Calls.Name_function_global I.ok.kind hg (Calls.loadGlobal_builtin (by rw[I.ok.glob];exact I.mod.glob.keeps I.bk) hm (by rw[I.ok.blt];exact h1.keeps I.bk) ((h2 x hn).trans hv) h) hd
theorem fm {x:Str} {v:V} {u:Value} {pos:Pos} (hg:Gl X x) (hm:X.mg x=none) (hv:bootBuiltins x=some u) (r:RelV v u) (hn:x≠"__name__":=by decide) (hd:(x == ("__debug__":Str))=false:=by decide):PE X (.Name x pos) (tC v):=
 fun _ _ _ H _ I h=>gc I hg hm hv ⟨v,H,I,r,h⟩ hn hd
variable {a b:Expr} {ta tb:TE} {pos:Pos}
def PC (X:Cx) (op:CmpOp) (a b:Expr) (t:TE):Prop:=
 ∀(pins:List (Addr×Obj)) (s:Shared) (σ:St) (H:Hp) (Q:VK),Inv X pins σ H s→t σ H Q→
  wpAny (model X.prog X.w) X.A (eval a X.env) (fun v s₁=>wpAny (model X.prog X.w) X.A (eval b X.env) (fun u s₂=>wpAny (model X.prog X.w) X.A (compareOp op v u) (EP X pins σ Q) X.xe s₂) X.xe s₁) X.xe s
def tB (t:TE):TT:=fun σ H Q=>t σ H fun x H1=>∃c,x=.bl c∧Q c H1
theorem vH {op:CmpOp} {t:TE} (h:PC X op a b t) (h1:behindInMarks op b=false:=by first | exact Ov _ (by decide) (by decide) | rfl):PT X (.Compare a [op] [b] pos) (tB t):=by
 intro pins s σ H Q I hw
 refine wpAny_isTrue_Compare1 (aE (h pins s σ H _ I hw) fun v s1 h1=>aE h1 fun u s2 h2=>aE h2 fun c s3 ⟨x,H1,I1,r1,q1⟩=>?_) h1
 obtain⟨d,rfl,q⟩:=q1
 cases r1
 exact wpAny_truthy_bool ⟨H1,I1,q⟩
variable {tA EX:TT} {rest:List Expr}
def Ow (t u:TT):TT:=fun σ H Q=>t σ H fun c H1=>if c=true then u σ H1 Q else Q false H1
def SG (t u:TT):TT:=fun σ H Q=>t σ H fun c H1=>if c=true then Q true H1 else u σ H1 Q
def Ox (t:TT):TT:=fun σ H Q=>t σ H fun c H1=>Q (!c) H1
theorem Gk (ha:PT X a tA):PW X (.BoolOp .And [a] pos) tA:=by
 intro wh pins s σ H Q I h
 refine isTrue_and (aE (ha pins s σ H Q I h) fun c s1 e=>?_)
 cases c with
 | true=>exact isTrue_and_nil e
 | false=>exact e
theorem kK (ha:PT X a tA):PW X (.BoolOp .Or [a] pos) tA:=by
 intro wh pins s σ H Q I h
 refine isTrue_or (aE (ha pins s σ H Q I h) fun c s1 e=>?_)
 cases c with
 | false=>exact isTrue_or_nil e
 | true=>exact e
theorem Hs (ha:PT X a tA) (hb:PW X (.BoolOp .And (b::rest) pos) EX):PW X (.BoolOp .And (a::b::rest) pos) (Ow tA EX):=by
 intro wh pins s σ H Q I h
 refine isTrue_and (aE (ha pins s σ H _ I h) fun c s1 ⟨H1,I1,q1⟩=>?_)
 cases c with
 | true=>exact hb wh pins s1 σ H1 Q I1 q1
 | false=>exact⟨H1,I1,q1⟩
theorem oC (ha:PT X a tA) (hb:PW X (.BoolOp .Or (b::rest) pos) EX):PW X (.BoolOp .Or (a::b::rest) pos) (SG tA EX):=by
 intro wh pins s σ H Q I h
 refine isTrue_or (aE (ha pins s σ H _ I h) fun c s1 ⟨H1,I1,q1⟩=>?_)
 cases c with
 | true=>exact⟨H1,I1,q1⟩
 | false=>exact hb wh pins s1 σ H1 Q I1 q1
theorem A_ (ha:PT X a tA):PT X (.UnaryOp .Not a pos) (Ox tA):=by
 intro pins s σ H Q I h
 exact isTrue_not (ha pins s σ H (fun c H1=>Q (!c) H1) I h)
def LQ (ta tb:TE):TE:=fun σ H Q=>ta σ H fun x H1=>∃c,x=.bl c∧if c=true then tb σ H1 Q else Q (.bl false) H1
def Oy (ta tb:TE):TE:=fun σ H Q=>ta σ H fun x H1=>∃c,x=.bl c∧if c=true then Q (.bl true) H1 else tb σ H1 Q
theorem vI {op} {t:TE} (h:PE X a t):PE X (.BoolOp op [a] pos) t:=fun pins s σ H Q I hw=>BoolOp_one (h pins s σ H Q I hw)
theorem vJ (ha:PE X a ta) (hb:PE X (.BoolOp .And (b::rest) pos) tb):PE X (.BoolOp .And (a::b::rest) pos) (LQ ta tb):=by
 intro pins s σ H Q I h
 refine BoolOp_and (aE (ha pins s σ H _ I h) fun v s1 ⟨x,H1,I1,r1,q1⟩=>?_)
 obtain⟨c,rfl,q1⟩:=q1
 cases r1
 refine wpAny_truthy_bool ?_
 cases c with
 | true=>exact hb pins s1 σ H1 Q I1 q1
 | false=>exact⟨.bl false,H1,I1,rfl,q1⟩
theorem LS (ha:PE X a ta) (hb:PE X (.BoolOp .Or (b::rest) pos) tb):PE X (.BoolOp .Or (a::b::rest) pos) (Oy ta tb):=by
 intro pins s σ H Q I h
 refine BoolOp_or (aE (ha pins s σ H _ I h) fun v s1 ⟨x,H1,I1,r1,q1⟩=>?_)
 obtain⟨c,rfl,q1⟩:=q1
 cases r1
 refine wpAny_truthy_bool ?_
 cases c with
 | false=>exact hb pins s1 σ H1 Q I1 q1
 | true=>exact⟨.bl true,H1,I1,rfl,q1⟩
end
def bp (K:PySem.W.Frag) (H:Hp) (a:Addr) (xs:List V):Prop:=
 Rd H a (.lst xs)∨
  ∃(o:Obj) (its:Array Value) (n:Nat),K.lookup a=some o∧o.cls=.type "list"∧o.dict=none∧o.data=.seq its n∧its.size≤sizeLine∧Vals xs its.toList
def aU (K:PySem.W.Frag) (H:Hp) (a:Addr) (xs:List V):Prop:=
 Rd H a (.tup xs)∨
  ∃(o:Obj) (its:Array Value) (n:Nat),K.lookup a=some o∧o.cls=.type "tuple"∧o.data=.seq its n∧its.size≤sizeLine∧Vals xs its.toList
def Oz:Value→Option V
 | .none=>some .non
 | .bool b=>some (.bl b)
 | .int i _=>some (.int i)
 | .str x _=>some (.str x)
 | .bytes b _=>some (.jw b)
 | .float b _=>some (.flt b)
 | .ref a=>some (.ref a)
 | .type n=>some (.ty n)
 | _=>none
theorem RelV.abs {x:V} {u:Value} (r:RelV x u):Oz u=some x:=by
 cases x with
 | non=>cases r;rfl
 | bl _=>cases r;rfl
 | int _=>obtain⟨t,rfl⟩:=r;rfl
 | str _=>obtain⟨t,rfl⟩:=r;rfl
 | jw _=>obtain⟨t,rfl⟩:=r;rfl
 | flt _=>obtain⟨t,rfl⟩:=r;rfl
 | ref _=>cases r;rfl
 | ty _=>cases r;rfl
theorem RelV.inj {x y:V} {u:Value} (r:RelV x u) (q:RelV y u):x=y:=Option.some.inj (r.abs.symm.trans q.abs)
theorem Vals.inj:∀{xs ys:List V} {us:List Value},Vals xs us→Vals ys us→xs=ys
 | _,_,_,.nil,.nil=>rfl
 | _,_,_,.cons r t,.cons r' t'=>by rw[r.inj r',Vals.inj t t']
section
variable {X:Cx} {pins:List (Addr×Obj)} {σ:St} {H:Hp} {s:Shared} {a:Addr} {xs ys:List V}
theorem bp.of {K:PySem.W.Frag} (h:H a=some (.lst xs)):bp K H a xs:=.inl (.inl h)
theorem aU.of {K:PySem.W.Frag} (h:H a=some (.tup xs)):aU K H a xs:=.inl (.inl h)
theorem Inv.list (I:Inv X pins σ H s) (h:bp X.K H a xs):∃its:List Value,Vals xs its∧PlainL s.heap a its.toArray∧xs.length≤sizeLine:=by
 rcases h with h | ⟨o,its,n,hk,hc,hd,hs,hz,r⟩
 ·obtain⟨z,its,n,r,e⟩:=h.ok I.hok
  exact⟨its,r,⟨_,n,e,rfl,rfl,rfl⟩,z⟩
 ·refine⟨its.toList,r,⟨o,n,I.gb a o hk,hc,hd,by simpa using hs⟩,?_⟩
  have e:=r.length
  simp only[Array.length_toList] at e
  omega
theorem Inv.tuple (I:Inv X pins σ H s) (h:aU X.K H a xs):∃its:List Value,Vals xs its∧IsTup s.heap a its.toArray∧xs.length≤sizeLine:=by
 rcases h with h | ⟨o,its,n,hk,hc,hs,hz,r⟩
 ·obtain⟨z,its,r,p⟩:=h.ok I.hok
  exact⟨its,r,p,z.1⟩
 ·refine⟨its.toList,r,⟨o,I.gb a o hk,hc,n,by simpa using hs⟩,?_⟩
  have e:=r.length
  simp only[Array.length_toList] at e
  omega
theorem Inv.ia (I:Inv X pins σ H s) (h:bp X.K H a xs) (h':bp X.K H a ys):xs=ys:=by
 obtain⟨its,r,⟨o,n,e,_,_,d⟩,_⟩:=I.list h
 obtain⟨its',r',⟨o',n',e',_,_,d'⟩,_⟩:=I.list h'
 rw[e] at e';cases e'
 rw[d] at d'
 injection d' with d1 _
 have:its=its':=by simpa using congrArg Array.toList d1
 subst this
 exact r.inj r'
theorem Inv.iQ (I:Inv X pins σ H s) (h:aU X.K H a xs) (h':aU X.K H a ys):xs=ys:=by
 obtain⟨its,r,⟨o,e,_,n,d⟩,_⟩:=I.tuple h
 obtain⟨its',r',⟨o',e',_,n',d'⟩,_⟩:=I.tuple h'
 rw[e] at e';cases e'
 rw[d] at d'
 injection d' with d1 _
 have:its=its':=by simpa using congrArg Array.toList d1
 subst this
 exact r.inj r'
end
abbrev Cx.wish (X:Cx) (E:Value→Shared→Prop):Cx:={X with xe:=E}
abbrev Cx.o4 (X:Cx):Cx:=X.wish fun _ _=>False
theorem Cx.Ok.wish {X:Cx} (ok:X.Ok) (E:Value→Shared→Prop):(X.wish E).Ok:=
 ⟨ok.mod,ok.kind,ok.glob,ok.blt,ok.above,ok.inj,ok.has,ok.cab,ok.hd,ok.frames,ok.stk,ok.Ho,ok.bs,ok.m8,ok.vE,ok.vF,ok.g_,ok.tI⟩
theorem Cx.Ok.g0 {X:Cx} {E:Value→Shared→Prop} (ok:(X.wish E).Ok):X.Ok:=
 ⟨ok.mod,ok.kind,ok.glob,ok.blt,ok.above,ok.inj,ok.has,ok.cab,ok.hd,ok.frames,ok.stk,ok.Ho,ok.bs,ok.m8,ok.vE,ok.vF,ok.g_,ok.tI⟩
section
variable {X:Cx} {pins:List (Addr×Obj)} {σ:St} {H:Hp} {s:Shared} {E:Value→Shared→Prop}
theorem Inv.wish (I:Inv X pins σ H s) (E:Value→Shared→Prop):Inv (X.wish E) pins σ H s:=⟨I.ok.wish E,I.os,I.bare,I.base,I.loc,I.cell,I.free,I.fM,I.pin,I.hok,I.len⟩
theorem Inv.g0 (I:Inv (X.wish E) pins σ H s):Inv X pins σ H s:=⟨I.ok.g0,I.os,I.bare,I.base,I.loc,I.cell,I.free,I.fM,I.pin,I.hok,I.len⟩
theorem SP.g0 {D:Ends} {f:Flow} {s':Shared} (h:SP (X.wish E) pins D f s'):SP X pins D f s':=by
 cases f with
 | next=>obtain⟨σ',H',I,q⟩:=h;exact⟨σ',H',I.g0,q⟩
 | brk=>obtain⟨σ',H',I,q⟩:=h;exact⟨σ',H',I.g0,q⟩
 | cont=>obtain⟨σ',H',I,q⟩:=h;exact⟨σ',H',I.g0,q⟩
 | ret u=>obtain⟨v,σ',H',I,r,q⟩:=h;exact⟨v,σ',H',I.g0,r,q⟩
theorem jf.o4 {st:List Stmt} {t:TS} (h:jf X.o4 st t):jf X st t:=fun pins s σ H D I hw=>
 wpAny_mono (h pins s σ H D (I.wish _) hw) (fun _ _ q=>q.g0) fun _ _ z=>False.elim z
end
section
variable {X:Cx} {st:Stmt} {rest:List Stmt} {t u:TS} {e:Expr} {te:TE} {pos:Pos}
def iI:TS:=fun D σ H=>D.nx σ H
def pG (t u:TS):TS:=fun D σ H=>t {D with nx:=u D} σ H
theorem bD:jf X [] iI:=fun _ _ σ H _ I h=>wpAny_execs_nil ⟨σ,H,I,h⟩
theorem ai (h1:PS X st t) (h2:jf X rest u):jf X (st::rest) (pG t u):=by
 intro pins s σ H D I h
 refine wpAny_execs_cons (aE (h1 pins s σ H {D with nx:=u D} I h) fun f s1 q=>?_)
 cases f with
 | next=>
  obtain⟨σ',H',I',q⟩:=q
  exact h2 pins s1 σ' H' D I' q
 | ret v=>exact q
 | brk=>exact q
 | cont=>exact q
theorem av (h1:PS X st t):jf X [st] t:=by
 intro pins s σ H D I h
 refine wpAny_execs_cons (aE (h1 pins s σ H D I h) fun f s1 q=>?_)
 cases f with
 | next=>exact wpAny_execs_nil q
 | ret v=>exact q
 | brk=>exact q
 | cont=>exact q
def LU:TS:=fun D σ H=>D.ct σ H
theorem ye:PS X (.Continue pos) LU:=fun _ _ σ H _ I h=>wpAny_Continue ⟨σ,H,I,h⟩
theorem Inv.quiet {pins:List (Addr×Obj)} {σ:St} {H:Hp} {s:Shared} (I:Inv X pins σ H s):interactive X.env=false:=by simp[interactive,I.ok.kind]
def zF (te:TE):TS:=fun D σ H=>te σ H fun _ H1=>D.nx σ H1
theorem cX (he:PE X e te) (hs:swapsWith e none pos.line X.env=pure false:=by rfl):PS X (.Expr e pos) (zF te):=by
 intro pins s σ H D I h
 exact wpAny_Expr_any (aE (he pins s σ H _ I h) fun v s1 ⟨x,H1,I1,r1,q1⟩=>⟨σ,H1,I1,q1⟩) I.quiet hs
def Ht (te:TE):TS:=fun D σ H=>te σ H D.rt
theorem aK (he:PE X e te):PS X (.Return (some e) pos) (Ht te):=by
 intro pins s σ H D I h
 exact wpAny_Return_some (aE (he pins s σ H _ I h) fun v s1 ⟨x,H1,I1,r1,q1⟩=>⟨x,σ,H1,I1,r1,q1⟩)
def zG (c:TT) (t u:TS):TS:=fun D σ H=>c σ H fun b H1=>if b=true then t D σ H1 else u D σ H1
theorem cu {c:Expr} {a b:List Stmt} {tc:TT} (hc:PT X c tc) (ha:jf X a t) (hb:jf X b u):PS X (.If c a b pos) (zG tc t u):=by
 intro pins s σ H D I h
 refine wpAny_If (aE (hc pins s σ H _ I h) fun d s1 ⟨H1,I1,q1⟩=>?_)
 cases d with
 | true=>exact ha pins s1 σ H1 D I1 q1
 | false=>exact hb pins s1 σ H1 D I1 q1
end
abbrev TG:=V→St→Hp→(St→Hp→Prop)→Prop
abbrev tL:=List V→St→Hp→(St→Hp→Prop)→Prop
def PG (X:Cx) (target:Expr) (t:TG):Prop:=
 ∀(pins:List (Addr×Obj)) (s:Shared) (σ:St) (H:Hp) (v:V) (u:Value) (Q:St→Hp→Prop),Inv X pins σ H s→RelV v u→t v σ H Q→
  wpAny (model X.prog X.w) X.A (assign target X.env u) (fun _ s'=>∃σ' H',Inv X pins σ' H' s'∧Q σ' H') X.xe s
def A0 (X:Cx) (ts:List Expr) (t:tL):Prop:=
 ∀(pins:List (Addr×Obj)) (s:Shared) (σ:St) (H:Hp) (vs:List V) (us:List Value) (Q:St→Hp→Prop),Inv X pins σ H s→Vals vs us→t vs σ H Q→
  wpAny (model X.prog X.w) X.A (assignInOrder ((assignEach ts X.env).map (·.2)) us) (fun _ s'=>∃σ' H',Inv X pins σ' H' s'∧Q σ' H') X.xe s
section
variable {X:Cx} {pos:Pos}
def aM (i:Nat):TG:=fun v σ H Q=>Q (σ.set i (some v)) H
theorem aI {i:Nat} {x:Str} (hN:X.N.Nodup) (hi:X.N[i]? =some x) (hx:Loc X.env.scope x) (hf:X.fn x=true∨X.env.scope.names.lookup x=some .local:=by first | exact .inl rfl | exact .inr rfl | assumption):PG X (.Name x pos) (aM i):=by
 intro pins s σ H v u Q I r h
 exact wpAny_assign_Name (lK I hN hi hx r (fun s' I'=>⟨_,H,I',h⟩) hf)
def OA:tL:=fun vs σ H Q=>vs=[]∧Q σ H
def LV (t:TG) (u:tL):tL:=fun vs σ H Q=>∃v r,vs=v::r∧t v σ H fun σ' H'=>u r σ' H' Q
theorem js:A0 X [] OA:=by
 intro pins s σ H vs us Q I r h
 obtain⟨e,h⟩:=h
 subst e
 cases r
 exact assignInOrder_nil ⟨σ,H,I,h⟩
theorem cG {e:Expr} {es:List Expr} {t:TG} {u:tL} (h1:PG X e t) (h2:A0 X es u)
  (hs:(assignEach (e::es) X.env).map (·.2)=assign e X.env::(assignEach es X.env).map (·.2):=by rfl):A0 X (e::es) (LV t u):=by
 intro pins s σ H vs us Q I r h
 obtain⟨v,vr,e1,h⟩:=h
 subst e1
 cases r with
 | cons r rr=>
  rw[hs]
  refine assignInOrder_cons (aE (h1 pins s σ H _ _ _ I r h) fun _ s1 ⟨σ1,H1,I1,q1⟩=>?_)
  exact h2 pins s1 σ1 H1 _ _ Q I1 rr q1
def Hu (K:PySem.W.Frag) (n:Nat) (t:tL):TG:=fun v σ H Q=>∃a xs,v=.ref a∧aU K H a xs∧xs.length=n∧t xs σ H Q
theorem vK {es:List Expr} {k:Nat} {t:tL} {n:Nat} (hc:X.calm=true) (h:A0 X es t)
  (hn:(assignEach es X.env).length=n:=by rfl) (hst:(assignEach es X.env).findIdx? (·.1)=none:=by rfl):PG X (.Tuple es k pos) (Hu X.K n t):=by
 intro pins s σ H v u Q I r hw
 obtain⟨a,xs,e1,hq,hl,hw⟩:=hw
 subst e1
 cases r
 obtain⟨its,rv,ht,hz⟩:=I.tuple hq
 refine assign_Tuple_tuple (I.ok.hd hc) ht (by simp[hn,←hl,rv.length]) hst fun h' hx=>?_
 have I1:Inv X pins σ H {s with heap:=h'}:=I.kept (t':=s.toks) fun b o e=>hx b o (Nat.ne_of_lt (Heap.lt_size e)) e
 exact h pins _ σ H xs _ Q I1 (by simpa using rv) hw
def zH (te:TE) (g:TG):TS:=fun D σ H=>te σ H fun x H1=>g x σ H1 D.nx
theorem az {i:Nat} {x:Str} {e:Expr} {te:TE} {pos':Pos} (hN:X.N.Nodup) (hi:X.N[i]? =some x) (hx:Loc X.env.scope x) (he:PE X e te) (hs:swapsWith e (some (.Name x pos')) pos.line X.env=pure false:=by rfl) (hf:X.fn x=true∨X.env.scope.names.lookup x=some .local:=by first | exact .inl rfl | exact .inr rfl | assumption):
  PS X (.Assign [.Name x pos'] e pos) (zH te (aM i)):=by
 intro pins s σ H D I h
 refine wpAny_Assign_Name (aE (he pins s σ H _ I h) fun v s1 ⟨y,H1,I1,r1,q1⟩=>?_) hs
 exact lK I1 hN hi hx r1 (fun s2 I2=>⟨_,H1,I2,q1⟩) hf
def nh (c:TT) (tb:TS):TS:=fun D σ H=>∃W:Nat→St→Hp→Prop,(∃m,W m σ H)∧∀m σ H,W m σ H→
 c σ H fun b H1=>if b=true then ∃N:St→Hp→Prop,(∀σ' H',N σ' H'→∃m',m'<m∧W m' σ' H')∧tb {D with nx:=N,ct:=N,bk:=D.nx} σ H1 else D.nx σ H1
theorem jA {c:Expr} {body:List Stmt} {tc:TT} {tb:TS} (hp:PassesOwn (model X.prog X.w) X.A X.env X.xe) (hc:PT X c tc) (hb:jf X body tb):PS X (.While c body [] pos) (nh tc tb):=by
 intro pins s σ H D I h
 obtain⟨W,⟨m0,w0⟩,turn⟩:=h
 refine wpAny_While (codeAny_whileLoop (fun n s'=>∃σ' H',Inv X pins σ' H' s'∧W n σ' H') ?_ m0 ⟨σ,H,I,w0⟩)
 rintro n s1 ⟨σ1,H1,I1,w1⟩
 refine wpAny_passesOwn hp (aE (hc pins s1 σ1 H1 _ I1 (turn n σ1 H1 w1)) fun b s2 ⟨H2,I2,q2⟩=>?_)
 cases b with
 | true=>
  obtain⟨N,hN,q2⟩:=q2
  rw[if_pos rfl]
  refine wpAny_passesOwn hp (aE (hb pins s2 σ1 H2 _ I2 q2) fun f s3 q3=>?_)
  cases f with
  | next=>
   obtain⟨σ3,H3,I3,n3⟩:=q3
   obtain⟨m',hm,w3⟩:=hN σ3 H3 n3
   exact⟨m',hm,σ3,H3,I3,w3⟩
  | cont=>
   obtain⟨σ3,H3,I3,n3⟩:=q3
   obtain⟨m',hm,w3⟩:=hN σ3 H3 n3
   exact⟨m',hm,σ3,H3,I3,w3⟩
  | brk=>exact q3
  | ret v=>exact q3
 | false=>
  rw[if_neg Bool.false_ne_true]
  exact wpAny_execs_nil ⟨σ1,H2,I2,q2⟩
end
structure It where
 go:Nat→Hp→Prop
 ql:Nat→Hp→V→Hp→Prop
 stop:Nat→Hp→Prop
def ft (X:Cx) (pins:List (Addr×Obj)) (H:Hp) (b:Addr):Prop:=
 H b=none∧b≠X.env.locals∧b ∉ X.fs∧(b∈X.ex∨X.s₀.heap.objs.size≤b)∧(∀x c,X.env.cells.lookup x=some c→c≠b)∧∀p∈X.pn++pins,p.1≠b
theorem Inv.jB {X:Cx} {pins:List (Addr×Obj)} {σ:St} {H H':Hp} {s:Shared} {b:Addr} (I:Inv X pins σ H s) (hb:s.heap.objs.size≤b) (hn:H' b=none):ft X pins H' b:=by
 refine⟨hn,Nat.ne_of_gt (Nat.lt_of_lt_of_le I.lt hb),I.Ot hb,.inr (Nat.le_trans I.sz hb),fun x c e z=>?_,fun p hp z=>?_⟩
 ·obtain⟨v,q⟩:=I.cell x c e
  exact absurd (Nat.lt_of_lt_of_le q.lt (by rw[z];exact hb)) (Nat.lt_irrefl _)
 ·exact absurd (Nat.lt_of_lt_of_le (Heap.lt_size (I.pin p hp).1) (by rw[z];exact hb)) (Nat.lt_irrefl _)
structure Turn (P:Program) (w:World) (K:PySem.W.Frag) (tg:Expr) (J:It) (fp:List Addr) (it:Addr) (tn:Nat→Heap→Prop):Prop where
 mem:it∈fp
 obj:∀i h,tn i h→∀b∈fp,∃o,h.get? b=some o∧∀v,o.data≠.cell v
 keep:∀i h h',tn i h→(∀b∈fp,∀o,h.get? b=some o→h'.get? b=some o)→tn i h'
 item:∀(X:Cx),X.prog=P→X.w=w→X.K=K→X.calm=true→∀(i:Nat) (pins:List (Addr×Obj)) (s:Shared) (σ:St) (H:Hp) (E:Value→Shared→Prop),Inv X pins σ H s→(∀b∈fp,ft X pins H b)→tn i s.heap→J.go i H→
  wpAny (model P w) X.A (pyNext (.ref it)) (fun r s1=>∃u,r=some u∧
   wpAny (model P w) X.A (letOwnedTupleGo tg (.ref it) u) (fun _ s2=>∃x H',Inv X pins σ H' s2∧RelV x u∧J.ql i H x H'∧tn (i+1) s2.heap∧∀b∈fp,H' b=none) E s1) E s
 done:∀(X:Cx),X.prog=P→X.w=w→X.K=K→X.calm=true→∀(i:Nat) (pins:List (Addr×Obj)) (s:Shared) (σ:St) (H:Hp) (E:Value→Shared→Prop),Inv X pins σ H s→(∀b∈fp,ft X pins H b)→tn i s.heap→J.stop i H→
  wpAny (model P w) X.A (pyNext (.ref it)) (fun r s1=>r=none∧Inv X pins σ H s1) E s
 self:∀(A:Around) (i:Nat) (s:Shared) (Q:Value→Shared→Prop) (E:Value→Shared→Prop),tn i s.heap→Q (.ref it) s→wpAny (model P w) A (pyIter (.ref it)) Q E s
abbrev TI:=St→Hp→(It→Hp→Prop)→Prop
def PIE (X:Cx) (pins:List (Addr×Obj)) (σ:St) (tg:Expr) (R:It→Hp→Prop) (itv:Value) (s2:Shared):Prop:=
 ∃(it:Addr) (fp:List Addr) (tn:Nat→Heap→Prop) (J:It) (H':Hp),itv=.ref it∧Inv X pins σ H' s2∧Turn X.prog X.w X.K tg J fp it tn∧tn 0 s2.heap∧(∀b∈fp,ft X pins H' b)∧R J H'
def PI (X:Cx) (tg iter:Expr) (wi:TI):Prop:=
 ∀(pins:List (Addr×Obj)) (s:Shared) (σ:St) (H:Hp) (R:It→Hp→Prop),Inv X pins σ H s→wi σ H R→
  wpAny (model X.prog X.w) X.A (eval iter X.env) (fun v s1=>wpAny (model X.prog X.w) X.A (pyIter v) (PIE X pins σ tg R) X.xe s1) X.xe s
theorem vy {M:Model} {A:Around} {E:Value→Shared→Prop} {s:Shared} {tg:Expr} {it:Addr} {u:Value} {o:Obj} {n:String} {vs:Array Value} {Q:Unit→Shared→Prop} (ho:s.heap.get? it=some o) (hc:o.cls=.type n) (hd:o.data=.fields vs)
  (hn:["enumerate","zip","dict_itemiterator","dict_reverseitemiterator","odict_iterator","itertools.zip_longest","itertools.pairwise"].contains n=false) (hQ:Q () s):wpAny M A (letOwnedTupleGo tg (.ref it) u) Q E s:=by
 unfold letOwnedTupleGo
 cases tg<;>first
  | exact wpAny_pure hQ
  | (cases u<;>first
    | exact wpAny_pure hQ
    | (refine wpAny_bind (wpAny_load ho ?_)
       rw[hc,hd]
       show wpAny M A (if(["enumerate","zip","dict_itemiterator","dict_reverseitemiterator","odict_iterator","itertools.zip_longest","itertools.pairwise"].contains n&&vs[0]? == some (rawInt _))=true then _ else _) Q E s
       rw[if_neg (by intro h;rw[hn,Bool.false_and] at h;cases h)]
       exact wpAny_pure hQ))
def yA (K:PySem.W.Frag) (a:Addr):It:=
 ⟨fun i H=>∃xs x,bp K H a xs∧xs[i]? =some x,fun i H x H'=>H'=H∧∀xs,bp K H a xs→xs[i]? =some x,fun i H=>∃xs,bp K H a xs∧xs.length≤i⟩
def vL (K:PySem.W.Frag) (a:Addr):It:=
 ⟨fun i H=>∃xs x,aU K H a xs∧xs[i]? =some x,fun i H x H'=>H'=H∧∀xs,aU K H a xs→xs[i]? =some x,fun i H=>∃xs,aU K H a xs∧xs.length≤i⟩
def tM (lo:Int) (n:Nat):It:=⟨fun i _=>i<n,fun i H x H'=>H'=H∧x=.int (lo+i),fun i _=>n≤i⟩
theorem A1 {P:Program} {w:World} {K:PySem.W.Frag} {tg:Expr} (a it:Addr):Turn P w K tg (yA K a) [it] it (fun i h=>h.IsListIter it a i) where
 mem:=by simp
 obj:=fun i h st b hb=>by
  have e:b=it:=by simpa using hb
  subst e
  obtain⟨o,e,c,d⟩:=st
  exact⟨o,e,fun v z=>by rw[d] at z;cases z⟩
 keep:=fun i h h' st k=>st.at fun o e=>k it (by simp) o e
 item:=by
  intro X hP hw hK hc i pins s σ H E I hf st hg
  subst hP hw hK
  obtain⟨xs,x,hq,hx⟩:=hg
  obtain⟨its,rv,p,hz⟩:=I.list hq
  obtain⟨u,hu,ru⟩:=rv.get hx
  obtain⟨f0,f1,f2,f3,f4,f5⟩:=hf it (by simp)
  refine wpAny_pyNext_list_item st p.isList (x:=u) (by simpa using hu) fun h' st' sb=>?_
  have I1:Inv X pins σ H {s with heap:=h'}:=I.turned (t':=s.toks) (fun b o hb e=>(sb.2 b hb).trans e) f0 f1 f3 f4 f5
  obtain⟨o,e,c,d⟩:=id st'
  exact⟨u,rfl,vy (s:={s with heap:=h'}) e c d (by decide) ⟨x,H,I1,ru,⟨rfl,fun ys hy=>by rw[I.ia hy hq];exact hx⟩,st',fun b hb=>(hf b hb).1⟩⟩
 done:=by
  intro X hP hw hK hc i pins s σ H E I hf st hg
  subst hP hw hK
  obtain⟨xs,hq,hx⟩:=hg
  obtain⟨its,rv,p,hz⟩:=I.list hq
  obtain⟨f0,f1,f2,f3,f4,f5⟩:=hf it (by simp)
  have hl:=rv.length
  exact wpAny_pyNext_list_end (I.ok.hd hc) st p.isList (by simp;omega) fun h' eb=>⟨rfl,I.turned (t':=s.toks) (fun b o hb e=>eb b o hb e) f0 f1 f3 f4 f5⟩
 self:=fun _ _ _ _ _ st h=>wpAny_pyIter_listiter st h
theorem zI {P:Program} {w:World} {K:PySem.W.Frag} {tg:Expr} (a it:Addr):Turn P w K tg (vL K a) [it] it (fun i h=>h.IsTupleIter it a i) where
 mem:=by simp
 obj:=fun i h st b hb=>by
  have e:b=it:=by simpa using hb
  subst e
  obtain⟨o,e,c,d⟩:=st
  exact⟨o,e,fun v z=>by rw[d] at z;cases z⟩
 keep:=fun i h h' st k=>st.at fun o e=>k it (by simp) o e
 item:=by
  intro X hP hw hK hc i pins s σ H E I hf st hg
  subst hP hw hK
  obtain⟨xs,x,hq,hx⟩:=hg
  obtain⟨its,rv,p,hz⟩:=I.tuple hq
  obtain⟨u,hu,ru⟩:=rv.get hx
  obtain⟨f0,f1,f2,f3,f4,f5⟩:=hf it (by simp)
  refine wpAny_pyNext_tuple_item st (show s.heap.IsTuple a its.toArray from p) (x:=u) (by simpa using hu) fun h' st' sb=>?_
  have I1:Inv X pins σ H {s with heap:=h'}:=I.turned (t':=s.toks) (fun b o hb e=>(sb.2 b hb).trans e) f0 f1 f3 f4 f5
  obtain⟨o,e,c,d⟩:=id st'
  exact⟨u,rfl,vy (s:={s with heap:=h'}) e c d (by decide) ⟨x,H,I1,ru,⟨rfl,fun ys hy=>by rw[I.iQ hy hq];exact hx⟩,st',fun b hb=>(hf b hb).1⟩⟩
 done:=by
  intro X hP hw hK hc i pins s σ H E I hf st hg
  subst hP hw hK
  obtain⟨xs,hq,hx⟩:=hg
  obtain⟨its,rv,p,hz⟩:=I.tuple hq
  obtain⟨f0,f1,f2,f3,f4,f5⟩:=hf it (by simp)
  have hl:=rv.length
  exact wpAny_pyNext_tuple_end (I.ok.hd hc) st (show s.heap.IsTuple a its.toArray from p) (by simp;omega) fun h' eb=>⟨rfl,I.turned (t':=s.toks) (fun b o hb e=>eb b o hb e) f0 f1 f3 f4 f5⟩
 self:=fun _ _ _ _ _ st h=>wpAny_pyIter_tupleiter st h
theorem zJ {P:Program} {w:World} {K:PySem.W.Frag} {tg:Expr} (it:Addr) (lo:Int) (n:Nat):Turn P w K tg (tM lo n) [it] it (fun i h=>IsRangeIter h it (lo+(i:Nat)*1) ((n:Int)-(i:Nat)) 1) where
 mem:=by simp
 obj:=fun i h st b hb=>by
  have e:b=it:=by simpa using hb
  subst e
  exact⟨_,st,fun v z=>by
   have z':Data.fields _=Data.cell v:=z
   cases z'⟩
 keep:=fun i h h' st k=>k it (by simp) _ st
 item:=by
  intro X hP hw hK hc i pins s σ H E I hf st hg
  subst hP hw hK
  obtain⟨f0,f1,f2,f3,f4,f5⟩:=hf it (by simp)
  have W:=Walks.range (prog:=X.prog) (w:=X.w) (I.ok.hd hc) it lo 1 n
  refine W.item i s _ _ hg st fun v h' tk hv st' kk=>?_
  obtain⟨t,rfl⟩:=hv
  have I1:Inv X pins σ H {s with heap:=h',toks:=tk}:=I.turned (fun b o hb e=>kk b o (by simpa using hb) e) f0 f1 f3 f4 f5
  refine⟨_,rfl,vy (s:={s with heap:=h',toks:=tk}) (n:="range_iterator") st' rfl rfl (by decide) ⟨.int (lo+i),H,I1,⟨t,?_⟩,⟨rfl,rfl⟩,st',fun b hb=>(hf b hb).1⟩⟩
  rw[Int.mul_one]
 done:=by
  intro X hP hw hK hc i pins s σ H E I hf st hg
  subst hP hw hK
  obtain⟨f0,f1,f2,f3,f4,f5⟩:=hf it (by simp)
  exact wpAny_pyNext_range_end (I.ok.hd hc) st (by have:n≤i:=hg;omega) fun h' eb=>⟨rfl,I.turned (t':=s.toks) (fun b o hb e=>eb b o hb e) f0 f1 f3 f4 f5⟩
 self:=fun _ _ _ _ _ st h=>wpAny_pyIter_rangeiter st h
section
variable {X:Cx} {tg:Expr}
def LW (K:PySem.W.Frag) (tl:TE):TI:=fun σ H R=>tl σ H fun x H1=>∃a,x=.ref a∧(∃xs,bp K H1 a xs)∧R (yA K a) H1
def OB (K:PySem.W.Frag) (tl:TE):TI:=fun σ H R=>tl σ H fun x H1=>∃a,x=.ref a∧(∃xs,aU K H1 a xs)∧R (vL K a) H1
theorem dn {l:Expr} {tl:TE} (hl:PE X l tl):PI X tg l (LW X.K tl):=by
 intro pins s σ H R I h
 refine aE (hl pins s σ H _ I h) fun v s1 ⟨x,H1,I1,r1,q1⟩=>?_
 obtain⟨a,e,⟨xs,hq⟩,q⟩:=q1
 subst e
 cases r1
 obtain⟨its,rv,p,hz⟩:=I1.list hq
 refine wpAny_pyIter_list p.isList ?_
 refine⟨s1.heap.objs.size,[s1.heap.objs.size],_,_,H1,rfl,I1.kept (t':=s1.toks) fun b o e=>Heap.get?_push_of_some _ e,A1 a _,⟨_,Heap.get?_push_size _ rfl,rfl,rfl⟩,fun b hb=>?_,q⟩
 have e:b=s1.heap.objs.size:=by simpa using hb
 subst e
 exact I1.jB (Nat.le_refl _) (I1.hok.fresh (Nat.le_refl _))
theorem iR {l:Expr} {tl:TE} (hl:PE X l tl):PI X tg l (OB X.K tl):=by
 intro pins s σ H R I h
 refine aE (hl pins s σ H _ I h) fun v s1 ⟨x,H1,I1,r1,q1⟩=>?_
 obtain⟨a,e,⟨xs,hq⟩,q⟩:=q1
 subst e
 cases r1
 obtain⟨its,rv,p,hz⟩:=I1.tuple hq
 refine wpAny_pyIter_tuple (show s1.heap.IsTuple a its.toArray from p) ?_
 refine⟨s1.heap.objs.size,[s1.heap.objs.size],_,_,H1,rfl,I1.kept (t':=s1.toks) fun b o e=>Heap.get?_push_of_some _ e,zI a _,⟨_,Heap.get?_push_size _ rfl,rfl,rfl⟩,fun b hb=>?_,q⟩
 have e:b=s1.heap.objs.size:=by simpa using hb
 subst e
 exact I1.jB (Nat.le_refl _) (I1.hok.fresh (Nat.le_refl _))
theorem Dv {pins:List (Addr×Obj)} {σ:St} {H:Hp} {s:Shared} {R:It→Hp→Prop} {E:Value→Shared→Prop} {lo hi:Int} {t u v:Tok} {tk:Nat} (I:Inv X pins σ H s) (h1: -(2 ^ 62)≤lo) (h2:lo<2 ^ 62) (h3: -(2 ^ 62)≤hi) (h4:hi<2 ^ 62)
  (q:R (tM lo (hi-lo).toNat) H):wpAny (model X.prog X.w) X.A (pyIter (.ref s.heap.objs.size)) (PIE X pins σ tg R) E {s with heap:=s.heap.push {cls:=.type "range",data:=.fields #[.int lo t,.int hi u,.int 1 v]},toks:=tk}:=by
 refine wpAny_pyIter_range (IsRange.new ..) (small_one h1 h2 h3 h4) ?_
 have I1:Inv X pins σ H {s with heap:=s.heap.push {cls:=.type "range",data:=.fields #[.int lo t,.int hi u,.int 1 v]},toks:=tk}:=I.kept fun b o e=>Heap.get?_push_of_some _ e
 refine⟨(s.heap.push {cls:=.type "range",data:=.fields #[.int lo t,.int hi u,.int 1 v]}).objs.size,[(s.heap.push {cls:=.type "range",data:=.fields #[.int lo t,.int hi u,.int 1 v]}).objs.size],_,_,H,rfl,
  I1.kept (t':=tk) fun b o e=>Heap.get?_push_of_some _ e,zJ _ lo (hi-lo).toNat,?_,fun b hb=>?_,q⟩
 ·have e1:lo+((0:Nat):Int)*1=lo:=by simp
  have e2:(((hi-lo).toNat:Nat):Int)-((0:Nat):Int)=Builtin.Range.rangeSize lo hi 1:=by rw[rangeSize_one];split<;>omega
  show IsRangeIter _ _ (lo+((0:Nat):Int)*1) ((((hi-lo).toNat:Nat):Int)-((0:Nat):Int)) 1
  rw[e1,e2]
  exact Heap.get?_push_size _ rfl
 ·have e:b=(s.heap.push {cls:=.type "range",data:=.fields #[.int lo t,.int hi u,.int 1 v]}).objs.size:=by simpa using hb
  subst e
  exact I1.jB (Nat.le_refl _) (I1.hok.fresh (Nat.le_refl _))
def LX (ta:TA):TI:=fun σ H R=>ta σ H fun vs H1=>∃j:Int,vs=[.int j]∧ -(2 ^ 62)≤j∧j<2 ^ 62∧R (tM 0 j.toNat) H1
theorem dC {a:Expr} {ta:TA} {p pos:Pos} (hg:Gl X "range") (hm:X.mg "range"=none) (ha:PA X [a] ta) (hs:starEach [a] X.env=[(false,eval a X.env)]:=by rfl):PI X tg (.Call (.Name "range" p) [a] [] pos) (LX ta):=by
 intro pins s σ H R I h
 refine Call_ (gc I hg hm boot_range (PyProof.Rows.callWith_type1 (aE (ha pos pins s σ H _ I h) fun us s1 ⟨vs,H1,I1,r1,q1⟩=>?_) hs rfl))
 obtain⟨j,e,q1,q2,q⟩:=q1
 subst e
 cases r1 with
 | cons r rr=>
  cases rr
  obtain⟨t,rfl⟩:=r
  exact call_range_1 (Dv I1 (by omega) (by omega) q1 q2 (by simpa using q))
def OC (wi:TI) (g:TG) (tb:TS):TS:=fun D σ H=>wi σ H fun J H1=>∃W:Nat→Nat→St→Hp→Prop,(∃m,W 0 m σ H1)∧∀i m σ H,W i m σ H→
 (J.stop i H∧D.nx σ H)∨(J.go i H∧∃N:St→Hp→Prop,(∀σ' H',N σ' H'→∃m',m'<m∧W (i+1) m' σ' H')∧∀x H',J.ql i H x H'→g x σ H' fun σ2 H2=>tb {D with nx:=N,ct:=N,bk:=D.nx} σ2 H2)
def ni (fp:List Addr) (h:Heap):List (Addr×Obj):=fp.filterMap fun b=>(h.get? b).map fun o=>(b,o)
theorem ji {fp:List Addr} {h:Heap} {b:Addr} {o:Obj} (hb:b∈fp) (e:h.get? b=some o):(b,o)∈ni fp h:=List.mem_filterMap.mpr ⟨b,hb,by rw[e];rfl⟩
theorem A2 {fp:List Addr} {h:Heap} {p:Addr×Obj} (hp:p∈ni fp h):p.1∈fp∧h.get? p.1=some p.2:=by
 obtain⟨b,hb,e⟩:=List.mem_filterMap.mp hp
 cases q:h.get? b with
 | none=>rw[q] at e;cases e
 | some o=>
  rw[q] at e
  have e':(b,o)=p:=Option.some.inj e
  subst e'
  exact⟨hb,q⟩
theorem Inv.pinned {pins:List (Addr×Obj)} {σ:St} {H:Hp} {s:Shared} {fp:List Addr} (I:Inv X pins σ H s) (hf:∀b∈fp,ft X pins H b) (ho:∀b∈fp,∃o,s.heap.get? b=some o∧∀v,o.data≠.cell v):Inv X (pins++ni fp s.heap) σ H s:=
 I.yz fun p hp=>(List.mem_append.mp hp).elim (fun z=>I.pin p (List.mem_append_right _ z)) fun z=>by
  obtain⟨hb,e⟩:=A2 z
  obtain⟨f0,f1,f2,_⟩:=hf p.1 hb
  obtain⟨o,e',d⟩:=ho p.1 hb
  rw[e] at e';cases e'
  exact⟨e,f0,f1,f2,d⟩
theorem Inv.lM {pins pl:List (Addr×Obj)} {σ:St} {H:Hp} {s:Shared} (I:Inv X (pins++pl) σ H s):Inv X pins σ H s:=I.yz fun p hp=>I.pin p (List.mem_append_right _ (List.mem_append_left _ hp))
theorem dD {iter:Expr} {body:List Stmt} {wi:TI} {g:TG} {tb:TS} {pos:Pos} (hp:PassesOwn (model X.prog X.w) X.A X.env X.xe) (hc:X.calm=true) (hi:PI X tg iter wi) (hg:PG X tg g) (hb:jf X body tb)
  (hs:∀x,foldedSetIterable iter X.env x=pure x:=by intro _;rfl):PS X (.For tg iter body [] pos) (OC wi g tb):=by
 intro pins s σ H D I h
 refine wpAny_For (aE (hi pins s σ H _ I h) fun v s1 h1=>aE h1 fun itv s2 h2=>?_) hs
 obtain⟨it,fp,tn,J,H2,e,I2,T,st2,f2,W,⟨m0,w0⟩,turn⟩:=h2
 subst e
 have stat:∀{H':Hp},(∀b∈fp,H' b=none)→∀b∈fp,ft X pins H' b:=fun hn b hb=>⟨hn b hb,(f2 b hb).2⟩
 refine codeAny_forLoop_any (fun n s'=>∃i σ' H',Inv X pins σ' H' s'∧tn i s'.heap∧(∀b∈fp,H' b=none)∧W i n σ' H') ?_ m0 ⟨0,σ,H2,I2,st2,fun b hb=>(f2 b hb).1,w0⟩
 rintro n s3 ⟨i,σ3,H3,I3,st3,MW,w3⟩
 rcases turn i n σ3 H3 w3 with⟨stop,qn⟩ | ⟨go,N,hN,step⟩
 ·refine wpAny_passesOwn hp (aE (T.done X rfl rfl rfl hc i pins s3 σ3 H3 X.xe I3 (stat MW) st3 stop) fun r s4 ⟨hr,I4⟩=>?_)
  subst hr
  exact wpAny_execs_nil ⟨σ3,H3,I4,qn⟩
 ·refine wpAny_passesOwn hp (aE (T.item X rfl rfl rfl hc i pins s3 σ3 H3 X.xe I3 (stat MW) st3 go) fun r s4 ⟨u,hr,h4⟩=>?_)
  subst hr
  refine wpAny_passesOwn hp (aE h4 fun _ s5 ⟨x,H5,I5,r5,y5,yB,EY⟩=>?_)
  have SH:=I5.pinned (stat EY) (T.obj _ _ yB)
  refine wpAny_passesOwn hp (aE (hg _ s5 σ3 H5 x u _ SH r5 (step x H5 y5)) fun _ s6 ⟨σ6,H6,I6,q6⟩=>?_)
  refine wpAny_passesOwn hp (aE (hb _ s6 σ6 H6 _ I6 q6) fun f s7 q7=>?_)
  have again:∀{σ7:St} {H7:Hp},Inv X (pins++ni fp s5.heap) σ7 H7 s7→N σ7 H7→∃m,m<n∧∃i σ' H',Inv X pins σ' H' s7∧tn i s7.heap∧(∀b∈fp,H' b=none)∧W i m σ' H':=fun {σ7 H7} I7 n7=>by
   obtain⟨m',hm,w7⟩:=hN σ7 H7 n7
   refine⟨m',hm,i+1,σ7,H7,I7.lM,T.keep _ _ _ yB fun b hb o e=>(I7.pin (b,o) (List.mem_append_right _ (List.mem_append_right _ (ji hb e)))).1,fun b hb=>?_,w7⟩
   obtain⟨o,e,d⟩:=T.obj _ _ yB b hb
   exact(I7.pin (b,o) (List.mem_append_right _ (List.mem_append_right _ (ji hb e)))).2.1
  cases f with
  | next=>obtain⟨σ7,H7,I7,n7⟩:=q7;exact again I7 n7
  | cont=>obtain⟨σ7,H7,I7,n7⟩:=q7;exact again I7 n7
  | brk=>obtain⟨σ7,H7,I7,q7⟩:=q7;exact⟨σ7,H7,I7.lM,q7⟩
  | ret v=>obtain⟨x7,σ7,H7,I7,r7,q7⟩:=q7;exact⟨x7,σ7,H7,I7.lM,r7,q7⟩
end
theorem jC {K:PySem.W.Frag} {a:Addr} {xs:List V} {g:TG} {tb:TS} {D:Ends} {σ:St} {H:Hp} (Pv:Nat→St→Hp→Prop) (h0:Pv 0 σ H) (hl:∀i σ H,i≤xs.length→Pv i σ H→bp K H a xs)
  (hs:∀i x σ H,xs[i]? =some x→Pv i σ H→g x σ H fun σ2 H2=>tb {D with nx:=Pv (i+1),ct:=Pv (i+1),bk:=D.nx} σ2 H2) (hd:∀σ H,Pv xs.length σ H→D.nx σ H):
  ∃W:Nat→Nat→St→Hp→Prop,(∃m,W 0 m σ H)∧∀i m σ H,W i m σ H→
   ((yA K a).stop i H∧D.nx σ H)∨((yA K a).go i H∧∃N:St→Hp→Prop,(∀σ' H',N σ' H'→∃m',m'<m∧W (i+1) m' σ' H')∧∀x H',(yA K a).ql i H x H'→g x σ H' fun σ2 H2=>tb {D with nx:=N,ct:=N,bk:=D.nx} σ2 H2):=by
 refine⟨fun i m σ H=>m=xs.length-i∧i≤xs.length∧Pv i σ H,⟨xs.length,by simp,Nat.zero_le _,h0⟩,?_⟩
 rintro i m σ H ⟨rfl,hi,p⟩
 have q:=hl i σ H hi p
 by_cases hlt:i<xs.length
 ·refine .inr ⟨⟨xs,xs[i],q,by simp[hlt]⟩,Pv (i+1),fun σ' H' p'=>⟨xs.length-(i+1),by omega,rfl,hlt,p'⟩,fun x H' y=>?_⟩
  obtain⟨e,y⟩:=y
  subst e
  exact hs i x σ _ (y xs q) p
 ·have e:i=xs.length:=by omega
  subst e
  exact .inl ⟨⟨xs,q,Nat.le_refl _⟩,hd σ H p⟩
theorem yC {K:PySem.W.Frag} {a:Addr} {xs:List V} {g:TG} {tb:TS} {D:Ends} {σ:St} {H:Hp} (Pv:Nat→St→Hp→Prop) (h0:Pv 0 σ H) (hl:∀i σ H,i≤xs.length→Pv i σ H→aU K H a xs)
  (hs:∀i x σ H,xs[i]? =some x→Pv i σ H→g x σ H fun σ2 H2=>tb {D with nx:=Pv (i+1),ct:=Pv (i+1),bk:=D.nx} σ2 H2) (hd:∀σ H,Pv xs.length σ H→D.nx σ H):
  ∃W:Nat→Nat→St→Hp→Prop,(∃m,W 0 m σ H)∧∀i m σ H,W i m σ H→
   ((vL K a).stop i H∧D.nx σ H)∨((vL K a).go i H∧∃N:St→Hp→Prop,(∀σ' H',N σ' H'→∃m',m'<m∧W (i+1) m' σ' H')∧∀x H',(vL K a).ql i H x H'→g x σ H' fun σ2 H2=>tb {D with nx:=N,ct:=N,bk:=D.nx} σ2 H2):=by
 refine⟨fun i m σ H=>m=xs.length-i∧i≤xs.length∧Pv i σ H,⟨xs.length,by simp,Nat.zero_le _,h0⟩,?_⟩
 rintro i m σ H ⟨rfl,hi,p⟩
 have q:=hl i σ H hi p
 by_cases hlt:i<xs.length
 ·refine .inr ⟨⟨xs,xs[i],q,by simp[hlt]⟩,Pv (i+1),fun σ' H' p'=>⟨xs.length-(i+1),by omega,rfl,hlt,p'⟩,fun x H' y=>?_⟩
  obtain⟨e,y⟩:=y
  subst e
  exact hs i x σ _ (y xs q) p
 ·have e:i=xs.length:=by omega
  subst e
  exact .inl ⟨⟨xs,q,Nat.le_refl _⟩,hd σ H p⟩
theorem j_ {lo:Int} {n:Nat} {g:TG} {tb:TS} {D:Ends} {σ:St} {H:Hp} (Pv:Nat→St→Hp→Prop) (h0:Pv 0 σ H)
  (hs:∀i σ H,i<n→Pv i σ H→g (.int (lo+i)) σ H fun σ2 H2=>tb {D with nx:=Pv (i+1),ct:=Pv (i+1),bk:=D.nx} σ2 H2) (hd:∀σ H,Pv n σ H→D.nx σ H):
  ∃W:Nat→Nat→St→Hp→Prop,(∃m,W 0 m σ H)∧∀i m σ H,W i m σ H→
   ((tM lo n).stop i H∧D.nx σ H)∨((tM lo n).go i H∧∃N:St→Hp→Prop,(∀σ' H',N σ' H'→∃m',m'<m∧W (i+1) m' σ' H')∧∀x H',(tM lo n).ql i H x H'→g x σ H' fun σ2 H2=>tb {D with nx:=N,ct:=N,bk:=D.nx} σ2 H2):=by
 refine⟨fun i m σ H=>m=n-i∧i≤n∧Pv i σ H,⟨n,by simp,Nat.zero_le _,h0⟩,?_⟩
 rintro i m σ H ⟨rfl,hi,p⟩
 by_cases hlt:i<n
 ·refine .inr ⟨hlt,Pv (i+1),fun σ' H' p'=>⟨n-(i+1),by omega,rfl,hlt,p'⟩,fun x H' y=>?_⟩
  obtain⟨e,y⟩:=y
  subst e y
  exact hs i σ _ hlt p
 ·have e:i=n:=by omega
  subst e
  exact .inl ⟨Nat.le_refl _,hd σ H p⟩
abbrev R2:=V→V→Hp→VK→Prop
def cO (X:Cx) (f:Value→Value→Sem Value) (r:R2):Prop:=
 ∀(pins:List (Addr×Obj)) (s:Shared) (σ:St) (H:Hp) (x y:V) (v u:Value) (Q:VK),Inv X pins σ H s→RelV x v→RelV y u→r x y H Q→
  wpAny (model X.prog X.w) X.A (f v u) (EP X pins σ Q) X.xe s
def Hv (X:Cx) (f:Value→Sem Value) (r:V→Hp→VK→Prop):Prop:=
 ∀(pins:List (Addr×Obj)) (s:Shared) (σ:St) (H:Hp) (x:V) (v:Value) (Q:VK),Inv X pins σ H s→RelV x v→r x H Q→
  wpAny (model X.prog X.w) X.A (f v) (EP X pins σ Q) X.xe s
def dm (X:Cx) (f:Value) (r:List V→Hp→VK→Prop):Prop:=
 ∀(pins:List (Addr×Obj)) (s:Shared) (σ:St) (H:Hp) (xs:List V) (us:List Value) (Q:VK),Inv X pins σ H s→Vals xs us→r xs H Q→
  wpAny (model X.prog X.w) X.A (call f us) (EP X pins σ Q) X.xe s
def OD (X:Cx) (r:V→Hp→(Bool→Hp→Prop)→Prop):Prop:=
 ∀(pins:List (Addr×Obj)) (s:Shared) (σ:St) (H:Hp) (x:V) (v:Value) (Q:Bool→Hp→Prop),Inv X pins σ H s→RelV x v→r x H Q→
  wpAny (model X.prog X.w) X.A (truthy v) (TP X pins σ Q) X.xe s
def EZ (r:R2) (ta tb:TE):TE:=fun σ H Q=>ta σ H fun x H1=>tb σ H1 fun y H2=>r x y H2 Q
def SJ (r:V→Hp→VK→Prop) (ta:TE):TE:=fun σ H Q=>ta σ H fun x H1=>r x H1 Q
def rI (C:Int→Int→Prop) (g:Int→Int→V):R2:=fun x y H Q=>∃i j,x=.int i∧y=.int j∧C i j∧Q (g i j) H
def tN (g:Int→Int→V):R2:=fun x y H Q=>∃i j,x=.int i∧y=.int j∧Q (g i j) H
def rU (g:Int→V):V→Hp→VK→Prop:=fun x H Q=>∃i,x=.int i∧Q (g i) H
section
variable {X:Cx} {a b c:Expr} {ta tb tc:TE} {pos:Pos}
theorem Dw (ha:PE X a ta) (hb:PE X b tb) {pins:List (Addr×Obj)} {s:Shared} {σ:St} {H:Hp} {R:V→V→Hp→Prop} (I:Inv X pins σ H s)
  (h:ta σ H fun x H1=>tb σ H1 fun y H2=>R x y H2) {Q:Value→Shared→Prop} {f:Value→Value→Sem Value}
  (hf:∀v u s2 x y H2,Inv X pins σ H2 s2→RelV x v→RelV y u→R x y H2→wpAny (model X.prog X.w) X.A (f v u) Q X.xe s2):
  wpAny (model X.prog X.w) X.A (eval a X.env) (fun v s₁=>wpAny (model X.prog X.w) X.A (eval b X.env) (fun u s₂=>wpAny (model X.prog X.w) X.A (f v u) Q X.xe s₂) X.xe s₁) X.xe s:=by
 refine aE (ha pins s σ H _ I h) fun v s1 ⟨x,H1,I1,r1,q1⟩=>?_
 refine aE (hb pins s1 σ H1 _ I1 q1) fun u s2 ⟨y,H2,I2,r2,q2⟩=>?_
 exact hf v u s2 x y H2 I2 r1 r2 q2
theorem aH {op:Operator} {r:R2} (ho:cO X (binaryOp op) r) (ha:PE X a ta) (hb:PE X b tb):PE X (.BinOp a op b pos) (EZ r ta tb):=by
 intro pins s σ H Q I h
 exact wpAny_BinOp (Dw ha hb I h fun v u s2 x y H2 I2 rx ry q=>ho pins s2 σ H2 x y v u Q I2 rx ry q)
theorem E_ {op:UnaryOp} {r:V→Hp→VK→Prop} (ho:Hv X (unaryOp op) r) (ha:PE X a ta):PE X (.UnaryOp op a pos) (SJ r ta):=by
 intro pins s σ H Q I h
 exact UnaryOp_ (aE (ha pins s σ H _ I h) fun v s1 ⟨x,H1,I1,r1,q1⟩=>ho pins s1 σ H1 x v Q I1 r1 q1)
theorem E1 {f:Value→Value→Sem Value} {C:Int→Int→Prop} {g:Int→Int→Int}
  (rule:∀(i j:Int) (t u:Tok) (s:Shared) (Q:Value→Shared→Prop) (E:Value→Shared→Prop),C i j→Q (.int (g i j) s.toks) {s with toks:=s.toks+1}→wpAny (model X.prog X.w) X.A (f (.int i t) (.int j u)) Q E s):
  cO X f (rI C fun i j=>.int (g i j)):=by
 intro pins s σ H x y v u Q I rx ry h
 obtain⟨i,j,rfl,rfl,hc,q⟩:=h
 obtain⟨t,rfl⟩:=rx
 obtain⟨t',rfl⟩:=ry
 exact rule i j t t' s _ _ hc ⟨.int (g i j),H,I.tok _,⟨_,rfl⟩,q⟩
theorem Hw {f:Value→Value→Sem Value} {g:Int→Int→Int}
  (rule:∀(i j:Int) (t u:Tok) (s:Shared) (Q:Value→Shared→Prop) (E:Value→Shared→Prop),Q (.int (g i j) s.toks) {s with toks:=s.toks+1}→wpAny (model X.prog X.w) X.A (f (.int i t) (.int j u)) Q E s):
  cO X f (tN fun i j=>.int (g i j)):=by
 intro pins s σ H x y v u Q I rx ry h
 obtain⟨i,j,rfl,rfl,q⟩:=h
 obtain⟨t,rfl⟩:=rx
 obtain⟨t',rfl⟩:=ry
 exact rule i j t t' s _ _ ⟨.int (g i j),H,I.tok _,⟨_,rfl⟩,q⟩
theorem zK {f:Value→Value→Sem Value} {g:Int→Int→Bool}
  (rule:∀(i j:Int) (t u:Tok) (s:Shared) (Q:Value→Shared→Prop) (E:Value→Shared→Prop),Q (.bool (g i j)) s→wpAny (model X.prog X.w) X.A (f (.int i t) (.int j u)) Q E s):
  cO X f (tN fun i j=>.bl (g i j)):=by
 intro pins s σ H x y v u Q I rx ry h
 obtain⟨i,j,rfl,rfl,q⟩:=h
 obtain⟨t,rfl⟩:=rx
 obtain⟨t',rfl⟩:=ry
 exact rule i j t t' s _ _ ⟨.bl (g i j),H,I,rfl,q⟩
def OE (i j:Int):Prop:=0≤j∧j≤1000000∧i.natAbs<2 ^ 64
def Dx (i j:Int):Prop:=(-(2 ^ 64)<i∧i<2 ^ 64)∨(-(2 ^ 64)<j∧j<2 ^ 64)
theorem Dx.ok {i j:Int} (h:Dx i j):IntMulOk i j:=by
 rcases h with⟨h1,h2⟩ | ⟨h1,h2⟩
 ·exact .of_left (intBits_le_64 h1 h2)
 ·exact .of_right (intBits_le_64 h1 h2)
theorem iS:cO X (binaryOp .Add) (tN fun i j=>.int (i+j)):=Hw fun _ _ _ _ _ _ _ q=>add_int q
theorem cP:cO X (binaryOp .Sub) (tN fun i j=>.int (i-j)):=Hw fun _ _ _ _ _ _ _ q=>sub_int q
theorem iT:cO X (binaryOp .Mult) (rI Dx fun i j=>.int (i*j)):=E1 fun _ _ _ _ _ _ _ hc q=>mul_int q hc.ok
theorem Hx:cO X (binaryOp .Mod) (rI (fun _ j=>0<j) fun i j=>.int (i % j)):=E1 fun i j _ _ _ _ _ hc q=>by
 have h1:(0:Int)<j:=hc
 exact mod_int' (by omega) (by rw[Int.fmod_eq_emod_of_nonneg i (by omega)];exact q)
theorem Hy:cO X (binaryOp .Pow) (rI OE fun i j=>.int (i ^ j.toNat)):=E1 fun _ _ _ _ _ _ _ hc q=>pow_int_small hc.1 hc.2.1 hc.2.2 q
theorem SK {f:Value→Sem Value} {g:Int→Int}
  (rule:∀(i:Int) (t:Tok) (s:Shared) (Q:Value→Shared→Prop) (E:Value→Shared→Prop),Q (.int (g i) s.toks) {s with toks:=s.toks+1}→wpAny (model X.prog X.w) X.A (f (.int i t)) Q E s):
  Hv X f (rU fun i=>.int (g i)):=by
 intro pins s σ H x v Q I rx h
 obtain⟨i,rfl,q⟩:=h
 obtain⟨t,rfl⟩:=rx
 exact rule i t s _ _ ⟨.int (g i),H,I.tok _,⟨_,rfl⟩,q⟩
theorem A3:Hv X (unaryOp .USub) (rU fun i=>.int (-i)):=SK fun _ _ _ _ _ q=>neg_int q
end
def Dy:V→V→Bool
 | .non,.non=>true | .non,.int _=>true | .int _,.non=>true | .non,.bl _=>true | .bl _,.non=>true | .non,.str _=>true | .str _,.non=>true
 | .int _,.int _=>true | .bl _,.bl _=>true | .str _,.str _=>true | .jw _,.jw _=>true
 | .int _,.str _=>true | .str _,.int _=>true | .bl _,.str _=>true | .str _,.bl _=>true
 | _,_=>false
def SM:R2:=fun x y H Q=>Dy x y=true∧Q (.bl (decide (x=y))) H
def SN:R2:=fun x y H Q=>Dy x y=true∧Q (.bl (!decide (x=y))) H
theorem yD {i j:Int}:decide (V.int i=V.int j)=(i == j):=by
 rw[Bool.eq_iff_iff]
 simp
theorem A4 {i j:Bool}:decide (V.bl i=V.bl j)=(i == j):=by
 rw[Bool.eq_iff_iff]
 simp
theorem yE {i j:Str}:decide (V.str i=V.str j)=(i == j):=by
 rw[Bool.eq_iff_iff]
 simp
theorem yF {i j:Array UInt8}:decide (V.jw i=V.jw j)=(i.toList == j.toList):=by
 rw[Bool.eq_iff_iff]
 cases i
 cases j
 simp
section
variable {X:Cx} {a b c:Expr} {ta tb tc:TE} {pos:Pos}
theorem bf {pins:List (Addr×Obj)} {σ:St} {H:Hp} {s:Shared} {Q:VK} {k k':Bool} (I:Inv X pins σ H s) (q:Q (.bl k) H) (e:k=k'):EP X pins σ Q (.bool k') s:=by
 subst e
 exact⟨.bl k,H,I,rfl,q⟩
theorem g5:cO X (compareOp .Eq) SM:=by
 intro pins s σ H x y v u Q I rx ry h
 obtain⟨hs,q⟩:=h
 cases x with
 | non=>
  cases rx
  cases y with
  | non=>cases ry;exact PySem.EqNone.eq_none_none (bf I q (by simp))
  | bl j=>cases ry;exact PySem.EqNone.eq_none_bool (bf I q (by simp))
  | int j=>obtain⟨t',rfl⟩:=ry;exact PySem.EqNone.eq_none_int (bf I q (by simp))
  | str j=>obtain⟨t',rfl⟩:=ry;exact PySem.EqNone.eq_none_str (bf I q (by simp))
  | _=>exact absurd (show false=true from hs) Bool.false_ne_true
 | bl i=>
  cases rx
  cases y with
  | non=>cases ry;exact PySem.EqNone.eq_bool_none (bf I q (by simp))
  | bl j=>cases ry;exact eq_bool (bf I q A4)
  | str j=>obtain⟨t',rfl⟩:=ry;exact PySem.EqMixed.eq_bool_str (bf I q (by simp))
  | _=>exact absurd (show false=true from hs) Bool.false_ne_true
 | int i=>
  obtain⟨t,rfl⟩:=rx
  cases y with
  | non=>cases ry;exact PySem.EqNone.eq_int_none (bf I q (by simp))
  | int j=>obtain⟨t',rfl⟩:=ry;exact eq_int (bf I q yD)
  | str j=>obtain⟨t',rfl⟩:=ry;exact PySem.EqMixed.eq_int_str (bf I q (by simp))
  | _=>exact absurd (show false=true from hs) Bool.false_ne_true
 | str i=>
  obtain⟨t,rfl⟩:=rx
  cases y with
  | non=>cases ry;exact PySem.EqNone.eq_str_none (bf I q (by simp))
  | bl j=>cases ry;exact PySem.EqMixed.eq_str_bool (bf I q (by simp))
  | int j=>obtain⟨t',rfl⟩:=ry;exact PySem.EqMixed.eq_str_int (bf I q (by simp))
  | str j=>obtain⟨t',rfl⟩:=ry;exact eq_str (bf I q yE)
  | _=>exact absurd (show false=true from hs) Bool.false_ne_true
 | jw i=>
  obtain⟨t,rfl⟩:=rx
  cases y with
  | jw j=>obtain⟨t',rfl⟩:=ry;exact PySem.W.eq_bytes (bf I q yF)
  | _=>exact absurd (show false=true from hs) Bool.false_ne_true
 | _=>cases y<;>exact absurd (show false=true from hs) Bool.false_ne_true
theorem oE:cO X (compareOp .NotEq) SN:=by
 intro pins s σ H x y v u Q I rx ry h
 obtain⟨hs,q⟩:=h
 cases x with
 | non=>
  cases rx
  cases y with
  | non=>cases ry;exact PySem.EqNone.ne_none_none (bf I q (by simp))
  | bl j=>cases ry;exact PySem.EqNone.ne_none_bool (bf I q (by simp))
  | int j=>obtain⟨t',rfl⟩:=ry;exact PySem.EqNone.ne_none_int (bf I q (by simp))
  | str j=>obtain⟨t',rfl⟩:=ry;exact PySem.EqNone.ne_none_str (bf I q (by simp))
  | _=>exact absurd (show false=true from hs) Bool.false_ne_true
 | bl i=>
  cases rx
  cases y with
  | non=>cases ry;exact PySem.EqNone.ne_bool_none (bf I q (by simp))
  | bl j=>cases ry;exact ne_bool (bf I q (congrArg not A4))
  | str j=>obtain⟨t',rfl⟩:=ry;exact PySem.EqMixed.ne_bool_str (bf I q (by simp))
  | _=>exact absurd (show false=true from hs) Bool.false_ne_true
 | int i=>
  obtain⟨t,rfl⟩:=rx
  cases y with
  | non=>cases ry;exact PySem.EqNone.ne_int_none (bf I q (by simp))
  | int j=>obtain⟨t',rfl⟩:=ry;exact ne_int (bf I q (congrArg not yD))
  | str j=>obtain⟨t',rfl⟩:=ry;exact PySem.EqMixed.ne_int_str (bf I q (by simp))
  | _=>exact absurd (show false=true from hs) Bool.false_ne_true
 | str i=>
  obtain⟨t,rfl⟩:=rx
  cases y with
  | non=>cases ry;exact PySem.EqNone.ne_str_none (bf I q (by simp))
  | bl j=>cases ry;exact PySem.EqMixed.ne_str_bool (bf I q (by simp))
  | int j=>obtain⟨t',rfl⟩:=ry;exact PySem.EqMixed.ne_str_int (bf I q (by simp))
  | str j=>obtain⟨t',rfl⟩:=ry;exact ne_str (bf I q (congrArg not yE))
  | _=>exact absurd (show false=true from hs) Bool.false_ne_true
 | jw i=>
  obtain⟨t,rfl⟩:=rx
  cases y with
  | jw j=>obtain⟨t',rfl⟩:=ry;exact PySem.W.ne_bytes (bf I q (congrArg not yF))
  | _=>exact absurd (show false=true from hs) Bool.false_ne_true
 | _=>cases y<;>exact absurd (show false=true from hs) Bool.false_ne_true
theorem E2:cO X (compareOp .Lt) (tN fun i j=>.bl (decide (i<j))):=zK fun _ _ _ _ _ _ _ q=>lt_int q
theorem LY:cO X (compareOp .LtE) (tN fun i j=>.bl (decide (i≤j))):=zK fun _ _ _ _ _ _ _ q=>le_int q
theorem qm:cO X (compareOp .Gt) (tN fun i j=>.bl (decide (j<i))):=zK fun _ _ _ _ _ _ _ q=>gt_int q
theorem zL:cO X (compareOp .GtE) (tN fun i j=>.bl (decide (j≤i))):=zK fun _ _ _ _ _ _ _ q=>ge_int q
theorem nj:cO X (compareOp .Is) (fun x y H Q=>y=.non∧Q (.bl (decide (x=.non))) H):=by
 intro pins s σ H x y v u Q I rx ry h
 obtain⟨rfl,q⟩:=h
 cases ry
 refine is_none_gen (bf I q ?_)
 cases x<;>first
  | (cases rx;rfl)
  | (obtain⟨t,rfl⟩:=rx;rfl)
theorem rF:cO X (compareOp .IsNot) (fun x y H Q=>y=.non∧Q (.bl (!decide (x=.non))) H):=by
 intro pins s σ H x y v u Q I rx ry h
 obtain⟨rfl,q⟩:=h
 cases ry
 refine isnot_none_gen (bf I q ?_)
 cases x<;>first
  | (cases rx;rfl)
  | (obtain⟨t,rfl⟩:=rx;rfl)
theorem aY (b:Expr) {op:CmpOp} (h:op≠.In:=by decide) (h2:op≠.NotIn:=by decide):behindInMarks op b=false:=by
 have e1:(op == CmpOp.In)=false:=by cases op<;>first | rfl | exact absurd rfl h
 have e2:(op == CmpOp.NotIn)=false:=by cases op<;>first | rfl | exact absurd rfl h2
 cases b<;>simp[behindInMarks,e1,e2]
theorem fN {op:CmpOp} {r:R2} (ho:cO X (compareOp op) r) (ha:PE X a ta) (hb:PE X b tb) (hm:behindInMarks op b=false):PE X (.Compare a [op] [b] pos) (EZ r ta tb):=by
 intro pins s σ H Q I h
 exact wpAny_Compare1 (Dw ha hb I h fun v u s2 x y H2 I2 rx ry q=>ho pins s2 σ H2 x y v u Q I2 rx ry q) hm
def E3 (t:TE):TT:=fun σ H Q=>t σ H fun x H'=>∃k,x=.bl k∧Q k H'
theorem a_ {op:CmpOp} {r:R2} (ho:cO X (compareOp op) r) (ha:PE X a ta) (hb:PE X b tb) (hm:behindInMarks op b=false):PT X (.Compare a [op] [b] pos) (E3 (EZ r ta tb)):=by
 intro pins s σ H Q I h
 refine wpAny_isTrue_Compare1 (aE (ha pins s σ H _ I h) fun v s1 ⟨x,H1,I1,r1,q1⟩=>aE (hb pins s1 σ H1 _ I1 q1) fun u s2 ⟨y,H2,I2,r2,q2⟩=>
  aE (ho pins s2 σ H2 x y v u _ I2 r1 r2 q2) fun c s3 ⟨z,H3,I3,r3,k,e,q3⟩=>?_) hm
 subst e
 cases r3
 exact wpAny_truthy_bool ⟨H3,I3,q3⟩
def Hz (r r':R2) (ta tb tc:TE):TE:=fun σ H Q=>ta σ H fun x H1=>tb σ H1 fun y H2=>r x y H2 fun z H3=>∃k,z=.bl k∧
 (if k=true then tc σ H3 fun w' H4=>r' y w' H4 Q else Q (.bl false) H3)
theorem Dz {op op':CmpOp} {r r':R2} (ho:cO X (compareOp op) r) (ho':cO X (compareOp op') r') (ha:PE X a ta) (hb:PE X b tb) (hc:PE X c tc)
  (hm:lastMarks [op,op'] [b,c]=false:=by with_unfolding_all rfl):PT X (.Compare a [op,op'] [b,c] pos) (E3 (Hz r r' ta tb tc)):=by
 intro pins s σ H Q I h
 refine isTrue_chain (aE (ha pins s σ H _ I h) fun v s1 ⟨x,H1,I1,r1,q1⟩=>test_link (aE (hb pins s1 σ H1 _ I1 q1) fun u s2 ⟨y,H2,I2,r2,q2⟩=>
  aE (ho pins s2 σ H2 x y v u _ I2 r1 r2 q2) fun d s3 ⟨z,H3,I3,r3,k,e,q3⟩=>?_)) hm
 subst e
 cases r3
 refine wpAny_truthy_bool ?_
 cases k with
 | false=>
  obtain⟨k',e',q'⟩:=q3
  cases e'
  exact ite_ff ⟨H3,I3,q'⟩
 | true=>
  refine ite_tt (test_last (aE (hc pins s3 σ H3 _ I3 q3) fun w' s4 ⟨z',H4,I4,r4,q4⟩=>aE (ho' pins s4 σ H4 y z' u w' _ I4 r2 r4 q4) fun d' s5 ⟨z2,H5,I5,r5,k2,e2,q5⟩=>?_))
  subst e2
  cases r5
  exact wpAny_truthy_bool ⟨H5,I5,q5⟩
def HA (K:PySem.W.Frag) (x:V) (H:Hp) (k:Bool):Prop:=
 match x with
 | .non=>k=false
 | .bl b=>k=b
 | .int i=>k=(i != 0)
 | .str y=>y.length≤sizeLine∧k=((y.length:Int) != 0)
 | .jw y=>y.size≤sizeLine∧k=((y.size:Int) != 0)
 | .ref p=>(∃xs,bp K H p xs∧k= !xs.isEmpty)∨(∃xs,aU K H p xs∧k= !xs.isEmpty)∨∃kvs,H p=some (.dK kvs)∧k= !kvs.isEmpty
 | _=>False
theorem zM {κ:Type} {kvs:List (κ×V)} {vs:List (κ×Value)} (r:KV kvs vs):(!vs.isEmpty)= !kvs.isEmpty:=by
 cases r<;>rfl
theorem qo {xs:List V} {its:List Value} (r:Vals xs its):(!its.toArray.isEmpty)= !xs.isEmpty:=by
 cases r<;>simp
theorem nq:(sizeLine:Nat)<2 ^ 63:=by rw[sizeLine_eq];decide
theorem HB:OD X (fun x H Q=>∃k,HA X.K x H k∧Q k H):=by
 intro pins s σ H x v Q I rx h
 obtain⟨k,e,q⟩:=h
 have hl:=nq
 have hs:sizeLine=16777216:=sizeLine_eq
 cases x with
 | non=>
  cases rx
  have e':k=false:=e
  subst e'
  exact truthy_none ⟨H,I,q⟩
 | bl b=>
  cases rx
  have e':k=b:=e
  subst e'
  exact wpAny_truthy_bool ⟨H,I,q⟩
 | int i=>
  obtain⟨t,rfl⟩:=rx
  have e':k=(i != 0):=e
  subst e'
  exact PySem.P.truthy_int ⟨H,I,q⟩
 | str y=>
  obtain⟨t,rfl⟩:=rx
  obtain⟨hy,e'⟩:y.length≤sizeLine∧k=((y.length:Int) != 0):=e
  subst e'
  exact PySem.P.truthy_str (by omega) ⟨H,I.tok _,q⟩
 | jw y=>
  obtain⟨t,rfl⟩:=rx
  obtain⟨hy,e'⟩:y.size≤sizeLine∧k=((y.size:Int) != 0):=e
  subst e'
  exact PySem.W.truthy_bytes (by omega) ⟨H,I.tok _,q⟩
 | ref p=>
  cases rx
  have e':(∃xs,bp X.K H p xs∧k= !xs.isEmpty)∨(∃xs,aU X.K H p xs∧k= !xs.isEmpty)∨∃kvs,H p=some (.dK kvs)∧k= !kvs.isEmpty:=e
  rcases e' with⟨xs,hx,e'⟩ | ⟨xs,hx,e'⟩ | ⟨kvs,hx,e'⟩
  ·subst e'
   obtain⟨its,r,pl,hz⟩:=I.list hx
   have hlen:=r.length
   exact wpAny_truthy_list pl.isList (by simp only[List.size_toArray];omega) ⟨H,I.tok _,by rw[qo r];exact q⟩
  ·subst e'
   obtain⟨its,r,pl,hz⟩:=I.tuple hx
   have hlen:=r.length
   exact truthy_tuple pl (by simp only[List.size_toArray];omega) ⟨H,I.tok _,by rw[qo r];exact q⟩
  ·subst e'
   obtain⟨hz,hS,vs,r,m⟩:kvs.length≤sizeLine∧(p == sysModules)=false∧∃vs,KV kvs vs∧s.heap.DictOf (bh X.prog X.w) p vs:=I.hok p _ hx
   have hlen:kvs.length=vs.length:=Paired.length r
   exact wpAny_truthy_dict hS m (by omega) ⟨H,I.tok _,by rw[zM r];exact q⟩
 | _=>exact(show False from e).elim
theorem jD (ha:PE X a ta) (he:∀whole,isTrue a X.env whole=(do let v ←whole;standAt a.pos;holding [v] (truthy v))):
  PT X a (fun σ H Q=>ta σ H fun x H'=>∃k,HA X.K x H' k∧Q k H'):=by
 intro pins s σ H Q I h
 exact isTrue_plain (aE (ha pins s σ H _ I h) fun v s1 ⟨x,H1,I1,r1,q1⟩=>HB pins s1 σ H1 x v Q I1 r1 q1) (he _)
theorem qp:cO X (binaryOp .Add) (fun x y H Q=>∃i j,x=.str i∧y=.str j∧i.length+j.length≤sizeLine∧Q (.str (i++j)) H):=by
 intro pins s σ H x y v u Q I rx ry h
 obtain⟨i,j,rfl,rfl,hz,q⟩:=h
 obtain⟨t,rfl⟩:=rx
 obtain⟨t',rfl⟩:=ry
 exact add_str (fun t' tk=>⟨.str (i++j),H,I.tok _,⟨_,rfl⟩,q⟩) hz
theorem vals1 {x:V} {us:List Value} (r:Vals [x] us):∃u,us=[u]∧RelV x u:=by
 cases r with
 | cons r1 r2=>cases r2;exact⟨_,rfl,r1⟩
theorem vals2 {x y:V} {us:List Value} (r:Vals [x,y] us):∃u w',us=[u,w']∧RelV x u∧RelV y w':=by
 cases r with
 | cons r1 r2=>
  cases r2 with
  | cons r3 r4=>cases r4;exact⟨_,_,rfl,r1,r3⟩
theorem vM:dm X (.builtin "abs") (fun xs H Q=>∃i,xs=[.int i]∧Q (.int (if i<0 then-i else i)) H):=by
 intro pins s σ H xs us Q I r h
 obtain⟨i,rfl,q⟩:=h
 obtain⟨u,rfl,t,rfl⟩:=vals1 r
 exact call_abs_int fun u tk=>⟨.int (if i<0 then-i else i),H,I.tok _,⟨_,rfl⟩,q⟩
theorem A5:dm X (.type "int") (fun xs H Q=>(∃i,xs=[.int i]∧Q (.int i) H)∨∃k,xs=[.bl k]∧Q (.int (if k then 1 else 0)) H):=by
 intro pins s σ H xs us Q I r h
 rcases h with⟨i,rfl,q⟩ | ⟨k,rfl,q⟩
 ·obtain⟨u,rfl,t,rfl⟩:=vals1 r
  exact call_int_int ⟨.int i,H,I,⟨_,rfl⟩,q⟩
 ·obtain⟨u,rfl,r1⟩:=vals1 r
  cases r1
  exact call_int_bool ⟨.int (if k then 1 else 0),H,I.tok _,⟨_,rfl⟩,q⟩
theorem zN:dm X (.type "bool") (fun xs H Q=>(∃i,xs=[.int i]∧Q (.bl (i != 0)) H)∨∃k,xs=[.bl k]∧Q (.bl k) H):=by
 intro pins s σ H xs us Q I r h
 rcases h with⟨i,rfl,q⟩ | ⟨k,rfl,q⟩
 ·obtain⟨u,rfl,t,rfl⟩:=vals1 r
  exact call_bool_int ⟨.bl (i != 0),H,I,rfl,q⟩
 ·obtain⟨u,rfl,r1⟩:=vals1 r
  cases r1
  exact call_bool_bool ⟨.bl k,H,I,rfl,q⟩
def HC (K:PySem.W.Frag) (x:V) (H:Hp) (n:Nat):Prop:=
 match x with
 | .str y=>y.length≤sizeLine∧n=y.length
 | .jw y=>y.size≤sizeLine∧n=y.size
 | .ref p=>(∃xs,bp K H p xs∧n=xs.length)∨∃xs,aU K H p xs∧n=xs.length
 | _=>False
theorem DA:dm X (.builtin "len") (fun xs H Q=>∃x n,xs=[x]∧HC X.K x H n∧Q (.int n) H):=by
 intro pins s σ H xs us Q I r h
 obtain⟨x,n,rfl,e,q⟩:=h
 obtain⟨u,rfl,rx⟩:=vals1 r
 have hl:=nq
 have hs:sizeLine=16777216:=sizeLine_eq
 cases x with
 | str y=>
  obtain⟨t,rfl⟩:=rx
  obtain⟨hy,e'⟩:y.length≤sizeLine∧n=y.length:=e
  subst e'
  exact len_str (by omega) ⟨.int _,H,I.tok _,⟨_,rfl⟩,q⟩
 | jw y=>
  obtain⟨t,rfl⟩:=rx
  obtain⟨hy,e'⟩:y.size≤sizeLine∧n=y.size:=e
  subst e'
  exact PySem.W.len_bytes (by omega) ⟨.int _,H,I.tok _,⟨_,rfl⟩,q⟩
 | ref p=>
  cases rx
  have e':(∃xs,bp X.K H p xs∧n=xs.length)∨∃xs,aU X.K H p xs∧n=xs.length:=e
  rcases e' with⟨xs,hx,e'⟩ | ⟨xs,hx,e'⟩
  ·subst e'
   obtain⟨its,r',pl,hz⟩:=I.list hx
   have hlen:=r'.length
   exact Calls.call_len_list pl.isList (by simp only[List.size_toArray];omega) ⟨.int xs.length,H,I.tok _,⟨_,by simp only[List.size_toArray];rw[hlen]⟩,q⟩
  ·subst e'
   obtain⟨its,r',pl,hz⟩:=I.tuple hx
   have hlen:=r'.length
   exact len_tuple pl (by simp only[List.size_toArray];omega) ⟨.int xs.length,H,I.tok _,⟨_,by simp only[List.size_toArray];rw[hlen]⟩,q⟩
 | _=>exact(show False from e).elim
end
structure DB (h:Heap) (x dx C:Addr) (mA:Str→Option Value):Prop where
 obj:h.get? x=some (PySem.W.instObj C dx)
 ns:h.Ns1 dx mA
 ne:dx≠x
theorem A6 {h:Heap} {dx:Addr} {mA:Str→Option Value} (n:h.Ns1 dx mA):∃od,h.get? dx=some od∧∀name,PySem.W.lookIn name od=some (mA name):=by
 obtain⟨o,es,ep,ho,hd,hk,_,hm⟩:=n
 refine⟨o,ho,fun name=>?_⟩
 have e:=hm name
 unfold nsFind findBy at e
 rw[←Array.find?_toList] at e
 unfold PySem.W.lookIn
 rw[hd]
 dsimp only
 split
 ·rename_i y q
  rw[q] at e
  exact congrArg some e
 ·rename_i q
  rw[q] at e
  have a:es.toList.any (·.refKey)=false:=by
   rw[List.any_eq_false]
   intro y hy
   obtain⟨z,t,hkey⟩:=hk y (Array.mem_toList_iff.mp hy)
   simp[DictEntry.refKey,hkey]
  have a':¬es.toList.any (·.refKey)=true:=by rw[a];exact Bool.false_ne_true
  rw[if_neg a']
  exact congrArg some e
theorem DB.look {h:Heap} {x dx C:Addr} {mA:Str→Option Value} (I:DB h x dx C mA):∃od,PySem.W.InstAt h x (PySem.W.instObj C dx) C (some od)∧∀name,PySem.W.lookIn name od=some (mA name):=
 let ⟨od,ho,hl⟩:=A6 I.ns
 ⟨od,⟨I.obj,rfl,rfl,ho⟩,hl⟩
theorem fw.some_of {v:V} {o:Option Value} (r:fw (some v) o):∃u,o=some u∧RelV v u:=by
 cases o with
 | none=>exact(show False from r).elim
 | some u=>exact⟨u,rfl,r⟩
theorem fw.none_of {o:Option Value} (r:fw none o):o=none:=by
 cases o with
 | none=>rfl
 | some u=>exact(show False from r).elim
section
variable {P:Program} {w:World} {H H':Hp} {h h':Heap} {a C dx:Addr} {fs fs':List (Str×V)}
theorem Gm (hok:cC P w H h) (e:H a=some (.ins C dx fs)):∃mA,DB h a dx C mA∧(∀f,fw (fs.lookup f) (mA f))∧PySem.Within mA (fs.map (·.1))∧fs.length≤1000∧H dx=some (.own a):=by
 obtain⟨d,z,ne,ob,mA,n,r,q⟩:=(show bq P w H h a (.ins C dx fs) from hok a _ e)
 exact⟨mA,⟨ob,n,ne⟩,r,q,z,d⟩
end
structure Cls (K:PySem.W.Frag) (C:Addr):Prop where
 pg:PySem.W.plainGet K C Str.empty=true
 hd:PySem.W.hasDictIn K C=true
 po:PySem.W.plainOver K C=true
 sa:PySem.W.findIn K (.ref C) "__setattr__"=some (some (.builtin "object.__setattr__"))
theorem Cls.get {K:PySem.W.Frag} {C:Addr} (c:Cls K C) (f:Str):PySem.W.plainGet K C f=true:=c.pg
section
variable {X:Cx} {pins:List (Addr×Obj)} {σ:St} {H:Hp} {s:Shared} {A:Around} {E:Value→Shared→Prop} {Q:Value→Shared→Prop} {c:Value} {b:Bool}
inductive fZ (K:PySem.W.Frag) (H:Hp):V→Value→Prop where
 | non:fZ K H .non (.type "NoneType")
 | bl (x:Bool):fZ K H (.bl x) (.type "bool")
 | int (i:Int):fZ K H (.int i) (.type "int")
 | str (x:Str):fZ K H (.str x) (.type "str")
 | flt (x:UInt64):fZ K H (.flt x) (.type "float")
 | lst {a:Addr} {xs:List V} (e:H a=some (.lst xs)):fZ K H (.ref a) (.type "list")
 | iP {a:Addr} {o:Obj} {xs:List V} (e:H a=some (.iP o (.lst xs))):fZ K H (.ref a) (.type "list")
 | tup {a:Addr} {xs:List V} (e:H a=some (.tup xs)):fZ K H (.ref a) (.type "tuple")
 | dK {a:Addr} {kvs:List (Key×V)} (e:H a=some (.dK kvs)):fZ K H (.ref a) (.type "dict")
 | dT {a:Addr} {kvs:List (List Key×V)} (e:H a=some (.dT kvs)):fZ K H (.ref a) (.type "dict")
 | ins {a C dx:Addr} {fs:List (Str×V)} (e:H a=some (.ins C dx fs)) (cl:Cls K C) (ha:PySem.W.findIn K (.ref C) "__class__"=some (some (.builtin "object.__class__")))
   (hn:PySem.W.specialIn K (.builtin "object.__class__") "__get__"=some (some (.builtin "getset_descriptor.__get__"))) (htk:PySem.W.takesIn K (.builtin "object.__class__")=some true)
   (hm:PySem.W.mroIn K C (.type "object")=some true):fZ K H (.ref a) (.ref C)
theorem A7 {x:V} {u t:Value} (I:Inv X pins σ H s) (rx:RelV x u) (ty:fZ X.K H x t) (e:PySem.W.kitOne X.K t c=some b) (h:∀tk,Q (.bool b) {s with toks:=tk}):
  wpAny (model X.prog X.w) A (call (.builtin "isinstance") [u,c]) Q E s:=by
 cases ty with
 | non=>cases(show u=Value.none from rx);exact PySem.W.kia_one PySem.W.kitx_none I.gb True.intro e (fun z=>nomatch z) h
 | bl y=>cases(show u=Value.bool y from rx);exact PySem.W.kia_one PySem.W.kitx_bool I.gb True.intro e (fun z=>nomatch z) h
 | int i=>obtain⟨t,q⟩:=(show ∃t,u=Value.int i t from rx);cases q;exact PySem.W.kia_one PySem.W.kitx_int I.gb True.intro e (fun z=>nomatch z) h
 | str y=>obtain⟨t,q⟩:=(show ∃t,u=Value.str y t from rx);cases q;exact PySem.W.kia_one PySem.W.kitx_str I.gb True.intro e (fun z=>nomatch z) h
 | flt y=>obtain⟨t,q⟩:=(show ∃t,u=Value.float y t from rx);cases q;exact PySem.W.kia_one PySem.W.kitx_float I.gb True.intro e (fun z=>nomatch z) h
 | @lst a xs ea=>
  cases(show u=Value.ref a from rx)
  obtain⟨_,_,n,_,h1⟩:=(show bq X.prog X.w H s.heap a (.lst xs) from I.hok a _ ea)
  exact PySem.W.kia_one PySem.W.kitx_list I.gb ⟨_,h1,rfl⟩ e (fun z=>nomatch z) h
 | @iP a ob xs ea=>
  cases(show u=Value.ref a from rx)
  obtain⟨_,_,_,n,_,h1⟩:=(show bq X.prog X.w H s.heap a (.iP ob (.lst xs)) from I.hok a _ ea)
  exact PySem.W.kia_one PySem.W.kitx_list I.gb ⟨_,h1,rfl⟩ e (fun z=>nomatch z) h
 | @tup a xs ea=>
  cases(show u=Value.ref a from rx)
  obtain⟨_,_,_,p⟩:=(show bq X.prog X.w H s.heap a (.tup xs) from I.hok a _ ea)
  obtain⟨o,h1,h2,_⟩:=p
  exact PySem.W.kia_one PySem.W.kitx_tuple I.gb ⟨o,h1,h2⟩ e (fun z=>nomatch z) h
 | @dK a kvs ea=>
  cases(show u=Value.ref a from rx)
  obtain⟨_,_,vs,_,p⟩:=(show bq X.prog X.w H s.heap a (.dK kvs) from I.hok a _ ea)
  obtain⟨o,es,ep,h1,h2,_⟩:=p
  exact PySem.W.kia_one PySem.W.kitx_dict I.gb ⟨o,h1,h2.1⟩ e (fun z=>nomatch z) h
 | @dT a kvs ea=>
  cases(show u=Value.ref a from rx)
  obtain⟨_,_,xs,_,o,es,ep,h1,h2,_⟩:=(show bq X.prog X.w H s.heap a (.dT kvs) from I.hok a _ ea)
  exact PySem.W.kia_one PySem.W.kitx_dict I.gb ⟨o,h1,h2.1⟩ e (fun z=>nomatch z) h
 | @ins a C dx fs ea cl ha hn htk hm=>
  cases(show u=Value.ref a from rx)
  obtain⟨mA,O,_⟩:=Gm I.hok ea
  obtain⟨od,J,_⟩:=O.look
  exact PySem.W.kia_one (PySem.W.kitx_own (cl.get _) cl.hd ha hn htk hm) I.gb J e (fun z=>nomatch z) h
end
structure aP (k:Nat) (A:Around):Prop where
 hd:A.handled=none
 dp:A.depth+3*k+5<recursionLimit
 un:A.units+16*k+200<cLine
 gd:A.guards=some []
theorem aP.mono {j k:Nat} {A:Around} (r:aP k A) (h:j≤k):aP j A:=⟨r.hd,by have:=r.dp;omega,by have:=r.un;omega,r.gd⟩
theorem aP.deeper {k:Nat} {A:Around} (r:aP (k+1) A) (env:Env):aP k (A.deeper env):=
 ⟨r.hd,by have:=r.dp;show A.depth+1+3*k+5<_;omega,by have:=r.un;show A.units+3+16*k+200<_;omega,r.gd⟩
theorem aP.depth {k:Nat} {A:Around} (r:aP k A):A.depth<recursionLimit:=by have:=r.dp;omega
theorem aP.units {k:Nat} {A:Around} (r:aP k A):A.units+64<cLine:=by have:=r.un;omega
def vN:TA:=fun _ H Q=>Q [] H
def qq (ta:TE) (tr:TA):TA:=fun σ H Q=>ta σ H fun x H1=>tr σ H1 fun xs H2=>Q (x::xs) H2
section
variable {X:Cx} {e:Expr} {es:List Expr} {te:TE} {t:TA} {pos:Pos}
theorem ag:PA X [] vN:=fun _ _ _ _ H Q I h=>Calls.spliced_nil ⟨[],H,I,.nil,h⟩
theorem ae (ha:PE X e te) (hr:PA X es t) (hs:starEach (e::es) X.env=(false,eval e X.env)::starEach es X.env:=by rfl):PA X (e::es) (qq te t):=by
 intro pos pins s σ H Q I h
 rw[hs]
 show wpAny _ _ (spliced ((false,eval e X.env)::backTo pos (starEach es X.env))) _ _ s
 refine Calls.spliced_cons (aE (ha pins s σ H _ I h) fun u s1 ⟨x,H1,I1,r1,q1⟩=>?_)
 exact aE (hr pos pins s1 σ H1 _ I1 q1) fun us s2 ⟨xs,H2,I2,r2,q2⟩=>⟨x::xs,H2,I2,.cons r1 r2,q2⟩
def OG (t:TA):TE:=fun σ H Q=>t σ H fun xs H1=>xs.length≤sizeLine∧∀p,H1 p=none→Q (.ref p) (upd H1 p (.tup xs))
def OH (t:TA):TE:=fun σ H Q=>t σ H fun xs H1=>xs.length≤sizeLine∧∀p,H1 p=none→Q (.ref p) (upd H1 p (.lst xs))
theorem bo {x1} (h:PA X es t):PE X (.Tuple es x1 pos) (OG t):=by
 intro pins s σ H Q I hq
 refine wpAny_Tuple_spliced (aE (h pos pins s σ H _ I hq) fun us s1 ⟨xs,H1,I1,r,z,q⟩=>⟨by rw[←r.length];exact z,?_⟩)
 have hf:H1 s1.heap.objs.size=none:=I1.hok.fresh (Nat.le_refl _)
 refine⟨.ref s1.heap.objs.size,upd H1 s1.heap.objs.size (.tup xs),I1.laid (t':=s1.toks) (fun b u e=>Heap.get?_push_of_some _ e) (Nat.le_refl _) ?_,rfl,q _ hf⟩
 exact⟨⟨z,_,Heap.get?_push_size _ rfl,rfl⟩,us,r,⟨_,Heap.get?_push_size _ rfl,rfl,_,rfl⟩⟩
theorem cD (h:PA X es t):PE X (.List es pos) (OH t):=by
 intro pins s σ H Q I hq
 refine wpAny_List_spliced (aE (h pos pins s σ H _ I hq) fun us s1 ⟨xs,H1,I1,r,z,q⟩=>⟨by rw[←r.length];exact z,?_⟩)
 have hf:H1 s1.heap.objs.size=none:=I1.hok.fresh (Nat.le_refl _)
 refine⟨.ref s1.heap.objs.size,upd H1 s1.heap.objs.size (.lst xs),I1.laid (t':=s1.toks) (fun b u e=>Heap.get?_push_of_some _ e) (Nat.le_refl _) ?_,rfl,q _ hf⟩
 exact⟨z,us,0,r,Heap.get?_push_size _ rfl⟩
end
abbrev Sp:=List V→Hp→VK→XK→Prop
abbrev o6:=List Env→Hp→Shared→XK→Value→Shared→Prop
structure pH (P:Program) (w:World) (K:PySem.W.Frag) (mg:Str→Option Value) (base:Heap) (A:Around) (outer:List Env) (s:Shared) (H:Hp):Prop where
 frames:A.frames=some outer
 mod:Mod K mg base
 bs:∀b o,base.get? b=some o→s.heap.get? b=some o∧H b=none
 m8:base.objs.size≤s.heap.objs.size
 g_:s.heap.FunFrames base outer
 tI:∀b∈frs outer,H b=none
 hok:cC P w H s.heap
 bare:AllBare s.gens
def CE (outer:List Env) (P:Program) (w:World) (H:Hp) (s:Shared) (Q:VK) (u:Value) (s':Shared):Prop:=
 ∃v H',s'.os=s.os∧AllBare s'.gens∧Un (frs outer) [] H H' s.heap s'.heap∧cC P w H' s'.heap∧RelV v u∧Q v H'
def CR (CX:o6) (outer:List Env) (P:Program) (w:World) (H:Hp) (s:Shared) (Q:VK) (E:XK) (r:Result) (s':Shared):Prop:=
 match r with
 | .ok (.ret u)=>CE outer P w H s Q u s'
 | .ok _=>False
 | .error e=>CX outer H s E e s'
structure aQ (P:Program) (w:World) (K:PySem.W.Frag) (mg:Str→Option Value) (base:Heap) (CX:o6) (k:Nat) (f:Addr) (fd:FuncData) (ps:List Str) (sp:Sp):Prop where
 len:∀vs H Q E,sp vs H Q E→vs.length=ps.length
 run:∀(A:Around) (outer:List Env) (s:Shared) (H:Hp) (args:Args) (us:List Value) (vs:List V) (Q:VK) (E:XK),aP k A→pH P w K mg base A outer s H→BindsTo s fd args (ps.zip us)→Vals vs us→sp vs H Q E→
  codeAny (model P w) A (.call (.ref f) args) (CR CX outer P w H s Q E) s
section
variable {X:Cx} {pins:List (Addr×Obj)} {σ:St} {H:Hp} {s s':Shared}
theorem Inv.env0 (I:Inv X pins σ H s):pH X.prog X.w X.K X.mg X.base X.A X.stack s H:=
 ⟨I.ok.frames,I.ok.mod,I.bs,Nat.le_trans I.ok.m8 I.sz,I.stack,I.kJ,I.hok,I.bare⟩
theorem Inv.after {Q:VK} {u:Value} (I:Inv X pins σ H s) (h:CE X.stack X.prog X.w H s Q u s'):EP X pins σ Q u s':=by
 obtain⟨v,H',os,bare,un,hok,r,q⟩:=h
 obtain⟨hh,g,d,t,os'⟩:=s'
 obtain rfl:os'=s.os:=os
 exact⟨v,H',I.call (h':=hh) (g':=g) (d':=d) (t':=t) (ch:=[]) un hok bare (fun b z=>absurd z (by simp)),r,q⟩
end
def LZ (sp:Sp) (qr:List V) (E:XK) (t:TA):TE:=fun σ H Q=>t σ H fun vs H1=>sp (vs++qr) H1 Q E
def Binds (K:PySem.W.Frag) (fd:FuncData) (ps:List Str) (ds:List Value):Prop:=
 ∀(s:Shared) (us:List Value),K.In s.heap→(us++ds).length=ps.length→BindsTo s fd ⟨us,[]⟩ (ps.zip (us++ds))
theorem Binds.all {K:PySem.W.Frag} {fd:FuncData} {ps:List Str} (h:∀us:List Value,us.length=ps.length→bindArgs fd ⟨us,[]⟩=pure (ps.zip us)):Binds K fd ps []:=fun s us _ hl=>by
 rw[List.append_nil] at hl ⊢
 exact .of_eq (h us hl)
def Passes (CX:o6) (X:Cx) (E:XK):Prop:=∀(pins:List (Addr×Obj)) (σ:St) (H:Hp) (s:Shared) (e:Value) (s':Shared),Inv X pins σ H s→CX X.stack H s E e s'→X.xe e s'
section
variable {X:Cx} {CX:o6} {k:Nat} {f C:Addr} {fd:FuncData} {ps:List Str} {sp:Sp} {qr:List V} {ds:List Value} {E:XK} {x m:Str} {p pos apos:Pos} {e o:Expr} {es:List Expr} {ta:TE} {t:TA}
theorem A8 {pins:List (Addr×Obj)} {σ:St} {H:Hp} {s:Shared} {Q:VK} {us:List Value} {vs:List V} (F:aQ X.prog X.w X.K X.mg X.base CX k f fd ps sp) (hr:aP k X.A) (hb:Binds X.K fd ps ds) (hd:Vals qr ds) (hx:Passes CX X E)
  (I:Inv X pins σ H s) (r:Vals vs us) (h:sp (vs++qr) H Q E):wpAny (model X.prog X.w) X.A (call (.ref f) us) (EP X pins σ Q) X.xe s:=by
 have r2:Vals (vs++qr) (us++ds):=r.append hd
 have hl:(us++ds).length=ps.length:=by rw[←r2.length];exact F.len _ _ _ _ h
 refine wpAny_call (codeAny_mono (F.run X.A X.stack s H ⟨us,[]⟩ (us++ds) (vs++qr) Q E hr I.env0 (hb s us I.gb hl) r2 h) fun r s' hq=>?_)
 cases r with
 | error e=>exact hx pins σ H s e s' I hq
 | ok fl=>
  cases fl with
  | ret u=>exact I.after hq
  | next=>exact False.elim hq
  | brk=>exact False.elim hq
  | cont=>exact False.elim hq
theorem aC (F:aQ X.prog X.w X.K X.mg X.base CX k f fd ps sp) (hr:aP k X.A) (hg:Gl X x) (hm:X.mg x=some (.ref f)) (hk:PySem.W.keepIn X.K (.ref f)=true) (hb:Binds X.K fd ps ds) (hd:Vals qr ds) (hx:Passes CX X E)
  (ha:PA X (e::es) t) (hdb:(x == ("__debug__":Str))=false:=by decide) (he:starEach (e::es) X.env=(false,eval e X.env)::starEach es X.env:=by rfl) (hpl:(backTo pos (starEach es X.env)).any (·.1)=false:=by rfl):
  PE X (.Call (.Name x p) (e::es) [] pos) (LZ sp qr E t):=by
 intro pins s σ H Q I h
 refine wpAny_Call_Name_kw (rE I hg hm ?_ hdb)
 refine PySem.W.callWith_K (h₀:=X.base) I.ok.mod.m7 hk (aE (ha pos pins s σ H _ I h) fun us s1 ⟨vs,H1,I1,r,q⟩=>⟨I1.gb,?_⟩) he hpl
 exact A8 F hr hb hd hx I1 r q
end
structure aO (N P:List Str) (sc:Scope):Prop where
 kind:sc.kind=.function
 co:sc.isCoroutine=false
 gen:sc.isGenerator=false
 nd:N.Nodup
 pre:N.take P.length=P
 par:∀x∈P,sc.names.lookup x=some .local∨sc.names.lookup x=some .cell
 HD:∀y∈sc.names,y.2≠.free
theorem tO {kindOf:Str→Option NameKind} {x:Str}:∀{binds:List (Str×Value)} {m:Str→Option Value},(∀v,(x,v) ∉ binds)→bindL kindOf binds m x=m x
 | [],_,_=>rfl
 | (n,v)::r,m,h=>by
  unfold bindL
  rw[tO fun w hw=>h w (List.mem_cons_of_mem _ hw)]
  split
  ·have:x≠n:=by rintro rfl;exact h v List.mem_cons_self
   simp[this]
  ·rfl
theorem tP {kindOf:Str→Option NameKind} {x:Str}:∀{binds:List (Str×Value)} {m:Str→Option Value},(∀v,(x,v) ∉ binds)→bindC kindOf binds m x=m x
 | [],_,_=>rfl
 | (n,v)::r,m,h=>by
  unfold bindC
  rw[tP fun w hw=>h w (List.mem_cons_of_mem _ hw)]
  split
  ·rfl
  ·have:x≠n:=by rintro rfl;exact h v List.mem_cons_self
   simp[this]
theorem tQ {kindOf:Str→Option NameKind} {x:Str} {v:Value}:∀{P:List Str} {vs:List Value} {i:Nat} {m:Str→Option Value},P.Nodup→P[i]? =some x→vs[i]? =some v→kindOf x=some .local→
  bindL kindOf (P.zip vs) m x=some v
 | [],_,_,_,_,h,_,_=>by simp at h
 | _::_,[],_,_,_,_,h,_=>by simp at h
 | p::P,w::vs,0,m,nd,h1,h2,hk=>by
  simp at h1 h2;subst h1;subst h2
  show bindL kindOf ((p,w)::P.zip vs) m p=_
  unfold bindL
  rw[tO fun v hv=>(List.nodup_cons.mp nd).1 (List.of_mem_zip hv).1,if_pos hk]
  simp
 | p::P,w::vs,i+1,m,nd,h1,h2,hk=>by
  show bindL kindOf ((p,w)::P.zip vs) m x=_
  unfold bindL
  exact tQ (i:=i) (List.nodup_cons.mp nd).2 (by simpa using h1) (by simpa using h2) hk
theorem tR {kindOf:Str→Option NameKind} {x:Str} {v:Value}:∀{P:List Str} {vs:List Value} {i:Nat} {m:Str→Option Value},P.Nodup→P[i]? =some x→vs[i]? =some v→kindOf x≠some .local→
  bindC kindOf (P.zip vs) m x=some v
 | [],_,_,_,_,h,_,_=>by simp at h
 | _::_,[],_,_,_,_,h,_=>by simp at h
 | p::P,w::vs,0,m,nd,h1,h2,hk=>by
  simp at h1 h2;subst h1;subst h2
  show bindC kindOf ((p,w)::P.zip vs) m p=_
  unfold bindC
  rw[tP fun v hv=>(List.nodup_cons.mp nd).1 (List.of_mem_zip hv).1,if_neg hk]
  simp
 | p::P,w::vs,i+1,m,nd,h1,h2,hk=>by
  show bindC kindOf ((p,w)::P.zip vs) m x=_
  unfold bindC
  exact tR (i:=i) (List.nodup_cons.mp nd).2 (by simpa using h1) (by simpa using h2) hk
def start (N:List Str) (vs:List V):St:=vs.map some++List.replicate (N.length-vs.length) none
def i4 (CX:o6) (P:Program) (w:World) (K:PySem.W.Frag) (mg:Str→Option Value) (base:Heap) (N:List Str) (qual:Str) (scope:Scope) (f:Addr) (cd:Value) (A:Around) (outer:List Env) (s:Shared) (H:Hp) (E:XK):Cx where
 prog:=P
 w:=w
 K:=K
 mg:=mg
 base:=base
 A:=A.deeper (envOfC qual scope s.heap.objs.size f cd)
 N:=N
 s₀:=s
 H₀:=H
 env:=envOfC qual scope s.heap.objs.size f cd
 outer:=outer
 stack:=envOfC qual scope s.heap.objs.size f cd::outer
 ex:=[]
 calm:=true
 fn:=fun _=>true
 pn:=[]
 xe:=fun e s'=>wpAny (model P w) (A.deeper (envOfC qual scope s.heap.objs.size f cd)) (leaving (envOfC qual scope s.heap.objs.size f cd) e) (fun _ s''=>CX outer H s E e s'') (fun e' s''=>CX outer H s E e' s'') s'
theorem fz {sc:Scope} {n:Nat} {x:Str} (h:sc.names.lookup x=some .cell):∃c,(cellsFrom n sc.names []).lookup x=some c:=by
 have q:=PySem.W.cellsFrom_some sc.names n [] (.inl h)
 exact Option.isSome_iff_exists.mp q
theorem tS {CX:o6} {P:Program} {w:World} {K:PySem.W.Frag} {mg:Str→Option Value} {base:Heap} {N ps:List Str} {qual:Str} {scope:Scope} {f:Addr} {cd:Value} {A:Around} {outer:List Env} {s s1:Shared} {H:Hp} {E:XK} {us:List Value} {vs:List V}
  (S:aO N ps scope) (hd:A.handled=none) (e0:pH P w K mg base A outer s H) (hl:vs.length=ps.length) (r:Vals vs us)
  (x:InCallC s s.heap.objs.size (bindL (envOfC qual scope s.heap.objs.size f cd).kindOf (ps.zip us) fun _=>none) (cellsFrom (s.heap.objs.size+1) scope.names []) (bindC (envOfC qual scope s.heap.objs.size f cd).kindOf (ps.zip us) fun _=>none) s1):
  Inv (i4 CX P w K mg base N qual scope f cd A outer s H E) [] (start N vs) H s1:=by
 have hpl:ps.length≤N.length:=by have:=congrArg List.length S.pre;rw[List.length_take] at this;omega
 obtain⟨h1,tk,rfl,hk⟩:=x.done
 have j0:∀b:Addr,b ∉ (i4 CX P w K mg base N qual scope f cd A outer s H E).ex:=fun b z=>absurd (show b∈([]:List Addr) from z) (by simp)
 refine⟨⟨e0.mod,S.kind,rfl,rfl,Nat.le_refl _,fun y z c h1 h2=>?_,fun y hy=>?_,fun y c _ h=>?_,fun _=>hd,Around.frames_deeper e0.frames,.inr ⟨rfl,rfl⟩,fun b z=>absurd z (j0 b),e0.bs,e0.m8,fun b _ _=>j0 b,fun b z=>absurd z (j0 b),e0.g_,e0.tI⟩,
  rfl,e0.bare,Un.kept hk,⟨_,x.toInCall.ns,fun i y v h1 h2 h3=>?_⟩,fun y c h=>⟨_,x.cell y c h⟩,e0.hok.fresh (Nat.le_refl _),fun y c h=>?_,fun p hp=>absurd (show p∈([]:List (Addr×Obj)) from hp) (by simp),e0.hok.kept hk,?_⟩
 ·exact name_of_addr x.apart (PySem.mem_of_lookup h1) (PySem.mem_of_lookup h2)
 ·have hy:scope.names.lookup y=some .cell∨scope.names.lookup y=some .free:=hy
  rcases hy with hy | hy
  ·exact fz hy
  ·exact absurd rfl (S.HD _ (PySem.mem_of_lookup hy))
 ·exact Nat.le_of_lt (x.above y c (PySem.mem_of_lookup h))
 ·have hi:i<vs.length:=by
   unfold start at h2
   by_cases hi:i<vs.length
   ·exact hi
   ·rw[List.getElem?_append_right (by simpa using hi)] at h2
    rw[List.getElem?_replicate] at h2
    split at h2<;>cases h2
  have ha:vs[i]? =some v:=by
   unfold start at h2
   rw[List.getElem?_append_left (by simpa using hi),List.getElem?_map] at h2
   cases e:vs[i]? with
   | none=>rw[e] at h2;cases h2
   | some a=>rw[e] at h2;cases h2;rfl
  obtain⟨u,hu,rv⟩:=r.get ha
  have hp:ps[i]? =some y:=by
   rw[←S.pre,List.getElem?_take_of_lt (by omega)];exact h1
  have yG:ps.Nodup:=by rw[←S.pre];exact S.nd.sublist (List.take_sublist _ _)
  refine⟨u,rv,?_⟩
  rcases S.par y (List.mem_of_getElem? hp) with k | k
  ·exact .inl ⟨k,tQ yG hp hu k⟩
  ·obtain⟨c,e⟩:=fz (n:=s.heap.objs.size+1) k
   refine .inr ⟨.inl k,c,e,?_⟩
   have q:=x.cell y c e
   rw[tR yG hp hu (by show scope.names.lookup y≠_;rw[k];decide)] at q
   exact q
 ·exact e0.hok.fresh (Nat.le_of_lt (x.above y c (PySem.mem_of_lookup h)))
 ·unfold start
  show _=N.length
  rw[List.length_append,List.length_map,List.length_replicate]
  omega
theorem E4 {CX:o6} {P:Program} {w:World} {K:PySem.W.Frag} {mg:Str→Option Value} {base:Heap} {k:Nat} {f:Addr} {name qual:Str} {params:Arguments} {body:List Stmt} {scope:Scope} {dV kV doc pm cdv ct oc:Value} {an od:Option Addr}
  {osl:Array (Option Value)} {N ps:List Str} {sp:Sp} (lk:K.lookup f=some ⟨oc,od,.func (PySem.W.fnOf name qual params body scope dV kV doc pm an cdv ct),osl⟩) (hcd:PySem.W.codeIn K cdv qual=true) (S:aO N ps scope)
  (len:∀vs H Q E,sp vs H Q E→vs.length=ps.length)
  (hbody:∀(A:Around) (outer:List Env) (s:Shared) (H:Hp) (vs:List V) (Q:VK) (E:XK),aP k (A.deeper (envOfC qual scope s.heap.objs.size f cdv))→sp vs H Q E→
   ∃t,jf (i4 CX P w K mg base N qual scope f cdv A outer s H E) body t∧t {nx:=fun _ H'=>Q .non H',rt:=Q} (start N vs) H):
  aQ P w K mg base CX (k+1) f (PySem.W.fnOf name qual params body scope dV kV doc pm an cdv ct) ps sp:=by
 refine⟨len,fun A outer s H args us vs Q E hr e0 hb r hsp=>?_⟩
 have hl:=len _ _ _ _ hsp
 have KX:K.In s.heap:=e0.mod.m7.keeps fun b o e=>(e0.bs b o e).1
 have lim:s.heap.NoLimit:=e0.mod.nolimit.keeps fun b o e=>(e0.bs b o e).1
 have hkind:∀y∈ps.zip us,scope.names.lookup y.1=some .local∨(scope.names.lookup y.1=some .cell∧((cellsFrom (s.heap.objs.size+1) scope.names []).lookup y.1).isSome=true):=fun⟨n,v⟩ hy=>by
  rcases S.par n (List.of_mem_zip hy).1 with q | q
  ·exact .inl q
  ·exact .inr ⟨q,PySem.W.cellsFrom_some _ _ _ (.inl q)⟩
 refine codeAny_call_function hr.depth (KX _ _ lk) rfl S.co S.gen rfl (PySem.W.codeRec_of KX hcd) (hb _ _ _ _ ?_)
 refine wpAny_newFunctionEnv_cells S.kind hkind fun env he s1 x=>?_
 subst he
 refine⟨lim.keeps x.toInCall.keep,codeAny_func ?_⟩
 obtain⟨t,ht,hq⟩:=hbody A outer s H vs Q E (hr.deeper _) hsp
 have I:Inv (i4 CX P w K mg base N qual scope f cdv A outer s H E) [] (start N vs) H s1:=tS S hr.hd e0 hl r x
 refine wpAny_mono (ht [] s1 (start N vs) H _ I hq) (fun fl s' hs=>?_) fun e s' hs=>hs
 have fin:∀{σ':St} {H':Hp} {v:V} {u:Value},Inv (i4 CX P w K mg base N qual scope f cdv A outer s H E) [] σ' H' s'→RelV v u→Q v H'→CE outer P w H s Q u s':=
  fun {σ' H' v u} J rv q=>⟨v,H',J.os,J.bare,J.base,J.hok,rv,q⟩
 cases fl with
 | ret u=>
  obtain⟨v,σ',H',J,rv,q⟩:=hs
  exact fin J rv q
 | next=>
  obtain⟨σ',H',J,q⟩:=hs
  exact fin (v:=V.non) (u:=Value.none) J rfl q
 | brk=>
  obtain⟨_,_,_,q⟩:=hs
  exact False.elim q
 | cont=>
  obtain⟨_,_,_,q⟩:=hs
  exact False.elim q
section
variable {X:Cx} {x:Str} {p pos:Pos} {e:Expr} {es:List Expr} {t:TA} {id T:String} {r:List V→Hp→VK→Prop}
def MX (r:List V→Hp→VK→Prop) (t:TA):TE:=fun σ H Q=>t σ H fun vs H1=>r vs H1 Q
theorem aG (hc:dm X (.builtin id) r) (hg:Gl X x) (hm:X.mg x=none) (hv:bootBuiltins x=some (.builtin id)) (ha:PA X (e::es) t) (hn:x≠"__name__":=by decide) (hdb:(x == ("__debug__":Str))=false:=by decide)
  (he:starEach (e::es) X.env=(false,eval e X.env)::starEach es X.env:=by rfl) (hpl:(backTo pos (starEach es X.env)).any (·.1)=false:=by rfl):PE X (.Call (.Name x p) (e::es) [] pos) (MX r t):=by
 intro pins s σ H Q I h
 refine wpAny_Call_Name_kw (gc I hg hm hv ?_ hn hdb)
 exact PyProof.Rows.callWith_builtin1 (aE (ha pos pins s σ H _ I h) fun us s1 ⟨vs,H1,I1,r1,q1⟩=>hc pins s1 σ H1 vs us Q I1 r1 q1) he hpl
theorem bC (hc:dm X (.type T) r) (hg:Gl X x) (hm:X.mg x=none) (hv:bootBuiltins x=some (.type T)) (ha:PA X (e::es) t) (hn:x≠"__name__":=by decide) (hdb:(x == ("__debug__":Str))=false:=by decide)
  (he:starEach (e::es) X.env=(false,eval e X.env)::starEach es X.env:=by rfl) (hpl:(backTo pos (starEach es X.env)).any (·.1)=false:=by rfl):PE X (.Call (.Name x p) (e::es) [] pos) (MX r t):=by
 intro pins s σ H Q I h
 refine wpAny_Call_Name_kw (gc I hg hm hv ?_ hn hdb)
 exact PyProof.Rows.callWith_type1 (aE (ha pos pins s σ H _ I h) fun us s1 ⟨vs,H1,I1,r1,q1⟩=>hc pins s1 σ H1 vs us Q I1 r1 q1) he hpl
end
end L2
namespace HT
open PySem PyProof.Rows
section
variable {prog:Program} {w:World} {A:Around} {E:Value→Shared→Prop} {s:Shared}
theorem Gn {t b:Addr} {vs ws:List Value} {Q:Value→Shared→Prop} (ht:IsTup s.heap t vs.toArray) (hb:IsTup s.heap b ws.toArray) (hv:vs≠[])
  (h1:ws=[]→Q (.ref t) s) (h2:ws≠[]→Q (.ref s.heap.objs.size) {s with heap:=s.heap.push {cls:=.type "tuple",data:=.seq (vs++ws).toArray}})
  (hsz:vs.length+ws.length≤sizeLine):wpAny (model prog w) A (binaryOp .Add (.ref t) (.ref b)) Q E s:=by
 obtain⟨⟨cls,dd,data,sl⟩,ho,hc,n,hd⟩:=id ht
 obtain⟨⟨cls2,dd2,data2,sl2⟩,ho2,hc2,n2,hd2⟩:=id hb
 simp only at hc hd hc2 hd2
 subst hc hd hc2 hd2
 have e:vs.toArray++ws.toArray=(vs++ws).toArray:=by simp
 by_cases hw:ws=[]
 ·exact concat_meets ⟨_,ho,rfl⟩ ⟨_,ho2,rfl⟩ noFill_tuple_add seq_tuple_add PySem.F.slot_tuple_add PySem.F.entry_tuple_add (PySem.F.args_tuple_add_2 _ _)
   (tuple_addW1 t b vs.toArray ws.toArray n n2 dd dd2 sl sl2 (by simpa using hv) (by simp[hw])) ⟨ho,ho2,h1 hw⟩
 ·refine concat_meets ⟨_,ho,rfl⟩ ⟨_,ho2,rfl⟩ noFill_tuple_add seq_tuple_add PySem.F.slot_tuple_add PySem.F.entry_tuple_add (PySem.F.args_tuple_add_2 _ _)
   (tuple_addW2 t b vs.toArray ws.toArray n n2 dd dd2 sl sl2 (by simpa using hv) (by simpa using hw) (by rw[List.size_toArray,List.size_toArray];exact hsz)) ⟨ho,ho2,?_⟩
  rw[e]
  exact h2 hw
def iU (n d:Nat):Option Int→Nat
 | none=>d
 | some v=>if v<0 then(v+(n:Int)).toNat else min v.toNat n
theorem Gp (n d k:Nat):iU n d (some (k:Int))=min k n:=by
 show(if(k:Int)<0 then((k:Int)+(n:Int)).toNat else min (k:Int).toNat n)=min k n
 rw[if_neg (by omega),Int.toNat_natCast]
end
end HT
namespace L2
open PySem PySem.Spec PyProof.Rows
abbrev TO:=St→Hp→(Option Int→Hp→Prop)→Prop
def PO (X:Cx) (e:Option Expr) (t:TO):Prop:=
 ∀(pins:List (Addr×Obj)) (s:Shared) (σ:St) (H:Hp) (Q:Option Int→Hp→Prop),Inv X pins σ H s→t σ H Q→
  wpAny (model X.prog X.w) X.A (evalPart e X.env) (fun u s'=>∃o H',Inv X pins σ H' s'∧IsPart u o∧Q o H') X.xe s
def Gq:TO:=fun _ H Q=>Q none H
def L_ (t:TE):TO:=fun σ H Q=>t σ H fun x H1=>∃i,x=.int i∧Q (some i) H1
theorem intsAre_of {ns:List Int}:∀{us:List Value},Vals (ns.map V.int) us→IntsAre us ns:=by
 induction ns with
 | nil=>intro us r;rw[List.map_nil] at r;cases r;exact .nil
 | cons n ns ih=>
  intro us r
  rw[List.map_cons] at r
  cases r with
  | cons r1 r2=>
   obtain⟨t,e⟩:=r1
   subst e
   exact .cons n t (ih r2)
section
variable {X:Cx} {e:Expr} {te:TE} {lo hi:Option Expr} {tl th:TO} {pos p2:Pos}
theorem ib:PO X none Gq:=by
 intro pins s σ H Q I h
 rw[evalPart_none]
 exact wpAny_pure ⟨none,H,I,.none,h⟩
theorem kN (h:PE X e te):PO X (some e) (L_ te):=by
 intro pins s σ H Q I hw
 rw[evalPart_some]
 refine aE (h pins s σ H _ I hw) fun u s1 ⟨x,H1,I1,r1,q1⟩=>?_
 obtain⟨i,rfl,q⟩:=q1
 obtain⟨t,rfl⟩:=r1
 exact⟨some i,H1,I1,.int i t,q⟩
def E5 (X:Cx) (r:V→Option Int→Option Int→Hp→VK→Prop):Prop:=
 ∀(pins:List (Addr×Obj)) (s:Shared) (σ:St) (H:Hp) (x:V) (v vl vu:Value) (lo hi:Option Int) (sl:Addr) (Q:VK),Inv X pins σ H s→RelV x v→s.heap.IsSliceOf sl vl vu .none→IsPart vl lo→IsPart vu hi→r x lo hi H Q→
  ∃T id,typeLookup (.type T) "__getitem__"=pure (some (.builtin id))∧s.TypeIs v T∧wpAny (model X.prog X.w) X.A (getItem v (.ref sl)) (EP X pins σ Q) X.xe s
def SO (r:V→Option Int→Option Int→Hp→VK→Prop) (te:TE) (tl th:TO):TE:=fun σ H Q=>te σ H fun x H1=>tl σ H1 fun l H2=>th σ H2 fun u H3=>r x l u H3 Q
theorem pI {r:V→Option Int→Option Int→Hp→VK→Prop} (hr:E5 X r) (he:PE X e te) (hl:PO X lo tl) (hu:PO X hi th):PE X (.Subscript e (.Slice lo hi none p2) pos) (SO r te tl th):=by
 intro pins s σ H Q I h
 refine Subscript_ (aE (he pins s σ H _ I h) fun v s1 ⟨x,H1,I1,r1,q1⟩=>?_)
 refine wpAny_Slice (aE (hl pins s1 σ H1 _ I1 q1) fun vl s2 ⟨l,H2,I2,pl,q2⟩=>aE (hu pins s2 σ H2 _ I2 q2) fun vu s3 ⟨u,H3,I3,pu,q3⟩=>?_)
 rw[evalPart_none]
 refine wpAny_pure ?_
 have I4:Inv X pins σ H3 {s3 with heap:=s3.heap.push {cls:=.type "slice",data:=.fields #[vl,vu,.none]}}:=I3.kept (t':=s3.toks) fun b ob q=>Heap.get?_push_of_some _ q
 obtain⟨T,id,hT,ht,hg⟩:=hr pins {s3 with heap:=s3.heap.push {cls:=.type "slice",data:=.fields #[vl,vu,.none]}} σ H3 x v vl vu l u s3.heap.objs.size Q I4 r1 (Heap.IsSliceOf.new ..) pl pu q3
 show wpAny (model X.prog X.w) X.A (subscriptTail e (.Slice lo hi none p2) v (.ref s3.heap.objs.size)) (EP X pins σ Q) X.xe {s3 with heap:=s3.heap.push {cls:=.type "slice",data:=.fields #[vl,vu,.none]}}
 exact tail_any (ops:=[.ref s3.heap.objs.size,v]) ht hT hg (by with_unfolding_all rfl)
def pJ (xs:List V) (lo hi:Option Int):List V:=(xs.drop (HT.iU xs.length 0 lo)).take (HT.iU xs.length xs.length hi-HT.iU xs.length 0 lo)
theorem yf (xs:List V) (lo hi:Option Int):(pJ xs lo hi).length≤xs.length:=by
 unfold pJ
 rw[List.length_take,List.length_drop]
 omega
def L0 (K:PySem.W.Frag):R2:=fun x y H Q=>∃a b xs ys,x=.ref a∧y=.ref b∧aU K H a xs∧aU K H b ys∧xs≠[]∧xs.length+ys.length≤sizeLine∧
 (ys=[]→Q (.ref a) H)∧(ys≠[]→∀p,H p=none→Q (.ref p) (upd H p (.tup (xs++ys))))
theorem Vals.rG {xs:List V} {us:List Value} (r:Vals xs us):us=[]↔xs=[]:=by
 cases r with
 | nil=>simp
 | cons _ _=>simp
theorem yH:cO X (binaryOp .Add) (L0 X.K):=by
 intro pins s σ H x y v u Q I rx ry h
 obtain⟨a,b,xs,ys,rfl,rfl,ha,hb,hx,hz,q1,q2⟩:=h
 cases rx
 cases ry
 obtain⟨its,r1,p1,_⟩:=I.tuple ha
 obtain⟨its2,r2,p2,_⟩:=I.tuple hb
 refine HT.Gn p1 p2 (fun z=>hx (r1.rG.mp z)) (fun z=>⟨.ref a,H,I,rfl,q1 (r2.rG.mp z)⟩) (fun z=>?_) (by rw[←r1.length,←r2.length];exact hz)
 refine⟨.ref s.heap.objs.size,_,I.laid (t':=s.toks) (o:=.tup (xs++ys)) (fun b ob q=>Heap.get?_push_of_some _ q) (Nat.le_refl _) ?_,rfl,q2 (fun w=>z (r2.rG.mpr w)) _ (I.hok.fresh (Nat.le_refl _))⟩
 exact⟨⟨by rw[List.length_append];exact hz,_,Heap.get?_push_size _ rfl,rfl⟩,_,r1.append r2,IsTup.new _ _⟩
end
def yI (n:Nat) (i:Int):Option Nat:=if 0≤i then(if i<n then some i.toNat else none) else if-(n:Int)≤i then some (i+n).toNat else none
def o7 {α:Type} (xs:List α) (i:Int):Option α:=(yI xs.length i).bind fun j=>xs[j]?
theorem Gr {n:Nat} {i:Int} {j:Nat} (h:yI n i=some j):seqIndex? i n=some j∧j<n∧ -(n:Int)≤i∧i<n:=by
 unfold yI at h
 by_cases h0:0≤i
 ·rw[if_pos h0] at h
  by_cases h1:i<n
  ·rw[if_pos h1] at h
   have e:i.toNat=j:=Option.some.inj h
   exact⟨by rw[seqIndex_of h0 h1,e],by omega,by omega,h1⟩
  ·rw[if_neg h1] at h;cases h
 ·rw[if_neg h0] at h
  by_cases h1: -(n:Int)≤i
  ·rw[if_pos h1] at h
   have e:(i+n).toNat=j:=Option.some.inj h
   exact⟨by rw[seqIndex_neg (by omega) h1,e],by omega,h1,by omega⟩
  ·rw[if_neg h1] at h;cases h
theorem rH {α:Type} {xs:List α} {i:Int} {v:α} (h:o7 xs i=some v):∃j,seqIndex? i xs.length=some j∧xs[j]? =some v∧j<xs.length∧ -(xs.length:Int)≤i∧i<xs.length:=by
 unfold o7 at h
 cases e:yI xs.length i with
 | none=>rw[e] at h;cases h
 | some j=>
  rw[e] at h
  obtain⟨h1,h2,h3,h4⟩:=Gr e
  exact⟨j,h1,h,h2,h3,h4⟩
theorem aD {α:Type} {xs:List α} {j:Nat} {v:α} (h:xs[j]? =some v):o7 xs (j:Int)=some v:=by
 have hj:j<xs.length:=(List.getElem?_eq_some_iff.mp h).1
 have e:yI xs.length (j:Int)=some j:=by
  unfold yI
  rw[if_pos (by omega),if_pos (by omega)];simp
 unfold o7;rw[e];exact h
def Gs (b:Expr):Prop:=∀o i,subscripted b false o i=operate [o,i] (getItem o i)
def yJ (X:Cx) (r:R2):Prop:=
 ∀(value slice:Expr) (pins:List (Addr×Obj)) (s:Shared) (σ:St) (H:Hp) (x y:V) (v u:Value) (Q:VK),Inv X pins σ H s→RelV x v→RelV y u→r x y H Q→
  subscripted slice false v u=operate [v,u] (getItem v u)→wpAny (model X.prog X.w) X.A (subscriptTail value slice v u) (EP X pins σ Q) X.xe s
def MY (X:Cx) (id:String) (r:V→List V→Hp→VK→Prop):Prop:=
 ∀(pins:List (Addr×Obj)) (s:Shared) (σ:St) (H:Hp) (x:V) (xs:List V) (v:Value) (us:List Value) (Q:VK),Inv X pins σ H s→RelV x v→Vals xs us→r x xs H Q→
  wpAny (model X.prog X.w) X.A (call (.builtin id) (v::us)) (EP X pins σ Q) X.xe s
section
variable {X:Cx} {a b:Expr} {ta tb:TE} {pos:Pos}
theorem aL {r:R2} (hr:yJ X r) (ha:PE X a ta) (hb:PE X b tb) (hs:Gs b):PE X (.Subscript a b pos) (EZ r ta tb):=by
 intro pins s σ H Q I h
 exact Subscript_ (Dw ha hb I h fun v u s2 x y H2 I2 rx ry q=>hr a b pins s2 σ H2 x y v u Q I2 rx ry q (hs _ _))
def HE (K:PySem.W.Frag):R2:=fun x y H Q=>∃p xs i v,x=.ref p∧y=.int i∧bp K H p xs∧o7 xs i=some v∧Q v H
def HF (K:PySem.W.Frag):R2:=fun x y H Q=>∃p xs i v,x=.ref p∧y=.int i∧aU K H p xs∧o7 xs i=some v∧Q v H
def OI:R2:=fun x y H Q=>∃z i c,x=.str z∧y=.int i∧z.length≤sizeLine∧o7 z.cps.toList i=some c∧Q (.str ⟨#[c]⟩) H
theorem Gu:yJ X (HE X.K):=by
 intro value slice pins s σ H x y v u Q I rx ry h hs
 obtain⟨p,xs,i,z,rfl,rfl,hq,he,q⟩:=h
 cases rx
 obtain⟨t,rfl⟩:=ry
 obtain⟨its,r,pl,hz⟩:=I.list hq
 obtain⟨j,h1,h2,h3,h4,h5⟩:=rH he
 obtain⟨w,ew,jE⟩:=r.get h2
 have hl:=r.length
 have hn:=nq
 have fin:EP X pins σ Q w s:=⟨z,H,I,jE,q⟩
 by_cases h0:0≤i
 ·have hj:i.toNat=j:=by
   rw[seqIndex_of h0 h5] at h1
   exact Option.some.inj h1
  exact item_listR pl.isList h0 (by omega) (by rw[hj];simpa using ew) fin hs
 ·have hj:(i+(its.toArray.size:Int)).toNat=j:=by
   rw[seqIndex_neg (by omega) h4] at h1
   rw[List.size_toArray,←hl]
   exact Option.some.inj h1
  exact subscriptTail_builtinR (x:=w) pl.isList.typeIs slot_list_getitem.lookup
   (wpAny_getItem_list_neg (Q:=fun r s'=>r=w∧EP X pins σ Q r s') pl.isList (by omega) (by rw[List.size_toArray]<;>omega) (by omega) (by rw[hj];simpa using ew) ⟨rfl,fin⟩) hs
theorem HG:yJ X (HF X.K):=by
 intro value slice pins s σ H x y v u Q I rx ry h hs
 obtain⟨p,xs,i,z,rfl,rfl,hq,he,q⟩:=h
 cases rx
 obtain⟨t,rfl⟩:=ry
 obtain⟨its,r,pl,hz⟩:=I.tuple hq
 obtain⟨j,h1,h2,h3,h4,h5⟩:=rH he
 obtain⟨w,ew,jE⟩:=r.get h2
 have hl:=r.length
 have hn:=nq
 have fin:EP X pins σ Q w s:=⟨z,H,I,jE,q⟩
 exact subscriptTail_builtinR (x:=w) pl.typeIs slot_tuple_getitem.lookup
  (getItem_tuple (j:=j) (Q:=fun r s'=>r=w∧EP X pins σ Q r s') pl (by omega) (by omega) (by rw[List.size_toArray,←hl];exact h1) (by simpa using ew) ⟨rfl,fin⟩) hs
theorem A9:yJ X OI:=by
 intro value slice pins s σ H x y v u Q I rx ry h hs
 obtain⟨z,i,c,rfl,rfl,hz,he,q⟩:=h
 obtain⟨t,rfl⟩:=rx
 obtain⟨t',rfl⟩:=ry
 obtain⟨j,h1,h2,h3,h4,h5⟩:=rH he
 have hl:z.cps.toList.length=z.length:=by simp[Str.length]
 rw[hl] at h1 h4 h5
 have hn:=nq
 exact tail_any (typeIs_str s z t) slot_str_getitem.lookup (getItem_str (c:=c) (by
  have e1:decide (i< -(2 ^ 63:Int))=false:=decide_eq_false (by omega)
  have e2:decide (i ≥ 2 ^ 63)=false:=decide_eq_false (by omega)
  rw[e1,e2,Bool.or_false]) (by rw[h1];simpa using h2) ⟨.str ⟨#[c]⟩,H,I.tok _,⟨_,rfl⟩,q⟩) hs
theorem vO (lo hi:Option Int) (n:Nat):(sliceBounds lo hi none n).1=((HT.iU n 0 lo:Nat):Int)∧(sliceBounds lo hi none n).2.1=((HT.iU n n hi:Nat):Int)∧(sliceBounds lo hi none n).2.2=1:=by
 refine⟨?_,?_,rfl⟩
 ·cases lo with
  | none=>simp[sliceBounds,HT.iU]
  | some i=>
   simp only[sliceBounds,HT.iU,Option.getD_none,show(1:Int)>0 by decide,if_true]
   by_cases h:i<0
   ·simp only[h,if_true]<;>omega
   ·simp only[h,if_false]<;>omega
 ·cases hi with
  | none=>simp[sliceBounds,HT.iU]
  | some i=>
   simp only[sliceBounds,HT.iU,Option.getD_none,show(1:Int)>0 by decide,if_true]
   by_cases h:i<0
   ·simp only[h,if_true]<;>omega
   ·simp only[h,if_false]<;>omega
theorem uE (its:List Value) (lo hi:Option Int):slicePick its.toArray lo hi none=((its.drop (HT.iU its.length 0 lo)).take (HT.iU its.length its.length hi-HT.iU its.length 0 lo)).toArray:=by
 obtain⟨h1,h2,h3⟩:=vO lo hi its.toArray.size
 unfold slicePick
 rw[h1,h2,h3]
 simp only[sliceRange_one,pick_run,List.size_toArray]<;>rfl
def HH (K:PySem.W.Frag):V→Option Int→Option Int→Hp→VK→Prop:=fun x lo hi H Q=>∃a xs,x=.ref a∧bp K H a xs∧∀p,H p=none→Q (.ref p) (upd H p (.lst (pJ xs lo hi)))
theorem Gv:E5 X (HH X.K):=by
 intro pins s σ H x v vl vu lo hi sl Q I rx hs pl pu h
 obtain⟨a,xs,rfl,hx,q⟩:=h
 cases rx
 obtain⟨its,r,ht,hz⟩:=I.list hx
 have hlen:=r.length
 refine⟨"list",_,slot_list_getitem.lookup,ht.isList.typeIs,?_⟩
 refine wpAny_getItem_list_slice ht.isList hs pl pu .none (by simp) ?_ (by rw[List.size_toArray]<;>omega)
 rw[uE,←hlen]
 refine⟨.ref s.heap.objs.size,_,I.laid (t':=s.toks) (o:=.lst (pJ xs lo hi)) (fun b ob q=>Heap.get?_push_of_some _ q) (Nat.le_refl _) ?_,rfl,q _ (I.hok.fresh (Nat.le_refl _))⟩
 exact⟨Nat.le_trans (yf xs lo hi) hz,_,0,(r.drop (HT.iU xs.length 0 lo)).take (HT.iU xs.length xs.length hi-HT.iU xs.length 0 lo),Heap.get?_push_size _ rfl⟩
def g6:V→Bool
 | .non=>true
 | .bl _=>true
 | .int _=>true
 | .str _=>true
 | _=>false
def kO:V→V→Bool
 | .non,.non=>true
 | .bl a,.bl b=>a == b
 | .bl a,.int b=>(if a then 1 else 0) == b
 | .int a,.bl b=>a == (if b then 1 else 0)
 | .int a,.int b=>a == b
 | .str a,.str b=>a == b
 | _,_=>false
theorem A' {A:Around} {s:Shared} {y x:V} {u v:Value} (ry:RelV y u) (rx:RelV x v) (fy:g6 y=true) (fx:g6 x=true):SeqAt.EqAt A s u v (kO y x):=by
 cases y with
 | non=>
  cases ry
  cases x with
  | non=>cases rx;exact SeqAt.EqAt.same _
  | bl b=>cases rx;exact SeqAt.EqAt.none_bool b
  | int b=>obtain⟨t,rfl⟩:=rx;exact SeqAt.EqAt.none_int b t
  | str b=>obtain⟨t,rfl⟩:=rx;exact SeqAt.EqAt.none_str b t
  | _=>exact absurd (show false=true from fx) Bool.false_ne_true
 | bl a=>
  cases ry
  cases x with
  | non=>cases rx;exact SeqAt.EqAt.bool_none a
  | bl b=>cases rx;exact SeqAt.EqAt.bool_bool a b
  | int b=>obtain⟨t,rfl⟩:=rx;exact SeqAt.EqAt.bool_int a b t
  | str b=>obtain⟨t,rfl⟩:=rx;exact SeqAt.EqAt.bool_str a b t
  | _=>exact absurd (show false=true from fx) Bool.false_ne_true
 | int a=>
  obtain⟨t',rfl⟩:=ry
  cases x with
  | non=>cases rx;exact SeqAt.EqAt.int_none a t'
  | bl b=>cases rx;exact SeqAt.EqAt.int_bool a t' b
  | int b=>obtain⟨t,rfl⟩:=rx;exact SeqAt.EqAt.int_int a t' b t
  | str b=>obtain⟨t,rfl⟩:=rx;exact SeqAt.EqAt.int_str a t' b t
  | _=>exact absurd (show false=true from fx) Bool.false_ne_true
 | str a=>
  obtain⟨t',rfl⟩:=ry
  cases x with
  | non=>cases rx;exact SeqAt.EqAt.str_none a t'
  | bl b=>cases rx;exact SeqAt.EqAt.str_bool a t' b
  | int b=>obtain⟨t,rfl⟩:=rx;exact SeqAt.EqAt.str_int a t' b t
  | str b=>obtain⟨t,rfl⟩:=rx;exact SeqAt.EqAt.str_str a t' b t
  | _=>exact absurd (show false=true from fx) Bool.false_ne_true
 | _=>exact absurd (show false=true from fy) Bool.false_ne_true
def qt (x:V) (u:Value):Bool:=match u with
 | .none=>kO .non x
 | .bool b=>kO (.bl b) x
 | .int i _=>kO (.int i) x
 | .str z _=>kO (.str z) x
 | _=>false
theorem Ba {x y:V} {u:Value} (r:RelV y u) (f:g6 y=true):qt x u=kO y x:=by
 cases y with
 | non=>cases r;rfl
 | bl b=>cases r;rfl
 | int i=>obtain⟨t,rfl⟩:=r;rfl
 | str z=>obtain⟨t,rfl⟩:=r;rfl
 | _=>exact absurd (show false=true from f) Bool.false_ne_true
theorem rJ {x:V}:∀{xs:List V} {us:List Value},Vals xs us→xs.all g6=true→us.any (qt x)=xs.any fun y=>kO y x
 | _,_,.nil,_=>rfl
 | y::xs,u::us,.cons r t,f=>by
  rw[List.all_cons,Bool.and_eq_true] at f
  rw[List.any_cons,List.any_cons,Ba r f.1,rJ t f.2]
theorem pK {A:Around} {s:Shared} {x:V} {v:Value} (rx:RelV x v) (fx:g6 x=true):∀{xs:List V} {us:List Value},Vals xs us→xs.all g6=true→∀u∈us,SeqAt.EqAt A s u v (qt x u)
 | _,_,.nil,_=>fun u hu=>by cases hu
 | y::xs,u::us,.cons r t,f=>fun u' hu=>by
  rw[List.all_cons,Bool.and_eq_true] at f
  rcases List.mem_cons.mp hu with rfl | hu
  ·rw[Ba r f.1];exact A' r rx f.1 fx
  ·exact pK rx fx t f.2 u' hu
def inV (x:V) (xs:List V):Bool:=xs.any fun y=>kO y x
def MZ (K:PySem.W.Frag) (neg:Bool):R2:=fun x y H Q=>∃p xs,y=.ref p∧(bp K H p xs∨aU K H p xs)∧g6 x=true∧xs.all g6=true∧Q (.bl (if neg then !inV x xs else inV x xs)) H
theorem Bb:cO X (compareOp .In) (MZ X.K false):=by
 intro pins s σ H x y v u Q I rx ry h
 obtain⟨p,xs,rfl,hq,fx,fs,q⟩:=h
 cases ry
 rcases hq with hq | hq
 ·obtain⟨its,r,pl,hz⟩:=I.list hq
  refine SeqAt.in_listAt (qt x) pl.isList (fun w hw=>pK rx fx r fs w (by simpa using hw)) ⟨.bl _,H,I,rfl,?_⟩
  rw[show its.toArray.any (qt x)=its.any (qt x) by simp,rJ r fs]
  exact q
 ·obtain⟨its,r,pl,hz⟩:=I.tuple hq
  refine SeqAt.in_tupleAt (qt x) pl (fun w hw=>pK rx fx r fs w (by simpa using hw)) ⟨.bl _,H,I,rfl,?_⟩
  rw[show its.toArray.any (qt x)=its.any (qt x) by simp,rJ r fs]
  exact q
theorem uF:dm X (.type "tuple") (fun xs H Q=>∃p ys,xs=[.ref p]∧((bp X.K H p ys∧∀l,H l=none→Q (.ref l) (upd H l (.tup ys)))∨(aU X.K H p ys∧Q (.ref p) H))):=by
 intro pins s σ H xs us Q I r h
 obtain⟨p,ys,rfl,h⟩:=h
 obtain⟨u,rfl,rx⟩:=vals1 r
 cases rx
 rcases h with⟨hq,q⟩ | ⟨hq,q⟩
 ·obtain⟨its,r',pl,hz⟩:=I.list hq
  have hlen:=r'.length
  refine call_tuple_list pl.isList (fun h' kp=>?_) (by simp only[List.size_toArray]<;>omega)
  have I1:Inv X pins σ H {s with heap:=h'}:=I.kept (t':=s.toks) kp
  have I2:Inv X pins σ (upd H h'.objs.size (.tup ys)) {s with heap:=h'.push {cls:=.type "tuple",data:=.seq its.toArray}}:=
   I1.laid (t':=s.toks) (fun b o e=>Heap.get?_push_of_some _ e) (Nat.le_refl _) (show bq X.prog X.w _ _ _ (.tup ys) from⟨⟨hz,_,Heap.get?_push_size _ rfl,rfl⟩,its,r',IsTup.new _ _⟩)
  exact⟨.ref h'.objs.size,_,I2,rfl,q _ (I1.hok.fresh (Nat.le_refl _))⟩
 ·obtain⟨its,r',pl,hz⟩:=I.tuple hq
  exact call_tuple_same pl ⟨.ref p,H,I,rfl,q⟩
def HI (K:PySem.W.Frag) (T:String) (x:V) (H:Hp):Prop:=match x with
 | .str _=>T="str"
 | .int _=>T="int"
 | .ref p=>(T="list"∧∃xs,bp K H p xs)∨(T="tuple"∧∃o,K.lookup p=some o∧o.cls=.type "tuple"∧o.dict=none)∨
   (T="dict"∧((∃kvs,H p=some (.dK kvs))∨∃kvs,H p=some (.dT kvs)))∨(T="set"∧∃S n,H p=some (.set S n))
 | _=>False
theorem Bc {pins:List (Addr×Obj)} {σ:St} {H:Hp} {s:Shared} {T:String} {x:V} {v:Value} (I:Inv X pins σ H s) (r:RelV x v) (ty:HI X.K T x H):
  s.TypeIs v T∧∀a,v=.ref a→∃ob,s.heap.get? a=some ob∧ob.dict=none:=by
 cases x with
 | str z=>
  obtain⟨t,rfl⟩:=r
  cases(show T="str" from ty)
  exact⟨typeIs_str s z t,fun _ e=>nomatch e⟩
 | int i=>
  obtain⟨t,rfl⟩:=r
  cases(show T="int" from ty)
  exact⟨typeIs_int s i t,fun _ e=>nomatch e⟩
 | ref p=>
  cases r
  rcases ty with⟨rfl,xs,hq⟩ | ⟨rfl,o,hk,hc,hd⟩ | ⟨rfl,hk⟩ | ⟨rfl,S,n,hk⟩
  ·obtain⟨its,_,pl,_⟩:=I.list hq
   refine⟨pl.isList.typeIs,fun a e=>?_⟩
   cases e
   obtain⟨o,n,e,c,hd,_⟩:=pl
   exact⟨o,e,hd⟩
  ·refine⟨⟨o,I.gb p o hk,hc⟩,fun a e=>?_⟩
   cases e
   exact⟨o,I.gb _ o hk,hd⟩
  ·have z:∃o,s.heap.get? p=some o∧o.ExactDict:=by
    rcases hk with⟨kvs,hk⟩ | ⟨kvs,hk⟩
    ·obtain⟨_,_,_,_,o,_,_,e,ex,_⟩:=I.hok p _ hk
     exact⟨o,e,ex⟩
    ·obtain⟨_,_,_,_,o,_,_,e,ex,_⟩:=I.hok p _ hk
     exact⟨o,e,ex⟩
   obtain⟨o,e,ex⟩:=z
   refine⟨⟨o,e,ex.1⟩,fun a e2=>?_⟩
   cases e2
   exact⟨o,e,ex.2.1⟩
  ·obtain⟨o,_,_,_,e,ex,_⟩:=I.hok p _ hk
   refine⟨⟨o,e,ex.1⟩,fun a e2=>?_⟩
   cases e2
   exact⟨o,e,ex.2.1⟩
 | _=>exact False.elim ty
def OJ (K:PySem.W.Frag) (T:String) (r:V→List V→Hp→VK→Prop) (to:TE):TE:=fun σ H Q=>to σ H fun x H1=>HI K T x H1∧r x [] H1 Q
def SQ (K:PySem.W.Frag) (T:String) (r:V→List V→Hp→VK→Prop) (to:TE) (t:TA):TE:=fun σ H Q=>to σ H fun x H1=>HI K T x H1∧t σ H1 fun xs H2=>r x xs H2 Q
variable {o e:Expr} {es:List Expr} {to:TE} {t:TA} {name:Str} {apos cpos:Pos} {T id:String} {r:V→List V→Hp→VK→Prop}
theorem Bd (pa:PlainAttrs T) (slot:Slot T name id) (hty:typeOf (.builtin id)=pure (.type "method_descriptor")) (hm:MY X id r) (ho:PE X o to)
  (hbase:attributeBase o name X.env (eval o X.env)=eval o X.env:=by rfl) (hline:(apos.endLine == cpos.line)=true:=by rfl):PE X (.Call (.Attribute o name apos) [] [] cpos) (OJ X.K T r to):=by
 intro pins s σ H Q I h
 refine wpAny_Call_method0_late hbase hline (aE (ho pins s σ H _ I h) fun v s1 ⟨x,H1,I1,r1,ty,q1⟩=>?_)
 obtain⟨h1,h2⟩:=Bc I1 r1 ty
 exact⟨T,id,pa,slot,hty,h1,h2,Calls.callWith_builtin rfl (PySem.evalArgs_none (hm pins s1 σ H1 x [] v [] Q I1 r1 .nil q1))⟩
theorem eO (pa:PlainAttrs T) (slot:Slot T name id) (hty:typeOf (.builtin id)=pure (.type "method_descriptor")) (hm:MY X id r) (ho:PE X o to) (ha:PA X (e::es) t)
  (hbase:attributeBase o name X.env (eval o X.env)=eval o X.env:=by rfl)
  (hfew:((backTo cpos (starEach (e::es) X.env)).all (fun x=> !x.1)&&(backToKw cpos (keywordEach [] X.env)).all (fun x=>x.1.isSome)
   &&decide ((e::es).length+([]:List Keyword).length+(if([]:List Keyword).isEmpty then 0 else 1)<30))=true:=by rfl)
  (hline:(apos.endLine == cpos.line)=true:=by rfl) (hs:starEach (e::es) X.env=(false,eval e X.env)::starEach es X.env:=by rfl) (hplain:(backTo cpos (starEach es X.env)).any (·.1)=false:=by rfl):
  PE X (.Call (.Attribute o name apos) (e::es) [] cpos) (SQ X.K T r to t):=by
 intro pins s σ H Q I h
 refine wpAny_Call_method_late hbase hfew hline rfl (aE (ho pins s σ H _ I h) fun v s1 ⟨x,H1,I1,r1,ty,q1⟩=>?_)
 obtain⟨h1,h2⟩:=Bc I1 r1 ty
 refine⟨T,id,pa,slot,hty,h1,h2,?_⟩
 have hA:=ha cpos pins s1 σ H1 _ I1 q1
 rw[hs] at hA ⊢
 refine Calls.callWith_builtin (by show(false||(backTo cpos (starEach es X.env)).any (·.1))=false;rw[hplain]<;>rfl) (Calls.evalArgs_plain ?_)
 exact aE hA fun us s2 ⟨vs,H2,I2,r2,q2⟩=>hm pins s2 σ H2 x vs v us Q I2 r1 r2 q2
end
def yK (X:Cx) (id:String) (r:V→List V→Hp→VK→Prop):Prop:=
 ∀(pins:List (Addr×Obj)) (s:Shared) (σ:St) (H:Hp) (x:V) (xs:List V) (v:Value) (us:List Value) (Q:VK),Inv X pins σ H s→RelV x v→Vals xs us→r x xs H Q→
  wpAny (model X.prog X.w) X.A (call (.builtin id) (v::us)) (EP X pins σ Q) X.xe s
theorem Vals.one:∀{x:V} {us:List Value},Vals [x] us→∃u,us=[u]∧RelV x u
 | _,_,.cons r .nil=>⟨_,rfl,r⟩
theorem Vals.zero:∀{us:List Value},Vals [] us→us=[]
 | _,.nil=>rfl
theorem Vals.dropLast {xs:List V} {us:List Value} (h:Vals xs us):Vals xs.dropLast us.dropLast:=by
 induction h with
 | nil=>exact .nil
 | cons r t ih=>
  cases t with
  | nil=>exact .nil
  | cons q t'=>exact .cons r ih
theorem zO {α:Type} (l:List α):l.eraseIdx (l.length-1)=l.dropLast:=by
 induction l with
 | nil=>rfl
 | cons a r ih=>
  cases r with
  | nil=>rfl
  | cons b r=>
   have e:(a::b::r).length-1=((b::r).length-1)+1:=by
    have h1:(a::b::r).length=r.length+2:=rfl
    have h2:(b::r).length=r.length+1:=rfl
    omega
   rw[e,List.eraseIdx_cons_succ,ih]
   all_goals rfl
section
variable {X:Cx} {pins:List (Addr×Obj)} {σ:St} {H:Hp} {s:Shared} {l b:Addr} {xs ys zs:List V}
theorem Inv.zP {its its':List Value} {n:Nat} {f:Array Value→Array Value} {t':Nat} (I:Inv X pins σ H s) (hH:H l=some (.lst xs))
  (e:s.heap.get? l=some {cls:=.type "list",data:=.seq its.toArray n}) (hf:f its.toArray=its'.toArray) (hv:Vals ys its') (hz:ys.length≤sizeLine):
  Inv X pins σ (upd H l (.lst ys)) {s with heap:=s.heap.update l (Obj.mapSeq f),toks:=t'}:=by
 have q:=PySem.IsL.update e f
 rw[hf] at q
 refine I.write (x:=l) (e:=l) (by rw[hH];exact trivial) (.inl rfl) (fun b' u hb hu=>(Heap.get?_update_other s.heap (Obj.mapSeq f) (Ne.symm hb)).trans hu) ⟨_,q⟩ ?_
 exact⟨hz,its',_,hv,q⟩
theorem Inv.OL {its:List Value} {t':Nat} (I:Inv X pins σ H s) (hv:Vals ys its) (hz:ys.length≤sizeLine):
  Inv X pins σ (upd H s.heap.objs.size (.lst ys)) {s with heap:=s.heap.push {cls:=.type "list",data:=.seq its.toArray},toks:=t'}:=
 I.laid (fun _ _ q=>Heap.get?_push_of_some _ q) (Nat.le_refl _) ⟨hz,its,0,hv,Heap.get?_push_size _ rfl⟩
theorem Inv.fresh (I:Inv X pins σ H s):H s.heap.objs.size=none:=I.hok.fresh (Nat.le_refl _)
theorem Inv.vP (I:Inv X pins σ H s) (hH:H l=some (.lst xs)):xs.length≤sizeLine∧∃(its:List Value) (n:Nat),Vals xs its∧xs.length=its.length∧s.heap.get? l=some {cls:=.type "list",data:=.seq its.toArray n}:=by
 obtain⟨z,its,n,r,e⟩:=I.hok l _ hH
 exact⟨z,its,n,r,r.length,e⟩
theorem vQ {n:Nat} (h:n≤sizeLine):Builtin.List.listTooLong n=false:=by
 unfold Builtin.List.listTooLong
 exact decide_eq_false (by omega)
end
section
variable {X:Cx}
def Gw:V→List V→Hp→VK→Prop:=fun x vs H Q=>∃l xs y,x=.ref l∧vs=[y]∧H l=some (.lst xs)∧xs.length<sizeLine∧Q .non (upd H l (.lst (xs++[y])))
theorem cV:yK X "list.append" Gw:=by
 intro pins s σ H x vs v us Q I rx rv h
 obtain⟨l,xs,y,rfl,rfl,hH,hz,q⟩:=h
 cases rx
 obtain⟨u,rfl,ru⟩:=rv.one
 obtain⟨z,its,n,r,hl,e⟩:=I.vP hH
 refine call_meets F.slot_list_append ⟨_,e,rfl⟩ F.entry_list_append (F.args_list_append_2 _ _) (PySem.list_append l its.toArray n u (by rw[List.size_toArray];omega)) ⟨e,?_⟩
 refine⟨.non,_,I.zP (its':=its++[u]) hH e (by simp) (r.append (.cons ru .nil)) ?_,rfl,q⟩
 rw[List.length_append,List.length_singleton]
 omega
def Gx:V→List V→Hp→VK→Prop:=fun x vs H Q=>∃l b xs zs,x=.ref l∧vs=[.ref b]∧H l=some (.lst xs)∧H b=some (.lst zs)∧xs.length+zs.length≤sizeLine∧Q .non (upd H l (.lst (xs++zs)))
theorem nr:yK X "list.extend" Gx:=by
 intro pins s σ H x vs v us Q I rx rv h
 obtain⟨l,b,xs,zs,rfl,rfl,hH,hB,hz,q⟩:=h
 cases rx
 obtain⟨u,rfl,ru⟩:=rv.one
 cases ru
 obtain⟨z,its,n,r,hl,e⟩:=I.vP hH
 obtain⟨z2,its2,n2,r2,hl2,e2⟩:=I.vP hB
 have hsz:its.toArray.size+its2.toArray.size≤sizeLine:=by rw[List.size_toArray,List.size_toArray];omega
 have zQ:¬(!its.toArray.isEmpty&&Builtin.List.listTooLong (its.toArray.size+its2.toArray.size))=true:=by
  rw[vQ hsz,Bool.and_false]
  exact Bool.false_ne_true
 refine call_meets F.slot_list_extend ⟨_,e,rfl⟩ F.entry_list_extend (F.args_list_extend_2 _ _)
  (AutoSeq1.list_extend_list_list_0 l its.toArray n b its2.toArray n2 zQ (by rw[List.size_toArray];omega) (by omega)) ⟨e,e2,?_⟩
 refine⟨.non,_,I.zP (its':=its++its2) hH e (by simp) (r.append r2) ?_,rfl,q⟩
 rw[List.length_append]
 omega
def OM:V→List V→Hp→VK→Prop:=fun x vs H Q=>∃l xs y,x=.ref l∧vs=[]∧H l=some (.lst xs)∧xs[xs.length-1]? =some y∧Q y (upd H l (.lst xs.dropLast))
theorem Be:yK X "list.pop" OM:=by
 intro pins s σ H x vs v us Q I rx rv h
 obtain⟨l,xs,y,rfl,rfl,hH,hy,q⟩:=h
 cases rx
 have hus:=rv.zero
 subst hus
 obtain⟨z,its,n,r,hl,e⟩:=I.vP hH
 obtain⟨u,hu,ru⟩:=r.get hy
 have hy':its.toArray[its.toArray.size-1]? =some u:=by
  show its.toArray[its.length-1]? =some u
  rw[←Array.getElem?_toList,←hl]
  exact hu
 refine call_meets F.slot_list_pop ⟨_,e,rfl⟩ F.entry_list_pop (F.args_list_pop_1 _) (MeetsSeq.list_pop_last l its.toArray n u hy' (by rw[List.size_toArray];omega)) ⟨e,?_⟩
 refine⟨y,_,I.zP (its':=its.dropLast) hH e ?_ r.dropLast ?_,ru,q⟩
 ·show its.toArray.eraseIdxIfInBounds (its.toArray.size-1)=its.dropLast.toArray
  rw[List.size_toArray,List.eraseIdxIfInBounds_toArray,zO]
 ·rw[List.length_dropLast]
  omega
end
end L2
namespace M_
open PySem PySem.W PySem.Calls PyProof.Rows
theorem qu {P:Params} {h:Heap}:∀(ns:List Int) (vs:List Value),WellAll P h vs (ns.map WData.int)→IntsAre vs ns:=by
 intro ns
 induction ns with
 | nil=>
  intro vs w
  rw[List.map_nil] at w
  cases w
  exact .nil
 | cons n ns ih=>
  intro vs w
  rw[List.map_cons] at w
  cases w with
  | cons a b=>
   cases a
   exact .cons _ _ (ih _ b)
theorem Bf {l:OpenLaw} {n:Nat} (hn:l.most=some n) {P:Params} {h:Heap} {args:List WData} {vals:List Value}
  (hpre:l.row.toRowW.claim.pre args=true) (hwl:WellAll P h vals args):
  ∃a vs ns,vals=[Value.ref a]∧args=[WData.list (ns.map WData.int)]∧h.get? a=some {cls:=.type "list",data:=.seq vs.toArray}∧IntsAre vs ns∧ns.length≤n:=by
 have hsh:WShape.hasAll [] args [.list .int]=true:=(pre_splitW hpre).1
 have hc:l.pre.holds [] {args:=args}=true:=(pre_splitW hpre).2
 obtain⟨d,r,rfl,h1,h2⟩:=hasAllW_cons hsh
 obtain rfl:=hasAllW_nil h2
 obtain⟨xs,rfl,h3⟩:=hasW_list h1
 obtain⟨ns,rfl⟩:=items_int h3
 have hlen:ns.length≤n:=by
  unfold OpenLaw.pre at hc
  have h4:(WTm.not (.lt (.lit (.int (n:Int))) (.len (.arg 0)))).holds [] {args:=[.list (ns.map .int)]}=true:=by
   have h4:=(holds_andW hc).1
   rw[hn] at h4
   exact h4
  have h5:=condW_of h4 (w_not (w_lt w_lit (w_len_list (w_arg rfl))))
  rw[List.length_map] at h5
  refine Nat.le_of_not_lt fun q=>?_
  have q':(n:Int)<((ns.length:Nat):Int):=by omega
  first
   | (rw[decide_eq_true q'] at h5;exact absurd h5 (by decide))
   | (simp at h5;omega)
 cases hwl with
 | cons w1 w2=>
  cases w2
  cases w1 with
  | list ho hall=>exact⟨_,_,ns,rfl,rfl,ho,qu ns _ hall,hlen⟩
theorem Bg (l:OpenLaw) (args:List WData):l.row.toRowW.claim.post args (.bool true) args=true:=
 postW_of (r:=l.row.toRowW) (X:=(true == true))
  (show WShape.has [] (.bool true) .bool=true by first | rfl | decide | simp[WShape.has,WShape.arms,WShape.armsAll])
  (show(WTm.eq .res (.lit (.bool true))).value [] {args:=args,res:=some (.bool true),after:=args}=some (.bool (true == true)) from w_eq_bool (w_res rfl) w_lit) rfl
theorem yg {l:OpenLaw} {n:Nat} {q:Program} {loose:List Str} {XP:(Str→Option Value)→Heap→Prop} {YP:World→Heap→Prop} {d:DefRec}
  (hn:l.most=some n) (hdf:d.params.defaults=[])
  (call:∀(w:World) (s₀ s₁:Shared) (mg mb:Str→Option Value) (fa:Addr) (o:Obj) (pm cd doc:Value) (a:Addr) (vs:List Value) (ns:List Int),
   Ground q loose [] XP w s₀ mg mb s₁.heap→YP w s₁.heap→
   s₁.heap.get? fa=some o→o.data=.func (docDef d.name d.params d.body d.scope pm cd doc)→s₁.heap.CodeRec cd d.name→mg d.name=some (.ref fa)→
   s₁.heap.get? a=some {cls:=.type "list",data:=.seq vs.toArray}→IntsAre vs ns→ns.length≤n→s₁.gens= #[]→
   codeAny (model l.prog w) callerA (.call (.ref fa) ⟨[.ref a],[]⟩) (fun r s'=>r=.ok (.ret (.bool true))∧OldK s₁.heap s'.heap∧s'.os=s₁.os∧AllBare s'.gens) s₁):
  WalkO q loose XP YP l.row.toRowW d [] (fun f vs=>PySem.call f vs):=by
 intro w s₀ s₁ mg mb G Y fa o pm cd doc dV kV ho hd hcd hD hmg hg args vals as hpre hlay hrd hwl hlo
 obtain rfl:dV=.none:=Dflts.none hD hdf
 obtain rfl:kV=.none:=Dflts.noKw hD
 obtain⟨a,vs,ns,rfl,rfl,hobj,hints,hlen⟩:=Bf hn hpre hwl
 refine enter_call (codeAny_mono (call w s₀ s₁ mg mb fa o pm cd doc a vs ns G Y ho (fd_plain hd) hcd hmg hobj hints hlen hg) fun r s' hq=>?_)
 obtain⟨rfl,h2,h3,h4⟩:=hq
 exact⟨.inl ⟨.bool true,.bool true,[],rfl,fun _=>rfl,.bool true,Bg l _,fun _=>⟨List.Pairwise.nil,fun _ hm=>(nomatch hm)⟩⟩,h2,h3,h4⟩
end M_
namespace L2
open PySem PySem.Spec PyProof.Rows
theorem tT:∀{vs:List Value} {ns:List Int},IntsAre vs ns→Vals (ns.map V.int) vs
 | _,_,.nil=>.nil
 | _,_,.cons n t h=>.cons ⟨t,rfl⟩ (tT h)
def aA (s:Stmt):Arguments:=match s with
 | .FunctionDef _ a _ _ _ _ _ _ _ _=>a
 | _=>{posonlyargs:=[],args:=[],vararg:=none,kwonlyargs:=[],kw_defaults:=[],kwarg:=none,defaults:=[]}
def ax (s:Stmt):List Stmt:=match s with
 | .FunctionDef _ _ b _ _ _ _ _ _ _=>b
 | _=>[]
def ah (s:Stmt):Scope:=match s with
 | .FunctionDef _ _ _ _ _ _ sc _ _ _=>sc
 | _=>{kind:=.function,names:=[],isGenerator:=false,isCoroutine:=false}
abbrev bj:o6:=fun _ _ _ _ _ _=>False
abbrev E0:XK:=fun _ _ _=>False
theorem aR {X:Cx}:Passes bj X E0:=fun _ _ _ _ _ _ _ h=>h.elim
structure cQ (K:PySem.W.Frag) (x qual:Str) (st:Stmt) (f:Addr) (fd:FuncData):Prop where
 ex:∃(oc:Value) (od:Option Addr) (kV doc pm:Value) (an:Option Addr) (cdv ct:Value) (osl:Array (Option Value)),
  fd=PySem.W.fnOf x qual (aA st) (ax st) (ah st) .none kV doc pm an cdv ct∧K.lookup f=some ⟨oc,od,.func fd,osl⟩∧PySem.W.codeIn K cdv qual=true
 kp:PySem.W.keepIn K (.ref f)=true
section
variable {P:Program} {w:World} {K:PySem.W.Frag} {mg:Str→Option Value} {base:Heap}
theorem cQ.ok {x qual:Str} {st:Stmt} {f:Addr} {fd:FuncData} {N ps:List Str} {k:Nat} {sp:Sp} (F:cQ K x qual st f fd) (S:aO N ps (ah st)) (len:∀vs H Q E,sp vs H Q E→vs.length=ps.length)
  (hbody:∀(cdv:Value) (A:Around) (outer:List Env) (s:Shared) (H:Hp) (vs:List V) (Q:VK) (E:XK),aP k (A.deeper (envOfC qual (ah st) s.heap.objs.size f cdv))→sp vs H Q E→
   ∃t,jf (i4 bj P w K mg base N qual (ah st) f cdv A outer s H E).o4 (ax st) t∧t {nx:=fun _ H'=>Q .non H',rt:=Q} (start N vs) H):aQ P w K mg base bj (k+1) f fd ps sp:=by
 obtain⟨oc,od,kV,doc,pm,an,cdv,ct,osl,rfl,lk,hcd⟩:=F.ex
 refine E4 lk hcd S len fun A outer s H vs Q E hr hsp=>?_
 obtain⟨t,h,q⟩:=hbody cdv A outer s H vs Q E hr hsp
 exact⟨t,h.o4,q⟩
theorem cQ.binds {x qual:Str} {st:Stmt} {f:Addr} {fd:FuncData} {ps:List Str} (F:cQ K x qual st f fd)
  (h:∀(kV doc pm:Value) (an:Option Addr) (cdv ct:Value) (us:List Value),us.length=ps.length→bindArgs (PySem.W.fnOf x qual (aA st) (ax st) (ah st) .none kV doc pm an cdv ct) ⟨us,[]⟩=pure (ps.zip us)):Binds K fd ps []:=by
 obtain⟨oc,od,kV,doc,pm,an,cdv,ct,osl,rfl,lk,hcd⟩:=F.ex
 exact .all (h kV doc pm an cdv ct)
theorem bu {x qual:Str} {st:Stmt} {f:Addr} {oc:Value} {od an:Option Addr} {osl:Array (Option Value)} {kV doc pm cdv ct:Value} (l:K.lookup f=some ⟨oc,od,.func (PySem.W.fnOf x qual (aA st) (ax st) (ah st) .none kV doc pm an cdv ct),osl⟩)
  (c:PySem.W.codeIn K cdv qual=true) (k:PySem.W.keepIn K (.ref f)=true):cQ K x qual st f (PySem.W.fnOf x qual (aA st) (ax st) (ah st) .none kV doc pm an cdv ct):=⟨⟨oc,od,kV,doc,pm,an,cdv,ct,osl,rfl,l,c⟩,k⟩
end
theorem bN {A:Around} {k:Nat} (hr:aP k A):A.units+1<cLine:=Nat.lt_of_le_of_lt (Nat.add_le_add_left (by decide:1≤64) _) hr.units
section
variable {X:Cx}
theorem pv (i:Nat) {x:Str} {pos:Pos} (hN:X.N[i]? =some x:=by rfl) (hv:yy X.env.scope x:=by first | exact Or.inl rfl | exact Or.inr (Or.inl rfl) | exact Or.inr (Or.inr rfl)) (hd:(x == ("__debug__":Str))=false:=by decide)
  (hcd:(x == ("__classdict__":Str))=false:=by decide):PE X (.Name x pos) (Du i):=Hr hN hv hd hcd
end
theorem de {A B:Prop} (h:B):if false=true then A else B:=by
 rw[if_neg Bool.false_ne_true]
 exact h
theorem ic {A B:Prop} (h:A):if true=true then A else B:=by
 rw[if_pos rfl]
 exact h
theorem bH {c A B:Prop} [Decidable c] (h1:c→A) (h2:¬c→B):if c then A else B:=by
 by_cases h:c
 ·rw[if_pos h]
  exact h1 h
 ·rw[if_neg h]
  exact h2 h
def Same (H H':Hp):Prop:=∀b o,H b=some o→H' b=some o
theorem Same.refl (H:Hp):Same H H:=fun _ _ h=>h
theorem Same.trans {H H1 H2:Hp} (a:Same H H1) (b:Same H1 H2):Same H H2:=fun c o h=>b c o (a c o h)
theorem Same.free {H H':Hp} (e:Same H H') {l:Addr} (h:H' l=Option.none):H l=Option.none:=by
 cases q:H l with
 | none=>rfl
 | some o=>
  rw[e l o q] at h
  cases h
theorem Same.seq {K:PySem.W.Frag} {H H':Hp} {a:Addr} {xs:List V} (e:Same H H') (h:bp K H a xs):bp K H' a xs:=by
 rcases h with(h | ⟨o,h⟩) | h
 ·exact .inl (.inl (e _ _ h))
 ·exact .inl (.inr ⟨o,e _ _ h⟩)
 ·exact .inr h
section
variable {κ:Type} [DecidableEq κ]
def aV (kvs:List (κ×V)) (k:κ):Option V:=(kvs.find? fun kv=>decide (kv.1=k)).map (·.2)
def putK (kvs:List (κ×V)) (k:κ) (v:V):List (κ×V):=
 if(kvs.any fun kv=>decide (kv.1=k))=true then kvs.map (fun kv=>if kv.1=k then(kv.1,v) else kv) else kvs++[(k,v)]
theorem pL {k:κ}:aV ([]:List (κ×V)) k=none:=rfl
theorem bJ {p:κ×V} {r:List (κ×V)} {k:κ} (e:p.1=k):aV (p::r) k=some p.2:=by simp[aV,List.find?_cons,e]
theorem br {p:κ×V} {r:List (κ×V)} {k:κ} (e:¬p.1=k):aV (p::r) k=aV r k:=by simp[aV,List.find?_cons,e]
theorem jF (k:κ):∀kvs:List (κ×V),(kvs.any fun kv=>decide (kv.1=k))=(aV kvs k).isSome
 | []=>rfl
 | p::r=>by
  rw[List.any_cons]
  by_cases e:p.1=k
  ·simp only[bJ e,decide_eq_true e,Bool.true_or,Option.isSome_some]
  ·rw[br e,decide_eq_false e,Bool.false_or];exact jF k r
theorem vR (k j:κ) (y:V):∀kvs:List (κ×V),aV (kvs.map fun kv=>if kv.1=k then(kv.1,y) else kv) j=(aV kvs j).map fun x=>if j=k then y else x
 | []=>rfl
 | p::r=>by
  have ih:=vR k j y r
  rw[List.map_cons]
  by_cases h:p.1=k
  ·rw[if_pos h]
   by_cases e:p.1=j
   ·rw[bJ (p:=(p.1,y)) e,bJ e,Option.map_some,if_pos (e.symm.trans h)]
   ·rw[br (p:=(p.1,y)) e,br e,ih]
  ·rw[if_neg h]
   by_cases e:p.1=j
   ·rw[bJ (p:=p) e,bJ e,Option.map_some,if_neg (fun z=>h (e.trans z))]
   ·rw[br (p:=p) e,br e,ih]
theorem tU (k j:κ) (y:V):∀kvs:List (κ×V),aV kvs k=none→aV (kvs++[(k,y)]) j=if j=k then some y else aV kvs j
 | [],_=>by
  by_cases e:k=j
  ·rw[if_pos e.symm];exact bJ (p:=(k,y)) e
  ·rw[if_neg (fun z=>e z.symm)];exact br (p:=(k,y)) e
 | p::r,hn=>by
  rw[List.cons_append]
  have hk:¬p.1=k:=fun z=>by rw[bJ z] at hn;cases hn
  rw[br hk] at hn
  have ih:=tU k j y r hn
  by_cases e:p.1=j
  ·rw[bJ e,bJ e,if_neg (fun z=>hk (e.trans z))]
  ·rw[br e,br e,ih]
theorem lN (kvs:List (κ×V)) (k j:κ) (y:V):aV (putK kvs k y) j=if j=k then some y else aV kvs j:=by
 unfold putK
 by_cases a:(kvs.any fun kv=>decide (kv.1=k))=true
 ·rw[if_pos a,vR]
  rw[jF] at a
  by_cases e:j=k
  ·obtain⟨x,hx⟩:=Option.isSome_iff_exists.mp a
   rw[if_pos e,e,hx,Option.map_some,if_pos rfl]
  ·rw[if_neg e]
   cases aV kvs j with
   | none=>rfl
   | some x=>rw[Option.map_some,if_neg e]
 ·rw[if_neg a]
  refine tU k j y kvs ?_
  rw[jF] at a
  cases q:aV kvs k with
  | none=>rfl
  | some x=>rw[q] at a;exact(a rfl).elim
theorem gf (kvs:List (κ×V)) (k:κ) (v:V):(putK kvs k v).length≤kvs.length+1:=by
 unfold putK
 split
 ·rw[List.length_map];omega
 ·rw[List.length_append,List.length_cons,List.length_nil];omega
theorem lO {kvs:List (κ×V)} {k:κ} (v:V) (h:aV kvs k=none):putK kvs k v=kvs++[(k,v)]:=by
 unfold putK
 rw[jF,h]
 exact if_neg (by decide)
theorem fw.iV {o:Option V} {u:Option Value} (r:fw o u):o.isSome=u.isSome:=by
 cases o with
 | none=>cases u with
  | none=>rfl
  | some _=>exact(show False from r).elim
 | some _=>cases u with
  | none=>exact(show False from r).elim
  | some _=>rfl
theorem fw.getD {o:Option V} {u:Option Value} {d:V} {d':Value} (r:fw o u) (rd:RelV d d'):RelV (o.getD d) (u.getD d'):=by
 cases o with
 | none=>cases u with
  | none=>exact rd
  | some _=>exact(show False from r).elim
 | some _=>cases u with
  | none=>exact(show False from r).elim
  | some _=>exact r
theorem KV.val {kvs:List (κ×V)} {vs:List (κ×Value)} (r:KV kvs vs) (k:κ):fw (aV kvs k) (valueAt vs k):=by
 unfold KV at r
 induction r with
 | nil=>exact True.intro
 | @cons p q ps qs h t ih=>
  obtain⟨h1,h2⟩:=h
  by_cases e:p.1=k
  ·have e':q.1=k:=h1.symm.trans e
   have b:valueAt (q::qs) k=some q.2:=by simp[valueAt,List.find?_cons,e']
   rw[bJ e,b];exact h2
  ·have e':¬q.1=k:=fun z=>e (h1.trans z)
   have b:valueAt (q::qs) k=valueAt qs k:=by simp[valueAt,List.find?_cons,e']
   rw[br e,b];exact ih
theorem KV.any {kvs:List (κ×V)} {vs:List (κ×Value)} (r:KV kvs vs) (k:κ):(kvs.any fun kv=>decide (kv.1=k))=vs.any fun kv=>decide (kv.1=k):=by
 unfold KV at r
 induction r with
 | nil=>rfl
 | cons h t ih=>rw[List.any_cons,List.any_cons,ih,h.1]
theorem KV.repl {kvs:List (κ×V)} {vs:List (κ×Value)} (r:KV kvs vs) (k:κ) {y:V} {u:Value} (ry:RelV y u):
  KV (kvs.map fun kv=>if kv.1=k then(kv.1,y) else kv) (vs.map fun kv=>if kv.1=k then(kv.1,u) else kv):=by
 unfold KV at r ⊢
 induction r with
 | nil=>exact .nil
 | @cons p q ps qs h t ih=>
  rw[List.map_cons,List.map_cons]
  refine .cons ?_ ih
  obtain⟨h1,h2⟩:=h
  by_cases e:p.1=k
  ·rw[if_pos e,if_pos (h1.symm.trans e)];exact⟨h1,ry⟩
  ·rw[if_neg e,if_neg (fun z=>e (h1.trans z))];exact⟨h1,h2⟩
theorem KV.put {kvs:List (κ×V)} {vs:List (κ×Value)} (r:KV kvs vs) (k:κ) {y:V} {u:Value} (ry:RelV y u):KV (putK kvs k y) (stored vs k u):=by
 unfold putK stored
 rw[r.any k]
 by_cases e:(vs.any fun kv=>decide (kv.1=k))=true
 ·rw[if_pos e,if_pos e];exact r.repl k ry
 ·rw[if_neg e,if_neg e];exact Paired.snoc r ⟨rfl,ry⟩
theorem KV.length {kvs:List (κ×V)} {vs:List (κ×Value)} (r:KV kvs vs):kvs.length=vs.length:=Paired.length r
end
theorem lP {P:Program} {w:World} {k:Key} {u:Value} (r:RelV (kV k) u):(bh P w).is k u=true:=by
 cases k with
 | inl i=>obtain⟨t,e⟩:=(show ∃t,u=Value.int i t from r);subst e;exact yc P w i t
 | inr x=>obtain⟨t,e⟩:=(show ∃t,u=Value.str x t from r);subst e;exact yd P w x t
theorem tV {P:Program} {w:World}:∀{ks:List Key} {us:List Value},Vals (ks.map kV) us→ItemsAre (bh P w) ks us
 | [],_,r=>by rw[List.map_nil] at r;cases r;exact .nil
 | k::ks,_,r=>by
  rw[List.map_cons] at r
  cases r with
  | cons h t=>exact .cons (lP h) (tV t)
abbrev KT (H:Hp):List (List Key×V)→List (List Key×Addr×Value)→Prop:=Paired fun p q=>p.1=q.1∧H q.2.1=some (.tup (p.1.map kV))∧RelV p.2 q.2.2
theorem KT.val {H:Hp} {kvs:List (List Key×V)} {xs:List (List Key×Addr×Value)} (r:KT H kvs xs) (k:List Key):fw (aV kvs k) ((atKey xs k).map (·.2)):=by
 induction r with
 | nil=>exact True.intro
 | @cons p q ps qs h t ih=>
  obtain⟨h1,_,h2⟩:=h
  by_cases e:p.1=k
  ·have e':q.1=k:=h1.symm.trans e
   have b:atKey (q::qs) k=some q.2:=by simp[atKey,List.find?_cons,e']
   rw[bJ e,b];exact h2
  ·have e':¬q.1=k:=fun z=>e (h1.trans z)
   have b:atKey (q::qs) k=atKey qs k:=by simp[atKey,List.find?_cons,e']
   rw[br e,b];exact ih
theorem KT.repl {H:Hp} {kvs:List (List Key×V)} {xs:List (List Key×Addr×Value)} (r:KT H kvs xs) (k:List Key) {y:V} {u:Value} (ry:RelV y u):
  KT H (kvs.map fun kv=>if kv.1=k then(kv.1,y) else kv) (xs.map (putAt k u)):=by
 induction r with
 | nil=>exact .nil
 | @cons p q ps qs h t ih=>
  rw[List.map_cons,List.map_cons]
  refine .cons ?_ ih
  obtain⟨h1,h2,h3⟩:=h
  unfold putAt
  by_cases e:p.1=k
  ·rw[if_pos e,if_pos (h1.symm.trans e)];exact⟨h1,h2,ry⟩
  ·rw[if_neg e,if_neg (fun z=>e (h1.trans z))];exact⟨h1,h2,h3⟩
theorem KT.put {H:Hp} {kvs:List (List Key×V)} {xs:List (List Key×Addr×Value)} (r:KT H kvs xs) (k:List Key) {b:Addr} {y:V} {u:Value} (hb:H b=some (.tup (k.map kV))) (ry:RelV y u):
  KT H (putK kvs k y) (storedH xs k b u):=by
 have e:(kvs.any fun kv=>decide (kv.1=k))=(atKey xs k).isSome:=by
  rw[jF,(r.val k).iV,Option.isSome_map]
 unfold putK storedH
 rw[e]
 by_cases q:(atKey xs k).isSome=true
 ·rw[if_pos q,if_pos q];exact r.repl k ry
 ·rw[if_neg q,if_neg q];exact Paired.snoc r ⟨rfl,hb,ry⟩
theorem KT.keeps {H H':Hp} {kvs:List (List Key×V)} {xs:List (List Key×Addr×Value)} (r:KT H kvs xs) (ht:∀b ys,H b=some (.tup ys)→H' b=some (.tup ys)):KT H' kvs xs:=
 Paired.lJ r fun _ _ z=>⟨z.1,ht _ _ z.2.1,z.2.2⟩
section
variable {P:Program} {w:World} {H:Hp} {h:Heap} {a:Addr}
theorem E6 {u:HO} (ok:cC P w H h) (e:Rd H a u):bq P w H h a u:=e.ok ok
theorem oF {kvs:List (Key×V)} (ok:cC P w H h) (e:Rd H a (.dK kvs)):kvs.length≤sizeLine∧(a == sysModules)=false∧∃vs,KV kvs vs∧h.DictOf (bh P w) a vs:=
 show bq P w H h a (.dK kvs) from E6 ok e
theorem E7 {kvs:List (Key×V)} (ok:cC P w H h) (e:H a=some (.dK kvs)):kvs.length≤sizeLine∧(a == sysModules)=false∧∃vs,KV kvs vs∧h.DictOf (bh P w) a vs:=oF ok (.inl e)
theorem nt {ks:List Key} (ok:cC P w H h) (e:H a=some (.tup (ks.map kV))):(tupleKind (bh P w)).is h ks a:=by
 obtain⟨_,its,r,o,h1,h2,n,h3⟩:=(show bq P w H h a (.tup (ks.map kV)) from ok a _ e)
 exact⟨o,its.toArray,n,h1,h2,h3,by simpa using tV r⟩
theorem oG {kvs:List (List Key×V)} (ok:cC P w H h) (e:Rd H a (.dT kvs)):kvs.length≤sizeLine∧(a == sysModules)=false∧
  ∃xs,KT H kvs xs∧h.DictOfH (tupleKind (bh P w)) a xs:=by
 obtain⟨z,y,xs,r,o,es,ep,h1,h2,h3,h4,h5⟩:=(show bq P w H h a (.dT kvs) from E6 ok e)
 refine⟨z,y,xs,r,o,es,ep,h1,h2,h3,h4,fun x hx=>?_,h5⟩
 have all:∀{l:List (List Key×V)} {m:List (List Key×Addr×Value)},KT H l m→∀x∈m,(tupleKind (bh P w)).is h x.1 x.2.1:=by
  intro l m q
  induction q with
  | nil=>intro x hx;exact nomatch hx
  | @cons p q ps qs hq t ih=>
   intro x hx
   rcases List.mem_cons.mp hx with e | hx
   ·subst e
    exact nt ok (by rw[←hq.1];exact hq.2.1)
   ·exact ih x hx
 exact all r x hx
theorem L3 {kvs:List (List Key×V)} (ok:cC P w H h) (e:H a=some (.dT kvs)):kvs.length≤sizeLine∧(a == sysModules)=false∧
  ∃xs,KT H kvs xs∧h.DictOfH (tupleKind (bh P w)) a xs:=oG ok (.inl e)
end
def lQ (H:Hp) (a:Addr) (y:V) (r:Option V):Prop:=
 (∃kvs k,Rd H a (.dK kvs)∧y=kV k∧r=aV kvs k)∨∃kvs k b,Rd H a (.dT kvs)∧y=.ref b∧H b=some (.tup (k.map kV))∧r=aV kvs k
def ky (H:Hp) (a:Addr) (y v:V) (H':Hp):Prop:=
 (∃kvs k,H a=some (.dK kvs)∧y=kV k∧kvs.length<sizeLine∧H'=upd H a (.dK (putK kvs k v)))∨
 ∃kvs k b,H a=some (.dT kvs)∧y=.ref b∧H b=some (.tup (k.map kV))∧kvs.length<sizeLine∧H'=upd H a (.dT (putK kvs k v))
theorem ky.k {H:Hp} {a:Addr} {kvs:List (Key×V)} {k:Key} {v:V} (e:H a=some (.dK kvs)) (hl:kvs.length<sizeLine):ky H a (kV k) v (upd H a (.dK (putK kvs k v))):=.inl ⟨kvs,k,e,rfl,hl,rfl⟩
theorem ky.t {H:Hp} {a b:Addr} {kvs:List (List Key×V)} {k:List Key} {v:V} (e:H a=some (.dT kvs)) (eb:H b=some (.tup (k.map kV))) (hl:kvs.length<sizeLine):
  ky H a (.ref b) v (upd H a (.dT (putK kvs k v))):=.inr ⟨kvs,k,b,e,rfl,eb,hl,rfl⟩
section
variable {X:Cx} {pins:List (Addr×Obj)} {σ:St} {H:Hp} {s:Shared} {a:Addr} {y v:V} {u r:Value} {o:Option V} {A:Around} {E:Value→Shared→Prop}
theorem Inv.big (I:Inv X pins σ H s):sysModules<s.heap.objs.size:=by
 have h:mainGlobals<s.heap.objs.size:=(I.mod.glob.keeps I.bk).lt
 exact Nat.lt_trans (by decide) h
theorem Bh {Q:Value→Shared→Prop} (hu:A.units+1<cLine) (I:Inv X pins σ H s) (g:lQ H a y (some v)) (ry:RelV y u) (h:∀w' s',Inv X pins σ H s'→RelV v w'→Q w' s'):
  wpAny (model X.prog X.w) A (getItem (.ref a) u) Q E s:=by
 rcases g with⟨kvs,k,e,ey,l⟩ | ⟨kvs,k,b,e,ey,eb,l⟩
 ·subst ey
  obtain⟨z,hd,vs,rel,dd⟩:=oF I.hok e
  obtain⟨w',hw,jE⟩:=fw.some_of (v:=v) (o:=valueAt vs k) (by rw[l];exact rel.val k)
  exact wpAny_getItem_of (lP ry) dd.mapOf hw (h w' _ (I.tok _) jE)
 ·subst ey
  cases(show u=Value.ref b from ry)
  obtain⟨z,hd,xs,rel,dd⟩:=oG I.hok e
  obtain⟨w',hw,jE⟩:=fw.some_of (v:=v) (o:=(atKey xs k).map (·.2)) (by rw[l];exact rel.val k)
  obtain⟨p,hp,hp2⟩:=Option.map_eq_some_iff.mp hw
  refine wpAny_getItem_heap (tupleKind_room_in1 hu) (nt I.hok eb) dd hp ?_
  rw[hp2]
  exact h w' _ (I.tok _) jE
theorem OO {Q:Value→Shared→Prop} (hu:A.units+1<cLine) (I:Inv X pins σ H s) (g:lQ H a y o) (ry:RelV y u) (h:∀s',Inv X pins σ H s'→Q (.bool o.isSome) s'):
  wpAny (model X.prog X.w) A (compareOp .In u (.ref a)) Q E s:=by
 rcases g with⟨kvs,k,e,ey,l⟩ | ⟨kvs,k,b,e,ey,eb,l⟩
 ·subst ey
  obtain⟨z,hd,vs,rel,dd⟩:=oF I.hok e
  refine wpAny_in_of (lP ry) hd dd.mapOf ?_
  rw[←(rel.val k).iV,←l]
  exact h _ (I.tok _)
 ·subst ey
  cases(show u=Value.ref b from ry)
  obtain⟨z,hd,xs,rel,dd⟩:=oG I.hok e
  refine wpAny_in_heap (tupleKind_room_in1 hu) (nt I.hok eb) hd dd ?_
  have q:=(rel.val k).iV
  rw[Option.isSome_map] at q
  rw[←q,←l]
  exact h _ (I.tok _)
theorem kP {h':Heap} {t':Nat} {ob:HO} (I:Inv X pins σ H s) (mu:AZ (H a)) (hs:Heap.SameBut a s.heap h') (he:∃q,h'.get? a=some q) (new:bq X.prog X.w (upd H a ob) h' a ob):
  Inv X pins σ (upd H a ob) {s with heap:=h',toks:=t'}:=
 I.write (x:=a) (e:=a) mu (.inl rfl) (fun b q hb z=>(hs.2 b hb).trans z) he new
theorem Bi {P:Program} {w:World} {H':Hp} {h':Heap} {kvs:List (Key×V)} {vs:List (Key×Value)} (z:kvs.length≤sizeLine) (hd:(a == sysModules)=false) (rel:KV kvs vs) (dd:h'.DictOf (bh P w) a vs):
  bq P w H' h' a (.dK kvs):=⟨z,hd,vs,rel,dd⟩
theorem Bj {H':Hp} {Q:Unit→Shared→Prop} (hu:A.units+1<cLine) (I:Inv X pins σ H s) (g:ky H a y v H') (ry:RelV y u) (rv:RelV v r) (h:∀s',Inv X pins σ H' s'→Q () s'):
  wpAny (model X.prog X.w) A (setItem (.ref a) u r) Q E s:=by
 rcases g with⟨kvs,k,e,ey,l,eH⟩ | ⟨kvs,k,b,e,ey,eb,l,eH⟩
 ·subst ey eH
  obtain⟨z,hd,vs,rel,dd⟩:=E7 I.hok e
  have hz:vs.length≤sizeLine:=by rw[←rel.length];exact z
  have hl:(putK kvs k v).length≤sizeLine:=by have:=gf kvs k v;omega
  refine wpAny_setItem_pairs (hsz:=hz) (lP ry) dd fun h' kQ hs=>h _ ?_
  have he:∃q,h'.get? a=some q:=let ⟨q,_,_,hq,_⟩:=kQ;⟨q,hq⟩
  exact kP I (by rw[e];exact True.intro) hs he (Bi hl hd (rel.put k rv) kQ)
 ·subst ey eH
  cases(show u=Value.ref b from ry)
  obtain⟨z,hd,xs,rel,dd⟩:=L3 I.hok e
  have hz:xs.length≤sizeLine:=by rw[←Paired.length rel];exact z
  have hl:(putK kvs k v).length≤sizeLine:=by have:=gf kvs k v;omega
  refine wpAny_setItem_heap (hsz:=hz) (tupleKind_room_in1 hu) (nt I.hok eb) dd fun h' kQ hs=>h _ ?_
  obtain⟨q,es,ep,hq,h2,h3,h4,_,h5⟩:=kQ
  refine kP I (by rw[e];exact True.intro) hs ⟨q,hq⟩ ⟨hl,hd,_,(rel.put k eb rv).keeps fun c ys ec=>?_,q,es,ep,hq,h2,h3,h4,h5⟩
  rw[ak (fL ec e (fun z=>nomatch z))]
  exact ec
end
def DC (i:Expr):Prop:=∀ov iv,subscripted i false ov iv=operate [ov,iv] (getItem ov iv)
theorem yL {prog:Program} {w:World} {A:Around} {E:Value→Shared→Prop} {s:Shared} {env:Env} {value slice:Expr} {pos:Pos} {T id:String} {Q:Value→Shared→Prop}
  (hl:typeLookup (.type T) "__getitem__"=pure (some (.builtin id))) (hs:DC slice)
  (h:wpAny (model prog w) A (eval value env) (fun o s₁=>wpAny (model prog w) A (eval slice env) (fun i s₂=>s₂.TypeIs o T∧wpAny (model prog w) A (getItem o i) Q E s₂) E s₁) E s):
  wpAny (model prog w) A (eval (.Subscript value slice pos) env) Q E s:=by
 refine Subscript_ (wpAny_mono h (fun o s₁ h₁=>wpAny_mono h₁ (fun i s₂ h₂=>?_) fun _ _ x=>x) fun _ _ x=>x)
 obtain⟨hT,h₂⟩:=h₂
 unfold subscriptTail
 refine wpAny_bind ?_
 rw[getitemInPython_of_ne hT.not_modules]
 refine wpAny_bind (wpAny_specialOf hT hl ?_)
 have fin:wpAny (model prog w) A (subscripted slice false o i) (fun r s₃=>wpAny (model prog w) A (letTemporaryGo value o r >>= fun _=>pure r) Q E s₃) E s₂:=by
  rw[hs o i]
  exact wpAny_operating (wpAny_mono h₂ (fun r s₃ h₃=>wpAny_bind (wpAny_letTemporaryGo (wpAny_pure h₃))) fun _ _ x=>x)
 first
  | exact wpAny_pure (wpAny_bind fin)
  | exact wpAny_bind (wpAny_pure (wpAny_bind fin))
  | exact wpAny_bind fin
theorem yh {X:Cx} {pins:List (Addr×Obj)} {σ:St} {H:Hp} {s:Shared} {a:Addr} {y:V} {o:Option V} (I:Inv X pins σ H s) (g:lQ H a y o):s.TypeIs (.ref a) "dict":=by
 rcases g with⟨kvs,k,e,_,_⟩ | ⟨kvs,k,b,e,_,_,_⟩
 ·obtain⟨_,_,vs,_,dd⟩:=oF I.hok e
  exact dd.typeIs
 ·obtain⟨_,_,xs,_,dd⟩:=oG I.hok e
  exact dd.typeIs
def L4 (td ty:TE):TE:=fun σ H Q=>td σ H fun x H1=>ty σ H1 fun y H2=>∃a v,x=.ref a∧lQ H2 a y (some v)∧Q v H2
def OP (ty td:TE):TE:=fun σ H Q=>ty σ H fun y H1=>td σ H1 fun x H2=>∃a o,x=.ref a∧lQ H2 a y o∧Q (.bl o.isSome) H2
def L5 (td ty tv:TE):TS:=fun D σ H=>tv σ H fun v H1=>td σ H1 fun x H2=>ty σ H2 fun y H3=>∃a H4,x=.ref a∧ky H3 a y v H4∧D.nx σ H4
section
variable {X:Cx} {o i e value:Expr} {pos pos' tpos:Pos} {td ty tv:TE}
theorem d5 (hu:X.A.units+1<cLine) (ho:PE X o td) (hi:PE X i ty) (hs:DC i):PE X (.Subscript o i pos) (L4 td ty):=by
 intro pins s σ H Q I h
 refine yL PySem.F.slot_dict_getitem.lookup hs (aE (ho pins s σ H _ I h) fun u s1 ⟨x,H1,I1,rx,q1⟩=>aE (hi pins s1 σ H1 _ I1 q1) fun iv s2 ⟨y,H2,I2,ry,a,v,ex,g,q2⟩=>?_)
 subst ex
 obtain rfl:u=Value.ref a:=rx
 exact⟨yh I2 g,Bh hu I2 g ry fun w' s3 I3 jE=>⟨v,H2,I3,jE,q2⟩⟩
theorem HJ (hu:X.A.units+1<cLine) (hi:PE X i ty) (ho:PE X o td):PC X .In i o (OP ty td):=by
 intro pins s σ H Q I h
 refine aE (hi pins s σ H _ I h) fun iv s1 ⟨y,H1,I1,ry,q1⟩=>aE (ho pins s1 σ H1 _ I1 q1) fun u s2 ⟨x,H2,I2,rx,a,ov,ex,g,q2⟩=>?_
 subst ex
 obtain rfl:u=Value.ref a:=rx
 exact OO hu I2 g ry fun s3 I3=>⟨.bl ov.isSome,H2,I3,rfl,q2⟩
theorem oI (hu:X.A.units+1<cLine) (ho:PE X o td) (hi:PE X i ty) (hv:PE X value tv) (hs:swapsWith value (some (.Subscript o i pos')) pos.line X.env=pure false):
  PS X (.Assign [.Subscript o i pos'] value pos) (L5 td ty tv):=by
 intro pins s σ H D I h
 refine wpAny_Assign_Subscript (aE (hv pins s σ H _ I h) fun r s1 ⟨v,H1,I1,rv,q1⟩=>aE (ho pins s1 σ H1 _ I1 q1) fun u s2 ⟨x,H2,I2,rx,q2⟩=>aE (hi pins s2 σ H2 _ I2 q2) fun iv s3 ⟨y,H3,I3,ry,a,H4,ex,g,q3⟩=>?_) hs
 subst ex
 obtain rfl:u=Value.ref a:=rx
 exact Bj hu I3 g ry rv fun s4 I4=>⟨σ,H4,I4,q3⟩
end
theorem vS {P:Program} {w:World} {H:Hp} (h:Heap) (hb:sysModules<h.objs.size):bq P w H (h.push {cls:=.type "dict",data:=.dict #[]}) h.objs.size (.dK []):=
 ⟨Nat.zero_le _,beq_eq_false_iff_ne.mpr (Ne.symm (Nat.ne_of_lt hb)),[],.nil,Heap.DictOf.new h⟩
theorem DD {P:Program} {w:World} {H:Hp} (h:Heap) (hb:sysModules<h.objs.size):bq P w H (h.push {cls:=.type "dict",data:=.dict #[]}) h.objs.size (.dT []):=
 ⟨Nat.zero_le _,beq_eq_false_iff_ne.mpr (Ne.symm (Nat.ne_of_lt hb)),[],.nil,_, #[],0,Heap.get?_push_size _ rfl,⟨rfl,rfl,rfl⟩,rfl,rfl,List.nodup_nil⟩
def HK:TE:=fun _ H Q=>∀p,H p=none→Q (.ref p) (upd H p (.dK []))
def HL:TE:=fun _ H Q=>∀p,H p=none→Q (.ref p) (upd H p (.dT []))
section
variable {X:Cx} {pos:Pos}
theorem lR:PE X (.Dict [] [] pos) HK:=fun pins s σ H Q I h=>
 wpAny_Dict_empty ⟨.ref s.heap.objs.size,_,I.laid (a:=s.heap.objs.size) (o:=.dK []) (t':=s.toks) (fun _ _ q=>Heap.get?_push_of_some _ q) (Nat.le_refl _) (vS s.heap I.big),rfl,h _ (I.hok.fresh (Nat.le_refl _))⟩
theorem DE:PE X (.Dict [] [] pos) HL:=fun pins s σ H Q I h=>
 wpAny_Dict_empty ⟨.ref s.heap.objs.size,_,I.laid (a:=s.heap.objs.size) (o:=.dT []) (t':=s.toks) (fun _ _ q=>Heap.get?_push_of_some _ q) (Nat.le_refl _) (DD s.heap I.big),rfl,h _ (I.hok.fresh (Nat.le_refl _))⟩
end
def vT:List (TE×TE)→St→Hp→(List (V×V)→Hp→Prop)→Prop
 | [],_,H,Q=>Q [] H
 | (tk,tv)::r,σ,H,Q=>tk σ H fun x H1=>tv σ H1 fun y H2=>vT r σ H2 fun ps H3=>Q ((x,y)::ps) H3
abbrev VV:List (V×V)→List (Value×Value)→Prop:=Paired fun p q=>RelV p.1 q.1∧RelV p.2 q.2
def Bk (X:Cx) (pos:Pos) (keys:List (Option Expr)) (values:List Expr) (qv:List (TE×TE)):Prop:=
 ∀(pins:List (Addr×Obj)) (s:Shared) (σ:St) (H:Hp) (Q:List (V×V)→Hp→Prop),Inv X pins σ H s→vT qv σ H Q→
  wpAny (model X.prog X.w) X.A (evalPairs (pairTrees keys values X.env pos)) (fun vs s'=>∃ps H',Inv X pins σ H' s'∧VV ps vs∧Q ps H') X.xe s
theorem yM {X:Cx} {pos:Pos}:Bk X pos [] [] []:=fun pins s σ H Q I h=>pairTrees_nil_walk ⟨[],H,I,.nil,h⟩
theorem lT {X:Cx} {pos:Pos} {k v:Expr} {ks:List (Option Expr)} {vs:List Expr} {tk tv:TE} {qv:List (TE×TE)} (hk:PE X k tk) (hv:PE X v tv) (hr:Bk X pos ks vs qv):
  Bk X pos (some k::ks) (v::vs) ((tk,tv)::qv):=fun pins s σ H Q I h=>
 pairTrees_cons_walk (aE (hk pins s σ H _ I h) fun u s1 ⟨x,H1,I1,rx,q1⟩=>aE (hv pins s1 σ H1 _ I1 q1) fun w2 s2 ⟨y,H2,I2,ry,q2⟩=>
  aE (hr pins s2 σ H2 _ I2 q2) fun ws s3 ⟨ps,H3,I3,rel,q3⟩=>⟨(x,y)::ps,H3,I3,.cons ⟨rx,ry⟩ rel,q3⟩)
def bQ (kvs more:List (Key×V)):List (Key×V):=more.foldl (fun acc kv=>putK acc kv.1 kv.2) kvs
theorem KV.merge:∀{more:List (Key×V)} {rs:List (Key×Value)} {kvs:List (Key×V)} {vs:List (Key×Value)},KV more rs→KV kvs vs→KV (bQ kvs more) (merged vs rs):=by
 intro more rs kvs vs r
 unfold KV at r
 induction r generalizing kvs vs with
 | nil=>intro q;exact q
 | @cons p q ps qs h t ih=>
  intro r0
  have e:KV (putK kvs p.1 p.2) (stored vs q.1 q.2):=by
   have:=r0.put p.1 h.2
   rw[←h.1];exact this
  exact ih e
theorem i5:∀(more kvs:List (Key×V)),(bQ kvs more).length≤kvs.length+more.length
 | [],kvs=>by show kvs.length≤kvs.length+0;omega
 | p::r,kvs=>by
  have h1:=i5 r (putK kvs p.1 p.2)
  have h2:=gf kvs p.1 p.2
  show(bQ (putK kvs p.1 p.2) r).length≤_
  rw[List.length_cons];omega
theorem qw {P:Program} {w:World}:∀{kvs:List (Key×V)} {ws:List (Value×Value)},VV (kvs.map fun kv=>(kV kv.1,kv.2)) ws→∃rs,Carries (bh P w) ws rs∧KV kvs rs
 | [],_,r=>by rw[List.map_nil] at r;cases r;exact⟨[],True.intro,.nil⟩
 | p::kvs,_,r=>by
  rw[List.map_cons] at r
  cases r with
  | @cons a b as bs h t=>
   obtain⟨rs,c,q⟩:=qw (P:=P) (w:=w) t
   obtain⟨b1,b2⟩:=b
   exact⟨(p.1,b2)::rs,⟨lP h.1,rfl,c⟩,.cons ⟨rfl,h.2⟩ q⟩
def L6 (qv:List (TE×TE)):TE:=fun σ H Q=>∀p,H p=none→vT qv σ (upd H p (.dK [])) fun ps H2=>H2 p=some (.dK [])∧∃kvs:List (Key×V),ps=kvs.map (fun kv=>(kV kv.1,kv.2))∧kvs.length≤15∧Q (.ref p) (upd H2 p (.dK (bQ [] kvs)))
theorem Gy {X:Cx} {pos:Pos} {keys:List (Option Expr)} {values:List Expr} {qv:List (TE×TE)} (h:Bk X pos keys values qv) (hall:keys.all (·.isSome)=true) (hl:keys.length=values.length) (h0:keys≠[])
  (h15:keys.length≤15):PE X (.Dict keys values pos) (L6 qv):=by
 intro pins s σ H Q I q
 have hn:=I.hok.fresh (Nat.le_refl s.heap.objs.size)
 have I1:=I.laid (a:=s.heap.objs.size) (o:=.dK []) (h':=s.heap.push {cls:=.type "dict",data:=.dict #[]}) (t':=s.toks) (fun _ _ q=>Heap.get?_push_of_some _ q) (Nat.le_refl _) (vS s.heap I.big)
 refine wpAny_Dict_walk (knd:=bh X.prog X.w) hall hl h0 h15 (aE (h pins _ σ _ _ I1 (q _ hn)) fun ws s2 ⟨ps,H2,I2,rel,e,kvs,ep,lk,q2⟩=>?_)
 subst ep
 obtain⟨rs,c,rk⟩:=qw (P:=X.prog) (w:=X.w) rel
 obtain⟨z,hd,SR,r0,dd⟩:=E7 I2.hok e
 cases r0
 refine⟨rs,c,dd,fun h' kQ hs=>⟨.ref s.heap.objs.size,_,?_,rfl,q2⟩⟩
 have hz:(bQ [] kvs).length≤sizeLine:=by
  have h1:=i5 kvs []
  rw[List.length_nil] at h1
  rw[sizeLine_eq];omega
 have he:∃q,h'.get? s.heap.objs.size=some q:=let ⟨q,_,_,hq,_⟩:=kQ;⟨q,hq⟩
 exact kP I2 (by rw[e];exact True.intro) hs he (Bi hz hd (rk.merge .nil) kQ)
structure M2 (X:Cx) (o:Expr) (m:Str) (apos:Pos) (e f:Expr) (cpos:Pos):Prop where
 base:attributeBase o m X.env (eval o X.env)=eval o X.env
 few:((backTo cpos (starEach [e,f] X.env)).all (fun x=> !x.1)&&(backToKw cpos (keywordEach [] X.env)).all (fun x=>x.1.isSome)
  &&decide (([e,f]:List Expr).length+([]:List Keyword).length+(if([]:List Keyword).isEmpty then 0 else 1)<30))=true
 line:(apos.endLine == cpos.line)=true
 trees:backTo cpos (starEach [e,f] X.env)=[(false,eval e X.env),(false,eval f X.env)]
def M0 (H:Hp) (a:Addr):Prop:=(∃kvs,Rd H a (.dK kvs))∨∃kvs,Rd H a (.dT kvs)
theorem HM {X:Cx} {pins:List (Addr×Obj)} {σ:St} {H:Hp} {s:Shared} {a:Addr} (I:Inv X pins σ H s) (d:M0 H a):
  s.TypeIs (.ref a) "dict"∧(∀b,Value.ref a=.ref b→∃ob,s.heap.get? b=some ob∧ob.dict=none)∧(a == sysModules)=false:=by
 rcases d with⟨kvs,e⟩ | ⟨kvs,e⟩
 ·obtain⟨_,hd,vs,_,dd⟩:=oF I.hok e
  refine⟨dd.typeIs,fun b q=>?_,hd⟩
  cases q
  obtain⟨ob,_,_,h1,h2,_⟩:=dd
  exact⟨ob,h1,h2.2.1⟩
 ·obtain⟨_,hd,xs,_,dd⟩:=oG I.hok e
  refine⟨dd.typeIs,fun b q=>?_,hd⟩
  cases q
  obtain⟨ob,_,_,h1,h2,_⟩:=dd
  exact⟨ob,h1,h2.2.1⟩
section
variable {X:Cx} {pins:List (Addr×Obj)} {σ:St} {H:Hp} {s:Shared} {a:Addr} {y d:V} {u r:Value} {o:Option V} {A:Around} {E:Value→Shared→Prop}
theorem HN {Q:Value→Shared→Prop} (hu:A.units+1<cLine) (I:Inv X pins σ H s) (g:lQ H a y o) (ry:RelV y u) (rd:RelV d r) (h:∀w' s',Inv X pins σ H s'→RelV (o.getD d) w'→Q w' s'):
  wpAny (model X.prog X.w) A (call (.builtin "dict.get") [.ref a,u,r]) Q E s:=by
 rcases g with⟨kvs,k,e,ey,l⟩ | ⟨kvs,k,b,e,ey,eb,l⟩
 ·subst ey
  obtain⟨z,hd,vs,rel,dd⟩:=oF I.hok e
  refine call_meetsIn PySem.F.slot_dict_get dd.typeIs PySem.F.entry_dict_get (PySem.F.args_dict_get_3 _ _ _) (meets_dict_get_default (bh X.prog X.w) a (lP ry) hd r) ⟨_,dd.mapOf,h _ _ (I.tok _) ?_⟩
  rw[l]
  exact(rel.val k).getD rd
 ·subst ey
  cases(show u=Value.ref b from ry)
  obtain⟨z,hd,xs,rel,dd⟩:=oG I.hok e
  refine call_meetsIn PySem.F.slot_dict_get dd.typeIs PySem.F.entry_dict_get (PySem.F.args_dict_get_3 _ _ _) (meetsH_dict_get_default (tupleKind (bh X.prog X.w)) a b hd r) ⟨tupleKind_room_in1 hu,k,xs,nt I.hok eb,dd,h _ _ (I.tok _) ?_⟩
  rw[l]
  exact(rel.val k).getD rd
end
def HP (td ty tx:TE):TE:=fun σ H Q=>td σ H fun x H1=>∃a,x=.ref a∧M0 H1 a∧ty σ H1 fun y H2=>tx σ H2 fun z H3=>∃o,lQ H3 a y o∧Q (o.getD z) H3
section
variable {X:Cx} {o e f:Expr} {apos cpos:Pos} {td ty tx:TE}
theorem pM (hu:X.A.units+1<cLine) (ho:PE X o td) (he:PE X e ty) (hf:PE X f tx) (m:M2 X o "get" apos e f cpos):PE X (.Call (.Attribute o "get" apos) [e,f] [] cpos) (HP td ty tx):=by
 intro pins s σ H Q I h
 refine wpAny_Call_method m.base m.few m.line PySem.F.plainAttrs_dict PySem.F.slot_dict_get PySem.F.type_dict_get (aE (ho pins s σ H _ I h) fun u s1 ⟨x,H1,I1,rx,a,ex,d,q1⟩=>?_)
 subst ex
 obtain rfl:u=Value.ref a:=rx
 obtain⟨t1,t2,_⟩:=HM I1 d
 refine⟨t1,t2,?_⟩
 rw[m.trees]
 refine Calls.callWith_builtin rfl (Calls.evalArgs_plain (Calls.spliced_cons (aE (he pins s1 σ H1 _ I1 q1) fun iv s2 ⟨y,H2,I2,ry,q2⟩=>
  Calls.spliced_cons (aE (hf pins s2 σ H2 _ I2 q2) fun fv s3 ⟨z,H3,I3,rz,ov,g,q3⟩=>Calls.spliced_nil ?_))))
 exact HN hu I3 g ry rz fun w' s4 I4 jE=>⟨_,H3,I4,jE,q3⟩
end
section
variable {X:Cx} {pins:List (Addr×Obj)} {σ:List (Option V)} {H H':Hp} {s:Shared} {h':Heap}
theorem Inv.lU {t':Nat} {ch:List Addr} {p:Addr} {o:HO} (I:Inv X pins σ H s) (hf:∀b∈ch,ft X pins H b)
  (k:∀b u,b ∉ ch→s.heap.get? b=some u→h'.get? b=some u) (hp:s.heap.objs.size≤p) (new:bq X.prog X.w (upd H p o) h' p o):
  Inv X pins σ (upd H p o) {s with heap:=h',toks:=t'}:=by
 have hn:H p=none:=I.hok.fresh hp
 have ng:∀b u,H b=some u→b ∉ ch:=fun b u e z=>by have q:=(hf b z).1;rw[e] at q;cases q
 have old:∀b u,s.heap.get? b=some u→b≠p:=fun b u e=>Nat.ne_of_lt (Nat.lt_of_lt_of_le (Heap.lt_size e) hp)
 have qx:∀b u,H b=some u→upd H p o b=some u:=fun b u e=>by rw[ak (aj e hn)];exact e
 refine I.step (g':=s.gens) (d':=s.drawn) (ch:=ch) (fun b hb=>?_) (fun b o _ _ hc e _=>k b o hc e) (fun b o _ _ hc e _=>⟨o.slots,k b o hc e⟩) (fun b o _ e n=>by rw[ak (old b o e)];exact n)
  (fun b o hc e=>⟨o,k b o hc e⟩) (fun b xs e=>qx b _ e) (fun b _ _ e=>qx b _ e) (fun b ps e=>⟨#[],by rw[qx b _ e];simp⟩) (fun m hm=>?_) (fun b u e=>?_) I.bare
 ·obtain⟨f0,f1,f2,f3,f4,f5⟩:=hf b hb
  exact⟨f3,f1,f4,f5⟩
 ·obtain⟨ob,es,ep,ho,r⟩:=hm
  exact⟨ob,es,ep,k _ ob (fun z=>(hf _ z).2.1 rfl) ho,r⟩
 ·by_cases hb:b=p
  ·subst hb;rw[af] at e;cases e;exact new
  ·rw[ak hb] at e
   refine(I.hok b u e).stay (fun c v hc q=>k c v ?_ q) (fun c q=>qx c _ q) fun c xs q=>qx c _ q
   rcases hc with z | z
   ·rw[z];exact ng b u e
   ·exact ng c _ z
end
def Bl (K:PySem.W.Frag) (a:Addr):It:=
 ⟨fun i H=>∃xs x,bp K H a xs∧xs[i]? =some x,
  fun i H x H'=>∃y p,(∀xs,bp K H a xs→xs[i]? =some y)∧H p=none∧x=.ref p∧H'=upd H p (.tup [.int i,y]),
  fun i H=>∃xs,bp K H a xs∧xs.length≤i⟩
theorem Bm {P:Program} {w:World} {K:PySem.W.Frag} {elts:List Expr} {x1} {tpos:Pos} (a e it:Addr) (hne:e≠it):
  Turn P w K (.Tuple elts x1 tpos) (Bl K a) [e,it] e (fun i h=>(∃old,IsEnum h e it i old)∧h.IsListIter it a i) where
 mem:=by simp
 obj:=fun i h st b hb=>by
  obtain⟨⟨old,st1⟩,st2⟩:=st
  rcases List.mem_cons.mp hb with z | z
  ·subst z;exact⟨_,st1,fun v z=>by cases z⟩
  ·have z':b=it:=by simpa using z
   subst z'
   obtain⟨o,e,c,d⟩:=st2
   exact⟨o,e,fun v z=>by rw[d] at z;cases z⟩
 keep:=fun i h h' st k=>by
  obtain⟨⟨old,st1⟩,st2⟩:=st
  exact⟨⟨old,k e (by simp) _ st1⟩,st2.at fun o q=>k it (by simp) o q⟩
 item:=by
  intro X hP hw hK hc i pins s σ H E I hf st hg
  subst hP hw hK
  obtain⟨⟨old,st1⟩,st2⟩:=st
  obtain⟨xs,x,hq,hx⟩:=hg
  obtain⟨its,rv,p,hz⟩:=I.list hq
  obtain⟨u,hu,ru⟩:=rv.get hx
  refine wpAny_pyNext_enum_item st1 st2 p.isList (x:=u) (by simpa using hu) hne fun h1 eo SU ht hsz kk=>?_
  have nn:H s.heap.objs.size=none:=I.hok.fresh (Nat.le_refl _)
  have I1:Inv X pins σ (upd H s.heap.objs.size (.tup [.int i,x])) {s with heap:=h1,toks:=s.toks+1}:=
   I.lU (ch:=[e,it]) hf (fun b o hb q=>kk b o (fun z=>hb (by simp[z])) (fun z=>hb (by simp[z])) q) (Nat.le_refl _)
    ⟨⟨by show 2≤sizeLine;decide,_,ht,rfl⟩,[.int i s.toks,u],.cons ⟨_,rfl⟩ (.cons ru .nil),⟨_,ht,rfl,_,rfl⟩⟩
  have le:e<s.heap.objs.size:=Heap.lt_size st1
  have li:it<s.heap.objs.size:=by obtain⟨o,q,_⟩:=id st2;exact Heap.lt_size q
  refine⟨_,rfl,wpAny_letOwnedTupleGo_enum eo fun h2 e2 sb=>?_⟩
  obtain⟨f0,f1,f2,f3,f4,f5⟩:=hf e (by simp)
  have I2:=I1.turned (h':=h2) (t':=s.toks+1) (it:=e) (fun b o hb q=>(sb.2 b hb).trans q) (by rw[ak (Nat.ne_of_lt le)];exact f0) f1 f3 f4 f5
  refine⟨.ref s.heap.objs.size,_,I2,rfl,⟨x,s.heap.objs.size,fun ys hy=>by rw[I.ia hy hq];exact hx,nn,rfl,rfl⟩,⟨⟨u,by simpa using e2⟩,SU.at fun o q=>(sb.2 it (Ne.symm hne)).trans q⟩,fun b hb=>?_⟩
  rcases List.mem_cons.mp hb with z | z
  ·subst z;rw[ak (Nat.ne_of_lt le)];exact f0
  ·have z':b=it:=by simpa using z
   subst z';rw[ak (Nat.ne_of_lt li)];exact(hf b (by simp)).1
 done:=by
  intro X hP hw hK hc i pins s σ H E I hf st hg
  subst hP hw hK
  obtain⟨⟨old,st1⟩,st2⟩:=st
  obtain⟨xs,hq,hx⟩:=hg
  obtain⟨its,rv,p,hz⟩:=I.list hq
  obtain⟨f0,f1,f2,f3,f4,f5⟩:=hf it (by simp)
  have hl:=rv.length
  exact wpAny_pyNext_enum_end (I.ok.hd hc) st1 st2 p.isList (by simp;omega) fun h' eb=>⟨rfl,I.turned (t':=s.toks) (fun b o hb e=>eb b o hb e) f0 f1 f3 f4 f5⟩
 self:=fun _ _ _ _ _ st h=>by
  obtain⟨⟨old,st1⟩,st2⟩:=st
  exact wpAny_pyIter_enum st1 h
def L7 (K:PySem.W.Frag) (ta:TA):TI:=fun σ H R=>ta σ H fun vs H1=>∃a,vs=[.ref a]∧(∃xs,bp K H1 a xs)∧R (Bl K a) H1
theorem Gz {X:Cx} {elts:List Expr} {x1} {tpos:Pos} {a:Expr} {ta:TA} {p pos:Pos} (hg:Gl X "enumerate") (hm:X.mg "enumerate"=none) (ha:PA X [a] ta) (hs:starEach [a] X.env=[(false,eval a X.env)]:=by rfl):
  PI X (.Tuple elts x1 tpos) (.Call (.Name "enumerate" p) [a] [] pos) (L7 X.K ta):=by
 intro pins s σ H R I h
 refine Call_ (gc I hg hm boot_enumerate (PyProof.Rows.callWith_type1 (aE (ha pos pins s σ H _ I h) fun us s1 ⟨vs,H1,I1,r1,q1⟩=>?_) hs rfl))
 obtain⟨l,e,⟨xs,hq⟩,q⟩:=q1
 subst e
 cases r1 with
 | cons r rr=>
  cases rr
  cases r
  obtain⟨its,rv,pl,hz⟩:=I1.list hq
  refine call_enumerate_list pl.isList fun h' he hit hsz kk=>?_
  have I2:Inv X pins σ H1 {s1 with heap:=h'}:=I1.kept (t':=s1.toks) kk
  refine wpAny_pyIter_enum he ?_
  refine⟨s1.heap.objs.size+1,[s1.heap.objs.size+1,s1.heap.objs.size],_,_,H1,rfl,I2,Bm l _ _ (Nat.succ_ne_self _),⟨⟨_,by simpa using he⟩,hit⟩,fun b hb=>?_,q⟩
  rcases List.mem_cons.mp hb with z | z
  ·subst z;exact I1.jB (Nat.le_succ _) (I1.hok.fresh (Nat.le_succ _))
  ·have z':b=s1.heap.objs.size:=by simpa using z
   subst z';exact I1.jB (Nat.le_refl _) (I1.hok.fresh (Nat.le_refl _))
theorem DF {K:PySem.W.Frag} {a:Addr} {xs:List V} {g:TG} {tb:TS} {D:Ends} {σ:St} {H:Hp} (Pv:Nat→St→Hp→Prop) (h0:Pv 0 σ H) (hl:∀i σ H,i≤xs.length→Pv i σ H→bp K H a xs)
  (hs:∀i x p σ H,xs[i]? =some x→Pv i σ H→H p=none→g (.ref p) σ (upd H p (.tup [.int i,x])) fun σ2 H2=>tb {D with nx:=Pv (i+1),ct:=Pv (i+1),bk:=D.nx} σ2 H2) (hd:∀σ H,Pv xs.length σ H→D.nx σ H):
  ∃W:Nat→Nat→St→Hp→Prop,(∃m,W 0 m σ H)∧∀i m σ H,W i m σ H→
   ((Bl K a).stop i H∧D.nx σ H)∨((Bl K a).go i H∧∃N:St→Hp→Prop,(∀σ' H',N σ' H'→∃m',m'<m∧W (i+1) m' σ' H')∧∀x H',(Bl K a).ql i H x H'→g x σ H' fun σ2 H2=>tb {D with nx:=N,ct:=N,bk:=D.nx} σ2 H2):=by
 refine⟨fun i m σ H=>m=xs.length-i∧i≤xs.length∧Pv i σ H,⟨xs.length,by simp,Nat.zero_le _,h0⟩,?_⟩
 rintro i m σ H ⟨rfl,hi,p⟩
 have q:=hl i σ H hi p
 by_cases hlt:i<xs.length
 ·refine .inr ⟨⟨xs,xs[i],q,by simp[hlt]⟩,Pv (i+1),fun σ' H' p'=>⟨xs.length-(i+1),by omega,rfl,hlt,p'⟩,fun x H' y=>?_⟩
  obtain⟨z,pa,hz,hn,e1,e2⟩:=y
  subst e1 e2
  exact hs i z pa σ H (hz xs q) p hn
 ·have e:i=xs.length:=by omega
  subst e
  exact .inl ⟨⟨xs,q,Nat.le_refl _⟩,hd σ H p⟩
def f_ (env:Env):List (Str×NameKind)→List (Str×Addr)→List (Str×Addr)
 | [],cs=>cs
 | (n,k)::r,cs=>f_ env r (if k == .free then(n,(env.cells.lookup n).getD 0)::cs else cs)
theorem qy {env:Env}:∀(names:List (Str×NameKind)) (cs:List (Str×Addr)),(∀y∈names,y.2=.free→∃c,env.cells.lookup y.1=some c)→
  (forIn names cs fun(x:Str×NameKind) (r:List (Str×Addr))=>(match x with
   | (name,kind)=>if(kind == NameKind.free)=true then(cellOf env name >>= fun a=>pure (ForInStep.yield ((name,a)::r)):Sem (ForInStep (List (Str×Addr)))) else pure (ForInStep.yield r)))=pure (f_ env names cs)
 | [],cs,_=>rfl
 | (n,k)::r,cs,h=>by
  have ih:=fun cs'=>qy r cs' fun y hy=>h y (List.mem_cons_of_mem _ hy)
  rw[List.forIn_cons]
  by_cases hk:k=.free
  ·subst hk
   obtain⟨c,hc⟩:=h (n,.free) List.mem_cons_self rfl
   have e:cellOf env n=pure c:=by unfold cellOf;rw[hc]
   simp only[beq_self_eq_true,if_true,e,pure_bind]
   rw[ih]
   show _=pure (f_ env r (if(NameKind.free == NameKind.free)=true then _ else _))
   rw[hc];rfl
  ·have hb:(k == NameKind.free)=false:=by simpa using hk
   simp only[hb,Bool.false_eq_true,if_false,pure_bind]
   rw[ih]
   show _=pure (f_ env r (if(k == NameKind.free)=true then _ else _))
   rw[hb];rfl
theorem j1 {env:Env} {scope:Scope} (h:∀y∈scope.names,y.2=.free→∃c,env.cells.lookup y.1=some c):closureFor scope env=pure (f_ env scope.names []):=by
 unfold closureFor
 have e:=qy (env:=env) scope.names [] h
 show((forIn scope.names [] _:Sem (List (Str×Addr))) >>= fun cs=>pure cs)=_
 rw[bind_pure]
 refine Eq.trans ?_ e
 first
  | rfl
  | (congr 1;funext x r;obtain⟨n,k⟩:=x;dsimp only;split<;>simp)
theorem vU {env:Env} {x:Str} {c:Addr}:∀(names:List (Str×NameKind)) (cs:List (Str×Addr)),(x,c)∈f_ env names cs→(x,c)∈cs∨((x,NameKind.free)∈names∧c=(env.cells.lookup x).getD 0)
 | [],cs,h=>.inl h
 | (n,k)::r,cs,h=>by
  have h':(x,c)∈f_ env r (if(k == NameKind.free)=true then(n,(env.cells.lookup n).getD 0)::cs else cs):=h
  rcases vU r _ h' with z | ⟨z1,z2⟩
  ·by_cases hk:k=.free
   ·subst hk
    simp only[beq_self_eq_true,if_true,List.mem_cons] at z
    rcases z with z | z
    ·cases z;exact .inr ⟨List.mem_cons_self,rfl⟩
    ·exact .inl z
   ·have hb:(k == NameKind.free)=false:=by simpa using hk
    rw[hb] at z
    exact .inl z
  ·exact .inr ⟨List.mem_cons_of_mem _ z1,z2⟩
theorem tW {env:Env} {p:Str×Addr}:∀(names:List (Str×NameKind)) (cs:List (Str×Addr)),p∈cs→p∈f_ env names cs
 | [],cs,h=>h
 | (n,k)::r,cs,h=>by
  show p∈f_ env r (if(k == NameKind.free)=true then(n,(env.cells.lookup n).getD 0)::cs else cs)
  refine tW r _ ?_
  split
  ·exact List.mem_cons_of_mem _ h
  ·exact h
theorem vV {env:Env} {x:Str}:∀(names:List (Str×NameKind)) (cs:List (Str×Addr)),(x,NameKind.free)∈names→(x,(env.cells.lookup x).getD 0)∈f_ env names cs
 | [],_,h=>by cases h
 | (n,k)::r,cs,h=>by
  show _∈f_ env r (if(k == NameKind.free)=true then(n,(env.cells.lookup n).getD 0)::cs else cs)
  rcases List.mem_cons.mp h with z | z
  ·cases z
   exact tW r _ (by simp)
  ·exact vV r _ z
theorem kS {α β:Type} [BEq α] [LawfulBEq α] {x:α} {c:β}:∀{l:List (α×β)},l.lookup x=some c→(x,c)∈l
 | [],h=>by simp at h
 | (n,k)::r,h=>by
  rw[List.lookup_cons] at h
  by_cases e:x=n
  ·subst e;simp at h;subst h;exact List.mem_cons_self
  ·have:(x == n)=false:=by simpa using e
   rw[this] at h
   exact List.mem_cons_of_mem _ (kS h)
theorem kT {α β:Type} [BEq α] [LawfulBEq α] {x:α} {c:β}:∀{l:List (α×β)},(x,c)∈l→∃c',l.lookup x=some c'
 | [],h=>by cases h
 | (n,k)::r,h=>by
  rw[List.lookup_cons]
  by_cases e:x=n
  ·subst e;simp
  ·have q:(x == n)=false:=by simpa using e
   rw[q]
   rcases List.mem_cons.mp h with z | z
   ·cases z;exact absurd rfl e
   ·exact kT z
theorem dE {env:Env} {x:Str} {k':NameKind}:∀{names:List (Str×NameKind)},
  (names.map fun(n,k)=>if(k == NameKind.free&&env.scope.kind == .function&&env.kindOf n == some .cell) then(n,NameKind.cell) else(n,k)).lookup x=some k'→
  (x,k')∈names∨(k'=.cell∧(x,NameKind.free)∈names)
 | [],h=>by simp at h
 | (n,k)::r,h=>by
  rw[List.map_cons,List.lookup_cons] at h
  dsimp only at h
  by_cases e:x=n
  ·subst e
   by_cases hc:(k == NameKind.free&&env.scope.kind == .function&&env.kindOf x == some .cell)=true
   ·rw[if_pos hc] at h
    simp at h
    have hk:k=.free:=by
     simp only[Bool.and_eq_true,beq_iff_eq] at hc
     exact hc.1.1
    subst hk
    exact .inr ⟨h.symm,List.mem_cons_self⟩
   ·rw[if_neg hc] at h
    simp at h
    subst h
    exact .inl List.mem_cons_self
  ·have q:(x == (if(k == NameKind.free&&env.scope.kind == .function&&env.kindOf n == some .cell)=true then(n,NameKind.cell) else(n,k)).1)=false:=by
    split<;>simpa using e
   rw[q] at h
   rcases dE h with z | ⟨z1,z2⟩
   ·exact .inl (List.mem_cons_of_mem _ z)
   ·exact .inr ⟨z1,List.mem_cons_of_mem _ z2⟩
structure aF (X:Cx) (scope:Scope) (own aB:List Str) (bE:List Nat):Prop where
 cell:∀y∈scope.names,y.2≠.cell
 kind:scope.kind=.function
 names:∀y∈scope.names,y.2=.local→scope.names.lookup y.1=some .local
 free:∀y∈scope.names,y.2=.free→X.env.scope.names.lookup y.1=some .cell∨X.env.scope.names.lookup y.1=some .free
 SV:bE.length=aB.length
 SW:∀(i j:Nat),bE[i]? =some j→X.N[j]? =aB[i]?
 SX:∀x∈aB,(x,NameKind.free)∈scope.names∧scope.names.lookup x=some .free
def fA (X:Cx) (own aB:List Str) (scope:Scope) (C:Addr) (s₃:Shared) (H₃:Hp) (fp:List Addr):Cx:=
 {X with N:=own++aB,s₀:=s₃,H₀:=H₃,env:=compEnvC scope (f_ X.env scope.names []) C X.env,outer:=X.stack,stack:=X.stack,ex:=fp,fn:=fun _=>false,pn:=[],xe:=fun _ _=>False}
def vW (own:List Str) (bE:List Nat) (σ:St):St:=List.replicate own.length none++bE.map fun j=>(σ[j]?).join
section
variable {X:Cx} {pins:List (Addr×Obj)} {σ:List (Option V)} {H:Hp} {s:Shared} {scope:Scope} {own aB:List Str} {bE:List Nat}
theorem aF.cells (sc:aF X scope own aB bE) (ok:X.Ok):∀y∈scope.names,y.2=.free→∃c,X.env.cells.lookup y.1=some c:=fun y hy hf=>by
 rcases sc.free y hy hf with z | z
 ·exact ok.has y.1 (.inl z)
 ·exact ok.has y.1 (.inr z)
theorem aF.look (sc:aF X scope own aB bE) (ok:X.Ok) {x:Str} {c:Addr} (h:(f_ X.env scope.names []).lookup x=some c):X.env.cells.lookup x=some c∧(x,NameKind.free)∈scope.names:=by
 rcases vU _ _ (kS h) with z | ⟨z1,z2⟩
 ·cases z
 ·obtain⟨c',hc⟩:=sc.cells ok (x,.free) z1 rfl
  have hc':X.env.cells.lookup x=some c':=hc
  rw[hc'] at z2
  have z3:c=c':=z2
  subst z3
  exact⟨hc',z1⟩
theorem aF.E8 (sc:aF X scope own aB bE) (ok:X.Ok) {x:Str} (h:(x,NameKind.free)∈scope.names):∃c,(f_ X.env scope.names []).lookup x=some c∧X.env.cells.lookup x=some c:=by
 obtain⟨c,hc⟩:=kT (vV (env:=X.env) scope.names [] h)
 exact⟨c,hc,(sc.look ok hc).1⟩
theorem Inv.block {fp:List Addr} {h₄:Heap} {tk:Nat} (I:Inv X pins σ H s) (sc:aF X scope own aB bE) (hfp:∀b∈fp,ft X pins H b) (hfl:∀b∈fp,b<s.heap.objs.size)
  (k:∀b o,s.heap.get? b=some o→h₄.get? b=some o) (hn:h₄.Ns s.heap.objs.size fun _=>none):
  Inv (fA X own aB scope s.heap.objs.size s H fp) [] (vW own bE σ) H {s with heap:=h₄,toks:=tk}:=by
 have ok:=I.ok
 refine⟨⟨ok.mod,by show(relabel scope X.env).kind=_;exact sc.kind,ok.glob,ok.blt,Nat.le_refl _,?_,?_,fun x c h=>(nomatch h),ok.hd,ok.frames,.inl rfl,?_,fun b o e=>I.bs b o e,Nat.le_trans ok.m8 I.sz,?_,?_,I.stack,I.kJ⟩,rfl,I.bare,Un.kept k,?_,?_,I.fresh,?_,fun p hp=>(nomatch hp),I.hok.kept k,?_⟩
 ·intro x y c e1 e2
  exact ok.inj x y c (sc.look ok e1).1 (sc.look ok e2).1
 ·intro x h
  have mem:(x,NameKind.free)∈scope.names:=by
   rcases h with h | h
   ·rcases dE h with z | ⟨_,z⟩
    ·exact absurd rfl (sc.cell _ z)
    ·exact z
   ·rcases dE h with z | ⟨z,_⟩
    ·exact z
    ·cases z
  obtain⟨c,hc,_⟩:=sc.E8 ok mem
  exact⟨c,hc⟩
 ·intro b hb
  obtain⟨f0,f1,f2,f3,f4,f5⟩:=hfp b hb
  exact⟨Nat.ne_of_lt (hfl b hb),fun x c e=>f4 x c (sc.look ok e).1⟩
 ·intro b o e hb
  rcases(hfp b hb).2.2.2.1 with z | z
  ·exact ok.vE b o e z
  ·exact absurd (Nat.lt_of_lt_of_le (Heap.lt_size e) (Nat.le_trans ok.m8 z)) (Nat.lt_irrefl _)
 ·intro b hb hfs
  obtain⟨f0,f1,f2,_⟩:=hfp b hb
  rcases List.mem_cons.mp (I.m9 b hfs) with z | z
  ·exact f1 z
  ·exact f2 z
 ·refine⟨_,hn,fun i x v e1 e2 e3=>?_⟩
  have e1':(own++aB)[i]? =some x:=e1
  have e2':(List.replicate own.length none++bE.map fun j=>(σ[j]?).join)[i]? =some (some v):=e2
  by_cases hi:i<own.length
  ·rw[List.getElem?_append_left (by simpa using hi)] at e2'
   rw[List.getElem?_replicate] at e2'
   split at e2'<;>cases e2'
  ·rw[List.getElem?_append_right (by simp;omega),List.length_replicate] at e2'
   rw[List.getElem?_append_right (by omega)] at e1'
   rw[List.getElem?_map] at e2'
   cases ej:bE[i-own.length]? with
   | none=>rw[ej] at e2';cases e2'
   | some j=>
    rw[ej] at e2'
    have zR:(σ[j]?).join=some v:=by simpa using e2'
    have e4:σ[j]? =some (some v):=by
     cases q:σ[j]? with
     | none=>rw[q] at zR;cases zR
     | some o=>rw[q] at zR;simpa using zR
    have e5:=(sc.SW _ j ej).trans e1'
    obtain⟨hm,hlk⟩:=sc.SX x (List.mem_of_getElem? e1')
    obtain⟨m,WD,hl⟩:=I.loc
    have hv:yy X.env.scope x:=by
     rcases sc.free (x,.free) hm rfl with z | z
     ·exact .inr (.inl z)
     ·exact .inr (.inr z)
    obtain⟨u,r,lk⟩:=hl j x v e5 e4 hv
    refine⟨u,r,.inr ?_⟩
    obtain⟨c,hc,hc'⟩:=sc.E8 ok hm
    have HQ:h₄.IsCell c (some u):=by
     rcases lk with⟨z,_⟩ | ⟨_,c',hx,⟨o,ho,hd⟩⟩
     ·exfalso
      have z':X.env.scope.names.lookup x=some .local:=z
      rcases sc.free (x,.free) hm rfl with q | q
      ·rw[show X.env.scope.names.lookup x=some .cell from q] at z';cases z'
      ·rw[show X.env.scope.names.lookup x=some .free from q] at z';cases z'
     ·rw[hc'] at hx;cases hx
      exact⟨o,k _ o ho,hd⟩
    refine⟨?_,c,hc,HQ⟩
    have e3':yy (relabel scope X.env) x:=e3
    rcases e3' with z | z | z
    ·exfalso
     rcases dE z with q | ⟨q,_⟩
     ·have:=sc.names _ q rfl
      rw[show scope.names.lookup x=some .local from this] at hlk
      cases hlk
     ·cases q
    ·exact .inl z
    ·exact .inr z
 ·intro x c e
  obtain⟨v,o,ho,hd⟩:=I.cell x c (sc.look ok e).1
  exact⟨v,o,k _ o ho,hd⟩
 ·intro x c e
  exact I.fM x c (sc.look ok e).1
 ·show(List.replicate own.length none++bE.map fun j=>(σ[j]?).join).length=(own++aB).length
  simp[sc.SV]
end
theorem lV {prog:Program} {w:World} {A:Around} {R:Result→Shared→Prop} {s:Shared} {elt target iter:Expr} {ifs:List Expr} {scope:Scope} {pos:Pos} {it acc:Value} {env:Env} (I:Nat→Shared→Prop)
  (turn:∀n s,I n s→wpAny (model prog w) A (pyNext it) (fun r s₁=>match r with
   | none=>R (.ok .next) s₁
   | some v=>wpAny (model prog w) A (letOwnedTupleGo target it v) (fun _ s₁'=>wpAny (model prog w) A (assign target env v) (fun _ s₂=>
     wpAny (model prog w) A (forIn ifs true fun c r=>if r=true then do let ok ←isTrue c env (eval c env);pure (ForInStep.yield ok) else pure (ForInStep.yield r)) (fun ok s₃=>
      if ok=true then wpAny (model prog w) A (eval elt env) (fun x s₄=>
       wpAny (model prog w) A (call (.builtin "list.append") [acc,x]) (fun _ s₅=>∃m,m<n∧I m s₅) (fun _ _=>False) s₄) (fun _ _=>False) s₃
      else ∃m,m<n∧I m s₃) (fun _ _=>False) s₂) (fun _ _=>False) s₁') (fun _ _=>False) s₁) (fun _ _=>False) s)
  (n:Nat) (h:I n s):
  codeAny (model prog w) A (.compLoop (.ListComp elt [⟨target,iter,ifs,0⟩] scope pos) 0 it acc env) R s:=by
 refine codeAny_loop rfl I (fun n s hI=>?_) n h
 show wpAny _ A ((compTurn (.ListComp elt [⟨target,iter,ifs,0⟩] scope pos) 0 it acc env).onRaise (fun x=>do noteFrame x env;theTreesLotGoes x)) _ _ s
 refine wpAny_noted ?_
 rw[compTurn_list]
 refine wpAny_bind (wpAny_standAt (wpAny_bind (wpAny_mono (turn n s hI) (fun r s₁ h₁=>?_) fun _ _ h'=>h'.elim)))
 cases r with
 | none=>exact wpAny_pure h₁
 | some v=>
  refine wpAny_bind (wpAny_mono h₁ (fun _ s₁' h₁'=>?_) fun _ _ h'=>h'.elim)
  refine wpAny_bind (wpAny_mono h₁' (fun _ s₂ h₂=>wpAny_bind (wpAny_mono h₂ (fun ok s₃ h₃=>?_) fun _ _ h'=>h'.elim)) fun _ _ h'=>h'.elim)
  cases ok with
  | false=>exact wpAny_pure ⟨rfl,h₃⟩
  | true=>
   exact wpAny_bind (wpAny_bind (wpAny_mono h₃ (fun x s₄ h₄=>wpAny_bind (wpAny_mono h₄ (fun _ s₅ h₅=>wpAny_pure (wpAny_pure ⟨rfl,h₅⟩)) fun _ _ h'=>h'.elim)) fun _ _ h'=>h'.elim))
def rK (X:Cx) (ifs:List Expr) (t:TT):Prop:=
 ∀(pins:List (Addr×Obj)) (s:Shared) (σ:St) (H:Hp) (Q:Bool→Hp→Prop),Inv X pins σ H s→t σ H Q→
  wpAny (model X.prog X.w) X.A (forIn ifs true fun c r=>if r=true then do let ok ←isTrue c X.env (eval c X.env);pure (ForInStep.yield ok) else pure (ForInStep.yield r)) (TP X pins σ Q) X.xe s
def L8:TT:=fun _ H Q=>Q true H
theorem bL {X:Cx}:rK X [] L8:=fun _ _ _ H _ I h=>wpAny_tests_nil ⟨H,I,h⟩
theorem lW {X:Cx} {c:Expr} {t:TT} (h:PT X c t):rK X [c] t:=fun pins s σ H Q I hq=>wpAny_tests_one (h pins s σ H Q I hq)
def j3 (J:It) (g:TG) (tt:TT) (te:TE) (D:Addr) (σ:St) (H:Hp) (R:Hp→Prop):Prop:=
 ∃W:Nat→Nat→St→Hp→Prop,(∃m,W 0 m σ H)∧∀i m σ H,W i m σ H→(J.stop i H∧R H)∨(J.go i H∧∃N:St→Hp→Prop,(∀σ' H',N σ' H'→∃m',m'<m∧W (i+1) m' σ' H')∧
  ∀x H',J.ql i H x H'→g x σ H' fun σ2 H2=>tt σ2 H2 fun b H3=>if b=true then te σ2 H3 fun y H4=>∃ys,H4 D=some (.lst ys)∧ys.length<sizeLine∧N σ2 (upd H4 D (.lst (ys++[y]))) else N σ2 H3)
section
variable {X:Cx} {scope:Scope} {own aB:List Str} {bE:List Nat} {elt tg iter:Expr} {ifs:List Expr} {pos:Pos} {g:TG} {tt:TT} {te:TE}
theorem qz {pins:List (Addr×Obj)} {σ:St} {H:Hp} {s:Shared} {J:It} {fp:List Addr} {it:Addr} {tn:Nat→Heap→Prop} {R:Addr→Hp→Prop} {RR:Value→Addr→Result→Shared→Prop} {E:Value→Shared→Prop}
  (sc:aF X scope own aB bE) (hc:X.calm=true)
  (hg:∀C s₃ H₃ fp,PG (fA X own aB scope C s₃ H₃ fp) tg g) (ht:∀C s₃ H₃ fp,rK (fA X own aB scope C s₃ H₃ fp) ifs tt) (he:∀C s₃ H₃ fp,PE (fA X own aB scope C s₃ H₃ fp) elt te)
  (I:Inv X pins σ H s) (T:Turn X.prog X.w X.K tg J fp it tn) (st:tn 0 s.heap) (hfp:∀b∈fp,ft X pins H b)
  (h:∀D,H D=none→j3 J g tt te D (vW own bE σ) (upd H D (.lst [])) (R D))
  (hRR:∀D C H' s' m,Inv X pins σ H' s'→s.heap.objs.size≤C→s'.heap.Ns C m→H' C=none→R D H'→RR (.ref D) C (.ok .next) s'):
  wpAny (model X.prog X.w) X.A (newList []) (fun acc s₃=>wpAny (model X.prog X.w) X.A (newFunctionEnv scope X.env.globals (f_ X.env scope.names []) [] X.env.qual none .none (some X.env)) (fun cenv s₄=>
   codeAny (model X.prog X.w) X.A (.compStart (.ListComp elt [⟨tg,iter,ifs,0⟩] scope pos) 0 (.ref it) acc {cenv with scope:=relabel scope X.env}) (RR acc cenv.locals) s₄) E s₃) E s:=by
 refine wpAny_newObj_type (wpAny_newFunctionEnv sc.cell (by intro y hy;simp at hy) (fun h₁ hns₁ hsb₁=>?_) sc.kind)
 dsimp only at hns₁ hsb₁ ⊢
 have hD:=I.fresh
 have I3:Inv X pins σ (upd H s.heap.objs.size (.lst [])) {s with heap:=s.heap.push {cls:=.type "list",dict:=none,data:=.seq ([]:List Value).toArray}}:=I.OL (its:=[]) (t':=s.toks) .nil (Nat.zero_le _)
 have hsz:(s.heap.push {cls:=.type "list",dict:=none,data:=.seq ([]:List Value).toArray}).objs.size=s.heap.objs.size+1:=Heap.size_push ..
 generalize hs3:({s with heap:=s.heap.push {cls:=.type "list",dict:=none,data:=.seq ([]:List Value).toArray}}:Shared)=s₃ at I3
 have hh3:s.heap.push {cls:=.type "list",dict:=none,data:=.seq ([]:List Value).toArray}=s₃.heap:=by rw[←hs3]
 rw[hh3] at hns₁ hsb₁ hsz ⊢
 have hfl:∀b∈fp,b<s.heap.objs.size:=fun b hb=>by
  obtain⟨o,e,_⟩:=T.obj 0 _ st b hb
  exact Heap.lt_size e
 have DG:∀b∈fp,ft X pins (upd H s.heap.objs.size (.lst [])) b:=fun b hb=>by
  obtain⟨f0,f⟩:=hfp b hb
  exact⟨by rw[ak (Nat.ne_of_lt (hfl b hb))];exact f0,f⟩
 have OQ:∀b∈fp,b<s₃.heap.objs.size:=fun b hb=>by rw[hsz];exact Nat.lt_succ_of_lt (hfl b hb)
 have k4:∀b o,s₃.heap.get? b=some o→h₁.get? b=some o:=fun b o e=>(hsb₁.2 b (Nat.ne_of_lt (Heap.lt_size e))).trans (Heap.get?_push_of_some _ e)
 have k3:∀b o,s.heap.get? b=some o→s₃.heap.get? b=some o:=fun b o e=>by rw[←hh3];exact Heap.get?_push_of_some _ e
 have hnone:(fun x:Str=>List.lookup x ([]:List (Str×Value)).reverse)=fun _=>none:=by funext x;rfl
 have L9:h₁.Ns s₃.heap.objs.size fun _=>none:=by
  have q:=hns₁
  first
   | exact q
   | (rw[hnone] at q;exact q)
 have I4:=I3.block (own:=own) (tk:=s.toks+([]:List (Str×Value)).length) sc DG OQ k4 L9
 have E9:tn 0 h₁:=T.keep _ _ _ st fun b hb o e=>k4 b o (k3 b o e)
 generalize hX:fA X own aB scope s₃.heap.objs.size s₃ (upd H s.heap.objs.size (.lst [])) fp=X' at I4
 have M1:X'.prog=X.prog:=by rw[←hX];rfl
 have M3:X'.w=X.w:=by rw[←hX];rfl
 have SY:X'.K=X.K:=by rw[←hX];rfl
 have S_:X'.A=X.A:=by rw[←hX];rfl
 have M4:X'.calm=true:=by rw[←hX];exact hc
 have S0:X'.xe=fun _ _=>False:=by rw[←hX];rfl
 have S3:X'.env=compEnvC scope (f_ X.env scope.names []) s₃.heap.objs.size X.env:=by rw[←hX];rfl
 have hg':PG X' tg g:=by rw[←hX];exact hg _ _ _ _
 have ht':rK X' ifs tt:=by rw[←hX];exact ht _ _ _ _
 have he':PE X' elt te:=by rw[←hX];exact he _ _ _ _
 have S4:∀{H':Hp} {s':Shared} {σ':St},Inv X' [] σ' H' s'→Inv X pins σ H' s'∧(∃m,s'.heap.Ns s₃.heap.objs.size m)∧H' s₃.heap.objs.size=none:=by
  intro H' s' σ' I'
  subst hX
  refine⟨I3.call' (ch:=fp) I'.os I'.base I'.hok I'.bare fun b hb=>?_,let ⟨m,hn,_⟩:=I'.loc;⟨m,hn⟩,I'.free⟩
  obtain⟨f0,f1,f2,f3,f4,f5⟩:=DG b hb
  exact⟨f3,f1,f4,f5⟩
 have stat:∀{H':Hp},(∀b∈fp,H' b=none)→∀b∈fp,ft X' [] H' b:=by
  intro H' hn b hb
  subst hX
  obtain⟨a1,a2⟩:=I4.ok.Ho b hb
  exact⟨hn b hb,a1,I4.ok.vF b hb,.inl hb,a2,fun p hp=>by cases hp⟩
 obtain⟨W,⟨m0,w0⟩,turn⟩:=h s.heap.objs.size hD
 have loop:codeAny (model X.prog X.w) X.A (.compLoop (.ListComp elt [⟨tg,iter,ifs,0⟩] scope pos) 0 (.ref it) (.ref s.heap.objs.size) X'.env) (RR (.ref s.heap.objs.size) s₃.heap.objs.size)
   {s₃ with heap:=h₁,toks:=s.toks+([]:List (Str×Value)).length}:=by
  refine lV (fun n s'=>∃i σ' H',Inv X' [] σ' H' s'∧tn i s'.heap∧(∀b∈fp,H' b=none)∧W i n σ' H') ?_ m0 ⟨0,_,_,I4,E9,fun b hb=>(DG b hb).1,w0⟩
  rintro n s5 ⟨i,σ5,H5,I5,yB,EY,w5⟩
  rw[←M1,←M3,←S_]
  have Fb:∀{α:Type} {t:Sem α} {Q:α→Shared→Prop} {s:Shared},wpAny (model X'.prog X'.w) X'.A t Q X'.xe s→wpAny (model X'.prog X'.w) X'.A t Q (fun _ _=>False) s:=fun h=>by rw[S0] at h;exact h
  have T':Turn X'.prog X'.w X'.K tg J fp it tn:=by rw[M1,M3,SY];exact T
  rcases turn i n σ5 H5 w5 with⟨stop,q⟩ | ⟨go,N,hN,step⟩
  ·refine aE (T'.done X' rfl rfl rfl M4 i [] s5 σ5 H5 _ I5 (stat EY) yB stop) fun r s6 ⟨hr,I6⟩=>?_
   subst hr
   obtain⟨J1,⟨m,J2⟩,J3⟩:=S4 I6
   exact hRR _ _ H5 s6 m J1 (by rw[hsz];exact Nat.le_succ _) J2 J3 q
  ·refine aE (T'.item X' rfl rfl rfl M4 i [] s5 σ5 H5 _ I5 (stat EY) yB go) fun r s6 ⟨u,hr,h6⟩=>?_
   subst hr
   refine aE h6 fun _ s7 ⟨x,H7,I7,r7,y7,HR,S5⟩=>?_
   have S6:=I7.pinned (stat S5) (T'.obj _ _ HR)
   have again:∀{s9:Shared} {σ9:St} {H9:Hp},Inv X' ([]++ni fp s7.heap) σ9 H9 s9→N σ9 H9→∃m,m<n∧∃i σ' H',Inv X' [] σ' H' s9∧tn i s9.heap∧(∀b∈fp,H' b=none)∧W i m σ' H':=fun {s9 σ9 H9} I9 n9=>by
    obtain⟨m',hm,w9⟩:=hN σ9 H9 n9
    refine⟨m',hm,i+1,σ9,H9,I9.lM,T'.keep _ _ _ HR fun b hb o e=>(I9.pin (b,o) (List.mem_append_right _ (List.mem_append_right _ (ji hb e)))).1,fun b hb=>?_,w9⟩
    obtain⟨o,e,d⟩:=T'.obj _ _ HR b hb
    exact(I9.pin (b,o) (List.mem_append_right _ (List.mem_append_right _ (ji hb e)))).2.1
   refine aE (Fb (hg' _ s7 σ5 H7 x u _ S6 r7 (step x H7 y7))) fun _ s8 ⟨σ8,H8,I8,q8⟩=>?_
   refine aE (Fb (ht' _ s8 σ8 H8 _ I8 q8)) fun b s9 ⟨H9,I9,q9⟩=>?_
   cases b with
   | false=>exact again I9 (by simpa using q9)
   | true=>
    rw[if_pos rfl] at q9
    refine aE (Fb (he' _ s9 σ8 H9 _ I9 q9)) fun y S7 ⟨v,Bn,S8,r10,S9⟩=>?_
    obtain⟨ys,e10,z10,n10⟩:=S9
    refine aE (Fb (cV _ S7 σ8 Bn (.ref s.heap.objs.size) [v] (.ref s.heap.objs.size) [y] (fun _ H'=>H'=upd Bn s.heap.objs.size (.lst (ys++[v]))) S8 rfl (.cons r10 .nil) ⟨_,ys,v,rfl,rfl,e10,z10,rfl⟩)) fun u WE ⟨v',Fc,S',_,HS⟩=>?_
    subst HS
    exact again S' n10
 rw[S3] at loop
 have e4:({s with heap:=h₁,toks:=s.toks+([]:List (Str×Value)).length}:Shared)={s₃ with heap:=h₁,toks:=s.toks+([]:List (Str×Value)).length}:=by rw[←hs3]
 rw[e4]
 exact codeAny_compStart_list loop (T.self _ 0 _ _ _ E9 loop)
end
def Fd (own:List Str) (bE:List Nat) (wi:TI) (g:TG) (tt:TT) (te:TE):TE:=fun σ H Q=>wi σ H fun J H1=>∀D,H1 D=none→j3 J g tt te D (vW own bE σ) (upd H1 D (.lst [])) fun H'=>Q (.ref D) H'
section
variable {X:Cx} {scope:Scope} {own aB:List Str} {bE:List Nat} {elt tg iter:Expr} {ifs:List Expr} {pos:Pos} {wi:TI} {g:TG} {tt:TT} {te:TE}
theorem ck (sc:aF X scope own aB bE) (hc:X.calm=true) (hi:PI X tg iter wi)
  (hg:∀C s₃ H₃ fp,PG (fA X own aB scope C s₃ H₃ fp) tg g) (ht:∀C s₃ H₃ fp,rK (fA X own aB scope C s₃ H₃ fp) ifs tt) (he:∀C s₃ H₃ fp,PE (fA X own aB scope C s₃ H₃ fp) elt te)
  (hs:∀x,foldedSetIterable iter X.env x=pure x:=by intro _;rfl):PE X (.ListComp elt [⟨tg,iter,ifs,0⟩] scope pos) (Fd own bE wi g tt te):=by
 intro pins s σ H Q I h
 rw[eval_ListComp]
 refine wpAny_comprehension_free (use:=none) rfl hs (j1 (sc.cells I.ok)) sc.kind sc.names (aE (hi pins s σ H _ I h) fun v s1 h1=>aE h1 fun itv s2 h2=>?_)
 obtain⟨it,fp,tn,J,H2,e,I2,T,st2,f2,q⟩:=h2
 subst e
 refine qz (RR:=fun acc C=>compPost (model X.prog X.w) X.A X.xe none (EP X pins σ Q) acc C) (R:=fun D H'=>Q (.ref D) H') sc hc hg ht he I2 T st2 f2 q ?_
 intro D C H' s' m I' hC hn hf hq
 refine⟨m,hn,fun h' sb=>?_⟩
 obtain⟨f0,f1,f2,f3,f4,f5⟩:=I2.jB (H':=H') hC hf
 exact⟨.ref D,H',I'.turned (t':=s'.toks) (it:=C) (fun b o hb e=>(sb.2 b hb).trans e) f0 f1 f3 f4 f5,rfl,hq⟩
theorem g7 {i:Nat} {y:Str} {py spos:Pos} (sc:aF X scope own aB bE) (hc:X.calm=true) (hi:PI X tg iter wi)
  (hg:∀C s₃ H₃ fp,PG (fA X own aB scope C s₃ H₃ fp) tg g) (ht:∀C s₃ H₃ fp,rK (fA X own aB scope C s₃ H₃ fp) ifs tt) (he:∀C s₃ H₃ fp,PE (fA X own aB scope C s₃ H₃ fp) elt te)
  (hN:X.N.Nodup) (hi':X.N[i]? =some y) (hx:X.env.scope.names.lookup y=some .local)
  (hsw:swapsWith (.ListComp elt [⟨tg,iter,ifs,0⟩] scope pos) (some (.Name y py)) spos.line X.env=pure true:=by rfl)
  (hs:∀x,foldedSetIterable iter X.env x=pure x:=by intro _;rfl):PS X (.Assign [.Name y py] (.ListComp elt [⟨tg,iter,ifs,0⟩] scope pos) spos) (zH (Fd own bE wi g tt te) (aM i)):=by
 intro pins s σ H D I h
 rw[exec_Assign_Name_used _ _ _ _ hsw]
 refine wpAny_bind (wpAny_standAt (wpAny_bind ?_))
 show wpAny _ X.A (do let _ ←comprehension (.ListComp elt [⟨tg,iter,ifs,0⟩] scope pos) scope X.env _ (newList []) false (eval iter X.env) (some (assign (.Name y py) X.env))) _ _ s
 refine wpAny_bind (wpAny_mono (wpAny_comprehension_free (use:=some (assign (.Name y py) X.env)) (Q:=fun _ s'=>SP X pins D .next s') rfl hs (j1 (sc.cells I.ok)) sc.kind sc.names
  (aE (hi pins s σ H _ I h) fun v s1 h1=>aE h1 fun itv s2 h2=>?_)) (fun _ s' hq=>wpAny_pure (wpAny_pure hq)) fun _ _ e=>e)
 obtain⟨it,fp,tn,J,H2,e,I2,T,st2,f2,q⟩:=h2
 subst e
 refine qz (RR:=fun acc C=>compPost (model X.prog X.w) X.A X.xe (some (assign (.Name y py) X.env)) (fun _ s'=>SP X pins D .next s') acc C) (R:=fun E H'=>D.nx (σ.set i (some (.ref E))) H') sc hc hg ht he I2 T st2 f2 q ?_
 intro E C H' s' m I' hC hn hf hq
 show wpAny _ X.A (assign (.Name y py) X.env (.ref E)) _ _ _
 obtain⟨f0,f1,f2,f3,f4,f5⟩:=I2.jB (H':=H') hC hf
 refine wpAny_assign_Name (tK I' hN hi' (.inl hx) (v:=.ref E) (u:=.ref E) rfl (fun s3 I3 ⟨a,sb,ha⟩=>?_) (.inr hx))
 have Ta:C≠a:=by
  rcases ha with z | z
  ·rw[z];exact f1
  ·exact(f4 y a z).symm
 refine⟨m,hn.sameBut sb Ta,fun h' Tb=>?_⟩
 exact⟨_,H',I3.turned (t':=s3.toks) (it:=C) (fun b o hb e=>(Tb.2 b hb).trans e) f0 f1 f3 f4 f5,hq⟩
end
theorem jj {lo:Int} {n:Nat} {g:TG} {tt:TT} {te:TE} {D:Addr} {σ:St} {H:Hp} {R:Hp→Prop} (Pv:Nat→St→Hp→Prop) (h0:Pv 0 σ H)
  (hs:∀i σ H,i<n→Pv i σ H→g (.int (lo+i)) σ H fun σ2 H2=>tt σ2 H2 fun b H3=>if b=true then te σ2 H3 fun y H4=>∃ys,H4 D=some (.lst ys)∧ys.length<sizeLine∧Pv (i+1) σ2 (upd H4 D (.lst (ys++[y]))) else Pv (i+1) σ2 H3)
  (hd:∀σ H,Pv n σ H→R H):j3 (tM lo n) g tt te D σ H R:=by
 refine⟨fun i m σ H=>m=n-i∧i≤n∧Pv i σ H,⟨n,by simp,Nat.zero_le _,h0⟩,?_⟩
 rintro i m σ H ⟨rfl,hi,p⟩
 by_cases hlt:i<n
 ·refine .inr ⟨hlt,Pv (i+1),fun σ' H' p'=>⟨n-(i+1),by omega,rfl,hlt,p'⟩,fun x H' y=>?_⟩
  obtain⟨e,y⟩:=y
  subst e y
  exact hs i σ _ hlt p
 ·have e:i=n:=by omega
  subst e
  exact .inl ⟨Nat.le_refl _,hd σ H p⟩
theorem fB {K:PySem.W.Frag} {a:Addr} {xs:List V} {g:TG} {tt:TT} {te:TE} {D:Addr} {σ:St} {H:Hp} {R:Hp→Prop} (Pv:Nat→St→Hp→Prop) (h0:Pv 0 σ H) (hl:∀i σ H,i≤xs.length→Pv i σ H→bp K H a xs)
  (hs:∀i x σ H,xs[i]? =some x→Pv i σ H→g x σ H fun σ2 H2=>tt σ2 H2 fun b H3=>if b=true then te σ2 H3 fun y H4=>∃ys,H4 D=some (.lst ys)∧ys.length<sizeLine∧Pv (i+1) σ2 (upd H4 D (.lst (ys++[y]))) else Pv (i+1) σ2 H3)
  (hd:∀σ H,Pv xs.length σ H→R H):j3 (yA K a) g tt te D σ H R:=by
 refine⟨fun i m σ H=>m=xs.length-i∧i≤xs.length∧Pv i σ H,⟨xs.length,by simp,Nat.zero_le _,h0⟩,?_⟩
 rintro i m σ H ⟨rfl,hi,p⟩
 have q:=hl i σ H hi p
 by_cases hlt:i<xs.length
 ·refine .inr ⟨⟨xs,xs[i],q,by simp[hlt]⟩,Pv (i+1),fun σ' H' p'=>⟨xs.length-(i+1),by omega,rfl,hlt,p'⟩,fun x H' y=>?_⟩
  obtain⟨e,y⟩:=y
  subst e
  exact hs i x σ _ (y xs q) p
 ·have e:i=xs.length:=by omega
  subst e
  exact .inl ⟨⟨xs,q,Nat.le_refl _⟩,hd σ H p⟩
theorem ie {K:PySem.W.Frag} {a:Addr} {xs:List V} {g:TG} {tt:TT} {te:TE} {D:Addr} {σ:St} {H:Hp} {R:Hp→Prop} (Pv:Nat→St→Hp→Prop) (h0:Pv 0 σ H) (hl:∀i σ H,i≤xs.length→Pv i σ H→aU K H a xs)
  (hs:∀i x σ H,xs[i]? =some x→Pv i σ H→g x σ H fun σ2 H2=>tt σ2 H2 fun b H3=>if b=true then te σ2 H3 fun y H4=>∃ys,H4 D=some (.lst ys)∧ys.length<sizeLine∧Pv (i+1) σ2 (upd H4 D (.lst (ys++[y]))) else Pv (i+1) σ2 H3)
  (hd:∀σ H,Pv xs.length σ H→R H):j3 (vL K a) g tt te D σ H R:=by
 refine⟨fun i m σ H=>m=xs.length-i∧i≤xs.length∧Pv i σ H,⟨xs.length,by simp,Nat.zero_le _,h0⟩,?_⟩
 rintro i m σ H ⟨rfl,hi,p⟩
 have q:=hl i σ H hi p
 by_cases hlt:i<xs.length
 ·refine .inr ⟨⟨xs,xs[i],q,by simp[hlt]⟩,Pv (i+1),fun σ' H' p'=>⟨xs.length-(i+1),by omega,rfl,hlt,p'⟩,fun x H' y=>?_⟩
  obtain⟨e,y⟩:=y
  subst e
  exact hs i x σ _ (y xs q) p
 ·have e:i=xs.length:=by omega
  subst e
  exact .inl ⟨⟨xs,q,Nat.le_refl _⟩,hd σ H p⟩
section
variable {X:Cx}
def Ma (i j:Int):Prop:=0<j∧j.natAbs.log2<9000
theorem ig:cO X (binaryOp .FloorDiv) (rI Ma fun i j=>.int (i / j)):=E1 fun i j _ _ _ _ _ hc q=>by
 obtain⟨h0,h1⟩:=hc
 refine floordiv_int (by omega) ?_ (.inl (PyProof.noPylong_of_log2 h1))
 rw[Int.fdiv_eq_ediv_of_nonneg _ (by omega)]
 exact q
theorem Bo (hc:X.calm=true):dm X (.builtin "sum") (fun xs H Q=>∃(a:Addr) (ns:List Int),xs=[.ref a]∧bp X.K H a (ns.map V.int)∧Q (.int ns.sum) H):=by
 intro pins s σ H xs us Q I r h
 obtain⟨a,ns,rfl,hq,q⟩:=h
 obtain⟨u,rfl,ru⟩:=vals1 r
 cases ru
 obtain⟨its,rv,p,_⟩:=I.list hq
 have hi:IntsAre its ns:=intsAre_of rv
 have all:=hi.allInts
 obtain⟨ys,hy⟩:=all.items
 have e:(numsOf its.toArray.toList).sum=ns.sum:=by rw[show its.toArray.toList=its from rfl,hi.numsOf]
 have hl:=p.isList
 rw[hy] at hl e
 rw[nums_intItems] at e
 refine sum_intListG (I.ok.hd hc) hl fun h' tk t' k=>⟨.int (preSum (numAt ys) ys.size),H,I.kept k,⟨t',rfl⟩,?_⟩
 rw[preSum_eq,List.take_of_length_le (by simp)]
 first
  | (rw[e];exact q)
  | (simp only[e];exact q)
theorem yi:dm X (.builtin "isinstance") (fun xs H Q=>∃(x:V) (t:Value) (T:String) (b:Bool),xs=[x,.ty T]∧fZ X.K H x t∧PySem.W.kitOne X.K t (.type T)=some b∧Q (.bl b) H):=by
 intro pins s σ H xs us Q I r h
 obtain⟨x,t,T,b,rfl,ty,e,q⟩:=h
 obtain⟨u,w',rfl,rx,rT⟩:=vals2 r
 cases(show w'=Value.type T from rT)
 exact A7 I rx ty e fun tk=>⟨.bl b,H,I.tok tk,rfl,q⟩
theorem HU {K:PySem.W.Frag}:PySem.W.kitOne K (.type "int") (.type "int")=some true:=by rfl
theorem HV {K:PySem.W.Frag}:PySem.W.kitOne K (.type "int") (.type "bool")=some false:=by rfl
theorem vX {K:PySem.W.Frag}:PySem.W.kitOne K (.type "list") (.type "list")=some true:=by rfl
theorem vY {K:PySem.W.Frag}:PySem.W.kitOne K (.type "tuple") (.type "tuple")=some true:=by rfl
theorem yN:cO X (binaryOp .Add) (fun x y H Q=>∃(a b:Addr) (ys:List V),x=.ref a∧y=.ref b∧aU X.K H a []∧aU X.K H b ys∧Q (.ref b) H):=by
 intro pins s σ H x y v u Q I rx ry h
 obtain⟨a,b,ys,rfl,rfl,ha,hb,q⟩:=h
 cases rx
 cases ry
 obtain⟨its,r1,p1,_⟩:=I.tuple ha
 obtain⟨its2,r2,p2,_⟩:=I.tuple hb
 cases r1
 obtain⟨⟨cls,dd,data,sl⟩,ho,hc,n,hd⟩:=id p1
 obtain⟨⟨cls2,dd2,data2,sl2⟩,ho2,hc2,n2,hd2⟩:=id p2
 simp only at hc hd hc2 hd2
 subst hc hd hc2 hd2
 exact concat_meets ⟨_,ho,rfl⟩ ⟨_,ho2,rfl⟩ noFill_tuple_add seq_tuple_add PySem.F.slot_tuple_add PySem.F.entry_tuple_add (PySem.F.args_tuple_add_2 _ _)
  (tuple_addW0 a b #[] its2.toArray n n2 dd dd2 sl sl2 rfl) ⟨ho,ho2,⟨.ref b,H,I,rfl,q⟩⟩
def Fe (K:PySem.W.Frag):R2:=fun x y H Q=>∃(a b:Addr) (xs ys:List V),x=.ref a∧y=.ref b∧aU K H a xs∧aU K H b ys∧ys≠[]∧xs.length+ys.length≤sizeLine∧
 (xs=[]→Q (.ref b) H)∧(xs≠[]→∀p,H p=none→Q (.ref p) (upd H p (.tup (xs++ys))))
theorem GA:cO X (binaryOp .Add) (Fe X.K):=by
 intro pins s σ H x y v u Q I rx ry h
 obtain⟨a,b,xs,ys,rfl,rfl,ha,hb,hy,hz,q1,q2⟩:=h
 by_cases hx:xs=[]
 ·subst hx
  exact yN pins s σ H _ _ v u Q I rx ry ⟨a,b,ys,rfl,rfl,ha,hb,q1 rfl⟩
 ·exact yH pins s σ H _ _ v u Q I rx ry ⟨a,b,xs,ys,rfl,rfl,ha,hb,hx,hz,fun z=>absurd z hy,fun _=>q2 hx⟩
end
def tX (scope esc:Scope) (N own aB:List Str) (bE:List Nat):Bool:=
 scope.names.all (fun y=>y.2 != .cell)&&scope.kind == .function&&scope.names.all (fun y=>y.2 != .local||scope.names.lookup y.1 == some .local)
 &&scope.names.all (fun y=>y.2 != .free||(esc.names.lookup y.1 == some .cell||esc.names.lookup y.1 == some .free))
 &&bE.length == aB.length&&(List.range bE.length).all (fun i=>(bE[i]?).bind (fun j=>N[j]?) == aB[i]?)
 &&aB.all (fun x=>scope.names.contains (x,NameKind.free)&&scope.names.lookup x == some .free)
theorem aF.mk' {X:Cx} {scope esc:Scope} {N own aB:List Str} {bE:List Nat} (hs:X.env.scope=esc) (hN:X.N=N) (h:tX scope esc N own aB bE=true):aF X scope own aB bE:=by
 unfold tX at h
 simp only[Bool.and_eq_true,List.all_eq_true,bne_iff_ne,beq_iff_eq,Bool.or_eq_true,List.contains_iff_mem] at h
 obtain⟨⟨⟨⟨⟨⟨h1,h2⟩,h3⟩,h4⟩,h5⟩,h6⟩,h7⟩:=h
 refine⟨h1,h2,fun y hy hl=>?_,fun y hy hf=>?_,h5,fun i j e=>?_,fun x hx=>h7 x hx⟩
 ·rcases h3 y hy with z | z
  ·exact absurd hl z
  ·exact z
 ·rw[hs]
  rcases h4 y hy with z | z
  ·exact absurd hf z
  ·exact z
 ·have hi:i<bE.length:=(List.getElem?_eq_some_iff.mp e).1
  have q:=h6 i (List.mem_range.mpr hi)
  rw[e] at q
  rw[hN]
  exact q
def KB (d:Addr) (H H':Hp):Prop:=∀b o,H b=some o→b≠d→H' b=some o
theorem KB.refl (d:Addr) (H:Hp):KB d H H:=fun _ _ h _=>h
theorem KB.trans {d:Addr} {H H1 H2:Hp} (a:KB d H H1) (b:KB d H1 H2):KB d H H2:=fun c o h n=>b c o (a c o h n) n
theorem KB.write {d:Addr} {H:Hp} {o:HO}:KB d H (upd H d o):=fun b o h n=>by rw[ak n];exact h
theorem Same.kb {d:Addr} {H H':Hp} (s:Same H H'):KB d H H':=fun b o h _=>s b o h
theorem Same.new {H:Hp} {p:Addr} {o:HO} (h:H p=none):Same H (upd H p o):=fun b u e=>by rw[ak (aj e h)];exact e
theorem Same.kbn {d:Addr} {H H1 H2:Hp} (s:Same H H1) (h:H d=none) (k:KB d H1 H2):Same H H2:=fun b o e=>k b o (s b o e) (aj e h)
theorem Same.pN {K:PySem.W.Frag} {H H':Hp} {a:Addr} {xs:List V} (e:Same H H') (h:aU K H a xs):aU K H' a xs:=by
 rcases h with(h | ⟨o,h⟩) | h
 ·exact .inl (.inl (e _ _ h))
 ·exact .inl (.inr ⟨o,e _ _ h⟩)
 ·exact .inr h
def aZ (H H':Hp):Prop:=∀b xs,H b=some (.tup xs)→H' b=some (.tup xs)
theorem aZ.trans {H H1 H2:Hp} (a:aZ H H1) (b:aZ H1 H2):aZ H H2:=fun c o h=>b c o (a c o h)
theorem Same.kt {H H':Hp} (s:Same H H'):aZ H H':=fun b xs h=>s b _ h
theorem aZ.lst {H:Hp} {d:Addr} {xs:List V} {o:HO} (h:H d=some (.lst xs)):aZ H (upd H d o):=fun b ys e=>by
 rw[ak (fL e h (fun z=>nomatch z))];exact e
theorem aZ.kb {d:Addr} {xs:List V} {H H':Hp} (h:H d=some (.lst xs)) (k:KB d H H'):aZ H H':=fun b ys e=>k b _ e (fL e h (fun z=>nomatch z))
def cE (H:Hp) (ps:List Addr) (ls:List (List Int)):Prop:=Paired (fun p (l:List Int)=>H p=some (.tup (l.map V.int))) ps ls
theorem cE.keep {H H':Hp} {ps:List Addr} {ls:List (List Int)} (t:cE H ps ls) (k:aZ H H'):cE H' ps ls:=Paired.lJ t fun _ _ h=>k _ _ h
theorem cE.get {H:Hp}:∀{ps:List Addr} {ls:List (List Int)} {i:Nat} {p:Addr},cE H ps ls→ps[i]? =some p→∃l,ls[i]? =some l∧H p=some (.tup (l.map V.int))
 | _,_,_,_,.nil,e=>by simp at e
 | _,_,0,_,.cons r _,e=>by simp at e;subst e;exact⟨_,rfl,r⟩
 | _,_,i+1,p,.cons _ t,e=>by
  obtain⟨u,h1,h2⟩:=cE.get (i:=i) (p:=p) t (by simpa using e)
  exact⟨u,by simpa using h1,h2⟩
theorem bw {α β:Type} {F:α→β→Prop}:∀{xs ys:List α} {us ws:List β},Paired F xs us→Paired F ys ws→Paired F (xs++ys) (us++ws)
 | _,_,_,_,.nil,s=>s
 | _,_,_,_,.cons r t,s=>.cons r (bw t s)
end L2
namespace L2
open PySem
theorem cf:bootBuiltins "len"=some (.builtin "len"):=by decide+kernel
theorem Bp:bootBuiltins "abs"=some (.builtin "abs"):=by decide+kernel
theorem Bq:bootBuiltins "sum"=some (.builtin "sum"):=by decide+kernel
theorem bM:bootBuiltins "isinstance"=some (.builtin "isinstance"):=by decide+kernel
theorem tY:bootBuiltins "sorted"=some (.builtin "sorted"):=by decide+kernel
theorem HW:bootBuiltins "all"=some (.builtin "all"):=by decide+kernel
theorem oJ:bootBuiltins "list"=some (.type "list"):=by decide+kernel
theorem cy:bootBuiltins "tuple"=some (.type "tuple"):=by decide+kernel
theorem vZ:bootBuiltins "int"=some (.type "int"):=by decide+kernel
theorem rL:bootBuiltins "bool"=some (.type "bool"):=by decide+kernel
theorem oK:bootBuiltins "dict"=some (.type "dict"):=by decide+kernel
theorem HX:bootBuiltins "set"=some (.type "set"):=by decide+kernel
theorem yj:bootBuiltins "reversed"=some (.type "reversed"):=by decide+kernel
end L2
namespace L2
open PySem PySem.Spec PyProof.Rows
def OS (K:PySem.W.Frag):List V→Hp→VK→Prop:=fun xs H Q=>∃x n,xs=[x]∧HC K x H n∧Q (.int n) H
def OT (K:PySem.W.Frag):List V→Hp→VK→Prop:=fun xs H Q=>∃(a:Addr) (ns:List Int),xs=[.ref a]∧bp K H a (ns.map V.int)∧Q (.int ns.sum) H
def OU (K:PySem.W.Frag):List V→Hp→VK→Prop:=fun xs H Q=>∃(x:V) (t:Value) (T:String) (b:Bool),xs=[x,.ty T]∧fZ K H x t∧PySem.W.kitOne K t (.type T)=some b∧Q (.bl b) H
section
variable {X:Cx}
theorem bt (K:PySem.W.Frag) (hK:X.K=K:=by rfl):dm X (.builtin "len") (OS K):=by subst hK;exact DA
theorem tZ (K:PySem.W.Frag) (hc:X.calm=true:=by rfl) (hK:X.K=K:=by rfl):dm X (.builtin "sum") (OT K):=by subst hK;exact Bo hc
theorem cW (K:PySem.W.Frag) (hK:X.K=K:=by rfl):dm X (.builtin "isinstance") (OU K):=by subst hK;exact yi
theorem dM (K:PySem.W.Frag) (hK:X.K=K:=by rfl):yJ X (HE K):=by subst hK;exact Gu
theorem aJ (K:PySem.W.Frag) (hK:X.K=K:=by rfl):yJ X (HF K):=by subst hK;exact HG
theorem wa (K:PySem.W.Frag) (hK:X.K=K:=by rfl):E5 X (HH K):=by subst hK;exact Gv
theorem lX (K:PySem.W.Frag) (hK:X.K=K:=by rfl):cO X (binaryOp .Add) (Fe K):=by subst hK;exact GA
theorem wb (K:PySem.W.Frag) (hK:X.K=K:=by rfl):cO X (compareOp .In) (MZ K false):=by subst hK;exact Bb
def HY (_ j:Int):Prop:=0<j
theorem cpos {i j:Int} (h:0<j):HY i j:=h
theorem d6:cO X (binaryOp .Mod) (rI HY fun i j=>.int (i % j)):=Hx
end
end L2
namespace L2
theorem DH {t u:TS} {D:Ends} {σ:St} {H:Hp} (Pv:St→Hp→Prop) (h1:∀σ H,Pv σ H→u D σ H) (h2:(∀σ H,Pv σ H→u D σ H)→t {D with nx:=u D} σ H):pG t u D σ H:=h2 h1
end L2
namespace L2
open PySem PySem.Spec PyProof.Rows
inductive Dt where
 | non | bl (b:Bool) | int (i:Int) | str (x:Str) | tup (xs:List Dt) | lst (xs:List Dt)
mutual
def Dt.beq:Dt→Dt→Bool
 | .non,.non=>true
 | .bl a,.bl b=>a == b
 | .bl a,.int b=>(if a then 1 else 0) == b
 | .int a,.bl b=>a == (if b then 1 else 0)
 | .int a,.int b=>a == b
 | .str a,.str b=>a == b
 | .tup xs,.tup ys=>Dt.eP xs ys
 | .lst xs,.lst ys=>Dt.eP xs ys
 | _,_=>false
def Dt.eP:List Dt→List Dt→Bool
 | [],[]=>true
 | x::xs,y::ys=>x.beq y&&Dt.eP xs ys
 | _,_=>false
end
mutual
def Dt.dep:Dt→Nat
 | .tup xs=>Dt.deps xs+1
 | .lst xs=>Dt.deps xs+1
 | _=>0
def Dt.deps:List Dt→Nat
 | []=>0
 | x::xs=>max x.dep (Dt.deps xs)
end
mutual
def aq (K:PySem.W.Frag) (H:Hp):V→Dt→Prop
 | x,.non=>x=.non
 | x,.bl b=>x=.bl b
 | x,.int i=>x=.int i
 | x,.str z=>x=.str z
 | x,.tup ds=>∃a xs,x=.ref a∧aU K H a xs∧ay K H xs ds
 | x,.lst ds=>∃a xs,x=.ref a∧bp K H a xs∧ay K H xs ds
def ay (K:PySem.W.Frag) (H:Hp):List V→List Dt→Prop
 | [],[]=>True
 | x::xs,d::ds=>aq K H x d∧ay K H xs ds
 | _,_=>False
end
theorem Dt.beq_refl (d:Dt):d.beq d=true:=by
 induction d using Dt.rec (motive_2:=fun xs=>Dt.eP xs xs=true) with
 | non=>simp[Dt.beq]
 | bl b=>simp[Dt.beq]
 | int b=>simp[Dt.beq]
 | str b=>simp[Dt.beq]
 | tup xs ih=>simp[Dt.beq,ih]
 | lst xs ih=>simp[Dt.beq,ih]
 | nil=>simp[Dt.eP]
 | cons x xs h1 h2=>simp[Dt.eP,h1,h2]
theorem ay.length {K:PySem.W.Frag} {H:Hp}:∀{xs:List V} {ds:List Dt},ay K H xs ds→xs.length=ds.length
 | [],[],_=>rfl
 | [],_::_,h=>by simp[ay] at h
 | _::_,[],h=>by simp[ay] at h
 | x::xs,d::ds,h=>by
  rw[ay] at h
  rw[List.length_cons,List.length_cons,ay.length h.2]
theorem ay.get {K:PySem.W.Frag} {H:Hp}:∀{xs:List V} {ds:List Dt} {i:Nat} {x:V},ay K H xs ds→xs[i]? =some x→∃d,ds[i]? =some d∧aq K H x d
 | [],_,_,_,_,e=>by simp at e
 | _::_,[],_,_,h,_=>by simp[ay] at h
 | x::xs,d::ds,0,y,h,e=>by
  rw[ay] at h
  simp at e;subst e
  exact⟨d,rfl,h.1⟩
 | x::xs,d::ds,i+1,y,h,e=>by
  rw[ay] at h
  obtain⟨d',h1,h2⟩:=ay.get (i:=i) (x:=y) h.2 (by simpa using e)
  exact⟨d',by simpa using h1,h2⟩
theorem Dt.jG {d:Dt}:∀{ds:List Dt},d∈ds→d.dep≤Dt.deps ds
 | [],h=>by cases h
 | x::xs,h=>by
  rw[Dt.deps]
  rcases List.mem_cons.mp h with rfl | h
  ·exact Nat.le_max_left ..
  ·exact Nat.le_trans (Dt.jG h) (Nat.le_max_right ..)
def vz (xs ys:List Dt) (j:Nat):Bool:=match xs[j]?,ys[j]? with
 | some x,some y=>x.beq y
 | _,_=>false
theorem rM (n:Nat) (e:Nat→Bool):(List.range (n+1)).all e=(e 0&&(List.range n).all fun j=>e (j+1)):=by
 rw[List.range_succ_eq_map,List.all_cons,List.all_map];rfl
theorem jH:∀(xs ys:List Dt),xs.length=ys.length→(List.range xs.length).all (vz xs ys)=Dt.eP xs ys
 | [],[],_=>by simp[Dt.eP]
 | x::xs,y::ys,h=>by
  have h':xs.length=ys.length:=by simpa using h
  rw[List.length_cons,rM,Dt.eP,←jH xs ys h']
  rfl
theorem jI:∀(xs ys:List Dt),xs.length≠ys.length→Dt.eP xs ys=false
 | [],[],h=>absurd rfl h
 | [],_::_,_=>by simp[Dt.eP]
 | _::_,[],_=>by simp[Dt.eP]
 | x::xs,y::ys,h=>by
  have h':xs.length≠ys.length:=fun z=>h (by simp[z])
  rw[Dt.eP,jI xs ys h',Bool.and_false]
section
variable {X:Cx} {pins:List (Addr×Obj)} {σ:St} {H:Hp} {s:Shared}
theorem kU {a:Addr} {xs ys:List V} (I:Inv X pins σ H s) (h1:bp X.K H a xs) (h2:aU X.K H a ys):False:=by
 obtain⟨its,_,p,_⟩:=I.list h1
 obtain⟨its2,_,q,_⟩:=I.tuple h2
 exact SeqAt.ne_of_list_tuple p.isList (show s.heap.IsTuple a its2.toArray from q) rfl
theorem rN (I:Inv X pins σ H s) (d:Dt):∀(x:V) (d':Dt),aq X.K H x d→aq X.K H x d'→d=d':=by
 induction d using Dt.rec (motive_2:=fun ds=>∀(xs:List V) (ds':List Dt),ay X.K H xs ds→ay X.K H xs ds'→ds=ds') with
 | non=>intro x d' h h';cases d'<;>simp_all [aq]
 | bl b=>intro x d' h h';cases d'<;>simp_all [aq]
 | int b=>intro x d' h h';cases d'<;>simp_all [aq]
 | str b=>intro x d' h h';cases d'<;>simp_all [aq]
 | tup ds ih=>
  intro x d' h h'
  rw[aq] at h
  obtain⟨a,xs,rfl,hq,hd⟩:=h
  cases d' with
  | tup ds'=>
   rw[aq] at h'
   obtain⟨a',xs',e,hq',hd'⟩:=h'
   cases e
   rw[I.iQ hq' hq] at hd'
   rw[ih xs ds' hd hd']
  | lst ds'=>
   rw[aq] at h'
   obtain⟨a',xs',e,hq',hd'⟩:=h'
   cases e
   exact(kU I hq' hq).elim
  | _=>simp[aq] at h'
 | lst ds ih=>
  intro x d' h h'
  rw[aq] at h
  obtain⟨a,xs,rfl,hq,hd⟩:=h
  cases d' with
  | lst ds'=>
   rw[aq] at h'
   obtain⟨a',xs',e,hq',hd'⟩:=h'
   cases e
   rw[I.ia hq' hq] at hd'
   rw[ih xs ds' hd hd']
  | tup ds'=>
   rw[aq] at h'
   obtain⟨a',xs',e,hq',hd'⟩:=h'
   cases e
   exact(kU I hq hq').elim
  | _=>simp[aq] at h'
 | nil=>
  rename_i xs ds' h h'
  cases xs with
  | nil=>cases ds' with
   | nil=>rfl
   | cons _ _=>simp[ay] at h'
  | cons _ _=>simp[ay] at h
 | cons d ds h1 h2=>
  rename_i xs ds' h h'
  cases xs with
  | nil=>simp[ay] at h
  | cons x xs=>cases ds' with
   | nil=>simp[ay] at h'
   | cons d' ds'=>
    rw[ay] at h h'
    rw[h1 x d' h.1 h'.1,h2 xs ds' h.2 h'.2]
theorem lY {A:Around} {xs ys:List V} {ds ds':List Dt} {its its2:List Value} (r1:Vals xs its) (r2:Vals ys its2) (h1:ay X.K H xs ds) (h2:ay X.K H ys ds')
  (ih:∀d∈ds,∀(d':Dt) (x y:V) (u v:Value),aq X.K H x d→aq X.K H y d'→RelV x u→RelV y v→SeqAt.EqAt A s u v (d.beq d')):
  ∀j (a:j<its.toArray.size) (b:j<its2.toArray.size),SeqAt.EqAt A s its.toArray[j] its2.toArray[j] (vz ds ds' j):=fun j a b=>by
 have a':j<its.length:=by simpa using a
 have b':j<its2.length:=by simpa using b
 have la:=r1.length
 have lb:=r2.length
 have ex:xs[j]? =some (xs[j]'(by omega)):=List.getElem?_eq_getElem (by omega)
 have ey:ys[j]? =some (ys[j]'(by omega)):=List.getElem?_eq_getElem (by omega)
 obtain⟨u,eu,ru⟩:=r1.get ex
 obtain⟨v,ev,rv⟩:=r2.get ey
 obtain⟨d,ed,hd⟩:=h1.get ex
 obtain⟨d',ed',hd'⟩:=h2.get ey
 have e1:its.toArray[j]=u:=by
  rw[List.getElem?_eq_getElem a'] at eu
  simpa using Option.some.inj eu
 have e2:its2.toArray[j]=v:=by
  rw[List.getElem?_eq_getElem b'] at ev
  simpa using Option.some.inj ev
 rw[e1,e2]
 have e3:vz ds ds' j=d.beq d':=by unfold vz;rw[ed,ed']
 rw[e3]
 exact ih d (List.mem_of_getElem? ed) d' _ _ u v hd hd' ru rv
theorem DI {A:Around} {a b:Addr} {xs ys:List V} {ds ds':List Dt} (I:Inv X pins σ H s) (q1:bp X.K H a xs) (q2:bp X.K H b ys) (h1:ay X.K H xs ds) (h2:ay X.K H ys ds') (hu:A.units<cLine)
  (ih:∀d∈ds,∀(d':Dt) (x y:V) (u v:Value),aq X.K H x d→aq X.K H y d'→RelV x u→RelV y v→SeqAt.EqAt A.in1 s u v (d.beq d')):SeqAt.RcAt A s (.ref a) (.ref b) (Dt.eP ds ds'):=by
 obtain⟨its,r1,p1,_⟩:=I.list q1
 obtain⟨its2,r2,p2,_⟩:=I.list q2
 have l1:=r1.length
 have l2:=r2.length
 have l3:=h1.length
 have l4:=h2.length
 by_cases hl:ds.length=ds'.length
 ·have:=SeqAt.RcAt.lists p1.isList p2.isList (by simp;omega) hu (lY r1 r2 h1 h2 ih)
  rw[show its.toArray.size=ds.length by simp;omega,jH ds ds' hl] at this
  exact this
 ·rw[jI ds ds' hl]
  exact SeqAt.RcAt.lists_lengths p1.isList p2.isList (by simp;omega) hu
theorem Br {A:Around} {a b:Addr} {xs ys:List V} {ds ds':List Dt} (I:Inv X pins σ H s) (q1:aU X.K H a xs) (q2:aU X.K H b ys) (h1:ay X.K H xs ds) (h2:ay X.K H ys ds') (hu:A.units<cLine)
  (ih:∀d∈ds,∀(d':Dt) (x y:V) (u v:Value),aq X.K H x d→aq X.K H y d'→RelV x u→RelV y v→SeqAt.EqAt A.in1 s u v (d.beq d')):SeqAt.RcAt A s (.ref a) (.ref b) (Dt.eP ds ds'):=by
 obtain⟨its,r1,p1,_⟩:=I.tuple q1
 obtain⟨its2,r2,p2,_⟩:=I.tuple q2
 have l1:=r1.length
 have l2:=r2.length
 have l3:=h1.length
 have l4:=h2.length
 have:=SeqAt.RcAt.tuples (show s.heap.IsTuple a its.toArray from p1) (show s.heap.IsTuple b its2.toArray from p2) hu (lY r1 r2 h1 h2 ih)
 by_cases hl:ds.length=ds'.length
 ·rw[show min its.toArray.size its2.toArray.size=ds.length by simp;omega,jH ds ds' hl,show(its.toArray.size == its2.toArray.size)=true by simp;omega,Bool.and_true] at this
  exact this
 ·rw[show(its.toArray.size == its2.toArray.size)=false by simp;omega,Bool.and_false] at this
  rw[jI ds ds' hl]
  exact this
theorem wc (I:Inv X pins σ H s) (d:Dt):∀(A:Around) (d':Dt) (x y:V) (u v:Value),A.units+d.dep<cLine→aq X.K H x d→aq X.K H y d'→RelV x u→RelV y v→SeqAt.EqAt A s u v (d.beq d'):=by
 have flat:∀{A:Around} {d d':Dt} {x y:V} {u v:Value},g6 x=true→g6 y=true→kO x y=d.beq d'→RelV x u→RelV y v→SeqAt.EqAt A s u v (d.beq d'):=fun fx fy e ru rv=>e▸A' ru rv fx fy
 have yO:∀{a:Addr} {xs:List V},bp X.K H a xs→∃its:Array Value,s.heap.IsList a its:=fun q=>let ⟨its,_,p,_⟩:=I.list q;⟨_,p.isList⟩
 have yP:∀{a:Addr} {xs:List V},aU X.K H a xs→∃its:Array Value,s.heap.IsTuple a its:=fun q=>let ⟨its,_,p,_⟩:=I.tuple q;⟨_,p⟩
 have refs:∀{A:Around} {a b:Addr} {d d':Dt},aq X.K H (.ref a) d→aq X.K H (.ref b) d'→SeqAt.RcAt A s (.ref a) (.ref b) (d.beq d')→SeqAt.EqAt A s (.ref a) (.ref b) (d.beq d'):=by
  intro A a b d d' h h' r
  by_cases e:a=b
  ·subst e
   rw[←rN I d _ _ h h',Dt.beq_refl]
   exact SeqAt.EqAt.same _
  ·exact SeqAt.EqAt.of_refs e r
 induction d using Dt.rec (motive_2:=fun ds=>∀d∈ds,∀(A:Around) (d':Dt) (x y:V) (u v:Value),A.units+d.dep<cLine→aq X.K H x d→aq X.K H y d'→RelV x u→RelV y v→SeqAt.EqAt A s u v (d.beq d')) with
 | non=>
  intro A d' x y u v hu h h' ru rv
  rw[aq] at h
  subst h
  have hu':A.units<cLine:=by omega
  cases d' with
  | tup ds'=>
   rw[aq] at h';obtain⟨b,ys,rfl,q,_⟩:=h'
   cases ru;cases rv
   obtain⟨its,p⟩:=yP q
   exact SeqAt.EqAt.none_tuple p hu'
  | lst ds'=>
   rw[aq] at h';obtain⟨b,ys,rfl,q,_⟩:=h'
   cases ru;cases rv
   obtain⟨its,p⟩:=yO q
   exact SeqAt.EqAt.none_list p hu'
  | _=>rw[aq] at h';subst h';exact flat rfl rfl (by simp[Dt.beq,kO]) ru rv
 | bl b0=>
  intro A d' x y u v hu h h' ru rv
  rw[aq] at h
  subst h
  have hu':A.units<cLine:=by omega
  cases d' with
  | tup ds'=>
   rw[aq] at h';obtain⟨b,ys,rfl,q,_⟩:=h'
   cases ru;cases rv
   obtain⟨its,p⟩:=yP q
   exact SeqAt.EqAt.bool_tuple _ p hu'
  | lst ds'=>
   rw[aq] at h';obtain⟨b,ys,rfl,q,_⟩:=h'
   cases ru;cases rv
   obtain⟨its,p⟩:=yO q
   exact SeqAt.EqAt.bool_list _ p hu'
  | _=>rw[aq] at h';subst h';exact flat rfl rfl (by simp[Dt.beq,kO]) ru rv
 | int i0=>
  intro A d' x y u v hu h h' ru rv
  rw[aq] at h
  subst h
  have hu':A.units<cLine:=by omega
  cases d' with
  | tup ds'=>
   rw[aq] at h';obtain⟨b,ys,rfl,q,_⟩:=h'
   obtain⟨t,rfl⟩:=ru;cases rv
   obtain⟨its,p⟩:=yP q
   exact SeqAt.EqAt.int_tuple _ _ p hu'
  | lst ds'=>
   rw[aq] at h';obtain⟨b,ys,rfl,q,_⟩:=h'
   obtain⟨t,rfl⟩:=ru;cases rv
   obtain⟨its,p⟩:=yO q
   exact SeqAt.EqAt.int_list _ _ p hu'
  | _=>rw[aq] at h';subst h';exact flat rfl rfl (by simp[Dt.beq,kO]) ru rv
 | str z0=>
  intro A d' x y u v hu h h' ru rv
  rw[aq] at h
  subst h
  have hu':A.units<cLine:=by omega
  cases d' with
  | tup ds'=>
   rw[aq] at h';obtain⟨b,ys,rfl,q,_⟩:=h'
   obtain⟨t,rfl⟩:=ru;cases rv
   obtain⟨its,p⟩:=yP q
   exact SeqAt.EqAt.str_tuple _ _ p hu'
  | lst ds'=>
   rw[aq] at h';obtain⟨b,ys,rfl,q,_⟩:=h'
   obtain⟨t,rfl⟩:=ru;cases rv
   obtain⟨its,p⟩:=yO q
   exact SeqAt.EqAt.str_list _ _ p hu'
  | _=>rw[aq] at h';subst h';exact flat rfl rfl (by simp[Dt.beq,kO]) ru rv
 | tup ds ih=>
  intro A d' x y u v hu h h' ru rv
  have hD:=h
  have hD':=h'
  rw[aq] at h
  obtain⟨a,xs,rfl,q,hd⟩:=h
  cases ru
  obtain⟨its,p⟩:=yP q
  have hu':A.units<cLine:=by omega
  cases d' with
  | non=>rw[aq] at h';subst h';cases rv;exact SeqAt.EqAt.tuple_none p hu'
  | bl b=>rw[aq] at h';subst h';cases rv;exact SeqAt.EqAt.tuple_bool _ p hu'
  | int b=>rw[aq] at h';subst h';obtain⟨t,rfl⟩:=rv;exact SeqAt.EqAt.tuple_int _ _ p hu'
  | str b=>rw[aq] at h';subst h';obtain⟨t,rfl⟩:=rv;exact SeqAt.EqAt.tuple_str _ _ p hu'
  | lst ds'=>
   rw[aq] at h';obtain⟨b,ys,rfl,q',_⟩:=h'
   cases rv
   obtain⟨its2,p2⟩:=yO q'
   exact SeqAt.EqAt.tuple_list p p2 hu'
  | tup ds'=>
   rw[aq] at h';obtain⟨b,ys,rfl,q',hd'⟩:=h'
   cases rv
   refine refs hD hD' ?_
   have:=Br (A:=A) I q q' hd hd' hu' fun d hm d' x y u v h1 h2 r1 r2=>ih d hm A.in1 d' x y u v (by
    have:=Dt.jG hm
    rw[Dt.dep] at hu
    show A.units+1+d.dep<cLine
    omega) h1 h2 r1 r2
   simpa[Dt.beq] using this
 | lst ds ih=>
  intro A d' x y u v hu h h' ru rv
  have hD:=h
  have hD':=h'
  rw[aq] at h
  obtain⟨a,xs,rfl,q,hd⟩:=h
  cases ru
  obtain⟨its,p⟩:=yO q
  have hu':A.units<cLine:=by omega
  cases d' with
  | non=>rw[aq] at h';subst h';cases rv;exact SeqAt.EqAt.list_none p hu'
  | bl b=>rw[aq] at h';subst h';cases rv;exact SeqAt.EqAt.list_bool _ p hu'
  | int b=>rw[aq] at h';subst h';obtain⟨t,rfl⟩:=rv;exact SeqAt.EqAt.list_int _ _ p hu'
  | str b=>rw[aq] at h';subst h';obtain⟨t,rfl⟩:=rv;exact SeqAt.EqAt.list_str _ _ p hu'
  | tup ds'=>
   rw[aq] at h';obtain⟨b,ys,rfl,q',_⟩:=h'
   cases rv
   obtain⟨its2,p2⟩:=yP q'
   exact SeqAt.EqAt.list_tuple p p2 hu'
  | lst ds'=>
   rw[aq] at h';obtain⟨b,ys,rfl,q',hd'⟩:=h'
   cases rv
   refine refs hD hD' ?_
   have:=DI (A:=A) I q q' hd hd' hu' fun d hm d' x y u v h1 h2 r1 r2=>ih d hm A.in1 d' x y u v (by
    have:=Dt.jG hm
    rw[Dt.dep] at hu
    show A.units+1+d.dep<cLine
    omega) h1 h2 r1 r2
   simpa[Dt.beq] using this
 | nil=>
  rename_i d hd A d' x y u v a1 a2 a3 a4 a5
  cases hd
 | cons d ds h1 h2=>
  rename_i d0 hd A d' x y u v a1 a2 a3 a4 a5
  rcases List.mem_cons.mp hd with e | hd
  ·subst e;exact h1 A d' x y u v a1 a2 a3 a4 a5
  ·exact h2 d0 hd A d' x y u v a1 a2 a3 a4 a5
def Dt.HZ:Dt→Bool
 | .tup _=>true
 | .lst _=>true
 | _=>false
def OV (K:PySem.W.Frag) (neg:Bool):R2:=fun x y H Q=>∃d d':Dt,aq K H x d∧aq K H y d'∧d.HZ=true∧d'.HZ=true∧d.dep≤40∧Q (.bl (if neg then !d.beq d' else d.beq d')) H
theorem H_ (K:PySem.W.Frag) (hu:X.A.units+64<cLine) (hK:X.K=K:=by rfl):cO X (compareOp .NotEq) (fun x y H Q=>OV K true x y H Q∧∃d d':Dt,aq K H x d∧aq K H y d'∧((∃ds ds',d=.tup ds∧d'=.tup ds')∨∃ds ds',d=.lst ds∧d'=.lst ds')):=by
 subst hK
 intro pins s σ H x y v u Q I rx ry h
 obtain⟨⟨d,d',h,h',sq,WG,hd,q⟩,e,e',g,g',hk⟩:=h
 have e1:=rN I d x e h g
 have e2:=rN I d' y e' h' g'
 subst e1 e2
 have hA:∀e:Dt,e.dep≤40→X.A.in1.units+e.dep<cLine:=fun e he=>by show X.A.units+1+e.dep<cLine;omega
 have hu':X.A.units<cLine:=by omega
 rcases hk with⟨ds,ds',rfl,rfl⟩ | ⟨ds,ds',rfl,rfl⟩
 ·rw[aq] at h h'
  obtain⟨a,xs,rfl,q1,h1⟩:=h
  obtain⟨b,ys,rfl,q2,h2⟩:=h'
  cases rx
  cases ry
  have ih:∀d∈ds,∀(d':Dt) (x y:V) (u v:Value),aq X.K H x d→aq X.K H y d'→RelV x u→RelV y v→SeqAt.EqAt X.A.in1 s u v (d.beq d'):=fun d hm d' x y u v h1 h2 r1 r2=>
   wc I d X.A.in1 d' x y u v (hA d (by have:=Dt.jG hm;rw[Dt.dep] at hd;omega)) h1 h2 r1 r2
  obtain⟨its,r1,p1,_⟩:=I.tuple q1
  obtain⟨its2,r2,p2,_⟩:=I.tuple q2
  have l1:=r1.length
  have l2:=r2.length
  have l3:=h1.length
  have l4:=h2.length
  have z:=SeqAt.RcNeAt.tuples (show s.heap.IsTuple a its.toArray from p1) (show s.heap.IsTuple b its2.toArray from p2) hu' (lY r1 r2 h1 h2 ih)
  have fin:SeqAt.RcNeAt X.A s (.ref a) (.ref b) (!Dt.eP ds ds'):=by
   by_cases hl:ds.length=ds'.length
   ·rw[show min its.toArray.size its2.toArray.size=ds.length by simp;omega,jH ds ds' hl,show(its.toArray.size == its2.toArray.size)=true by simp;omega,Bool.and_true] at z
    exact z
   ·rw[show(its.toArray.size == its2.toArray.size)=false by simp;omega,Bool.and_false] at z
    rw[jI ds ds' hl]
    exact z
  exact fin _ _ _ _ ⟨.bl _,H,I,rfl,by simpa[Dt.beq] using q⟩
 ·rw[aq] at h h'
  obtain⟨a,xs,rfl,q1,h1⟩:=h
  obtain⟨b,ys,rfl,q2,h2⟩:=h'
  cases rx
  cases ry
  have ih:∀d∈ds,∀(d':Dt) (x y:V) (u v:Value),aq X.K H x d→aq X.K H y d'→RelV x u→RelV y v→SeqAt.EqAt X.A.in1 s u v (d.beq d'):=fun d hm d' x y u v h1 h2 r1 r2=>
   wc I d X.A.in1 d' x y u v (hA d (by have:=Dt.jG hm;rw[Dt.dep] at hd;omega)) h1 h2 r1 r2
  obtain⟨its,r1,p1,_⟩:=I.list q1
  obtain⟨its2,r2,p2,_⟩:=I.list q2
  have l1:=r1.length
  have l2:=r2.length
  have l3:=h1.length
  have l4:=h2.length
  have fin:SeqAt.RcNeAt X.A s (.ref a) (.ref b) (!Dt.eP ds ds'):=by
   by_cases hl:ds.length=ds'.length
   ·have z:=SeqAt.RcNeAt.lists p1.isList p2.isList (by simp;omega) hu' (lY r1 r2 h1 h2 ih)
    rw[show its.toArray.size=ds.length by simp;omega,jH ds ds' hl] at z
    exact z
   ·rw[jI ds ds' hl]
    exact SeqAt.RcNeAt.lists_lengths p1.isList p2.isList (by simp;omega) hu'
  exact fin _ _ _ _ ⟨.bl _,H,I,rfl,by simpa[Dt.beq] using q⟩
end
theorem nu {K:PySem.W.Frag} {H:Hp}:∀(ns:List Int),ay K H (ns.map V.int) (ns.map Dt.int)
 | []=>by simp[ay]
 | n::ns=>by rw[List.map_cons,List.map_cons,ay];exact⟨by rw[aq],nu ns⟩
theorem t_:∀(ns:List Int),Dt.deps (ns.map Dt.int)=0
 | []=>by simp[Dt.deps]
 | n::ns=>by rw[List.map_cons,Dt.deps,t_ ns];simp[Dt.dep]
section
variable {X:Cx}
def Ia (K:PySem.W.Frag):List V→Hp→VK→Prop:=fun xs H Q=>∃(p:Addr) (ys:List V),xs=[.ref p]∧((bp K H p ys∧∀l,H l=none→Q (.ref l) (upd H l (.tup ys)))∨(aU K H p ys∧Q (.ref p) H))
theorem cb (K:PySem.W.Frag) (hK:X.K=K:=by rfl):dm X (.type "tuple") (Ia K):=by subst hK;exact uF
end
end L2
namespace L2
open PySem
theorem gV {ns:List Int} {i:Nat} {x:V} (h:(ns.map V.int)[i]? =some x):∃f,x=.int f∧ns[i]? =some f:=by
 rw[List.getElem?_map] at h
 cases e:ns[i]? with
 | none=>rw[e] at h;cases h
 | some f=>rw[e] at h;exact⟨f,(Option.some.inj h).symm,rfl⟩
end L2
namespace L2
open PySem PySem.Spec PyProof.Rows
theorem lZ {ys:List Str}:∀{us:List Value},Vals (ys.map V.str) us→StrsAre us ys:=by
 induction ys with
 | nil=>intro us r;cases r;exact .nil
 | cons y ys ih=>
  intro us r
  rw[List.map_cons] at r
  cases r with
  | cons a b=>
   obtain⟨t,rfl⟩:=a
   exact .cons y t (ih b)
theorem ny:∀{us:List Value} {ys:List Str},StrsAre us ys→Vals (ys.map V.str) us
 | _,_,.nil=>.nil
 | _,_,.cons y t r=>.cons ⟨t,rfl⟩ (ny r)
theorem DJ (sep:Str) (ys:List Str) (h:(ys.map (·.length)).sum+ys.length*sep.length≤16777216):(Txt.join sep ys).length≤sizeLine:=by
 have hok:=joinOk_of h
 unfold JoinOk at hok
 rw[Bool.not_eq_true'] at hok
 have e:ys=(ys.map fun y=>(y,(0:Tok))).map (·.1):=by rw[List.map_map];exact(List.map_id ys).symm
 rw[e] at hok ⊢
 exact joinFit_length hok
section
variable {X:Cx}
def rJoin (K:PySem.W.Frag):V→List V→Hp→VK→Prop:=fun x vs H Q=>∃(sep:Str) (a:Addr) (ys:List Str),x=.str sep∧vs=[.ref a]∧bp K H a (ys.map V.str)∧(ys.map (·.length)).sum+ys.length*sep.length≤16777216∧∀z:Str,z.length≤sizeLine→z=Txt.join sep ys→Q (.str z) H
theorem DK (K:PySem.W.Frag) (hK:X.K=K:=by rfl):yK X "str.join" (rJoin K):=by
 subst hK
 intro pins s σ H x vs v us Q I rx rv h
 obtain⟨sep,a,ys,rfl,rfl,hq,hz,q⟩:=h
 obtain⟨t,rfl⟩:=rx
 obtain⟨u,rfl,ru⟩:=rv.one
 cases ru
 obtain⟨its,r,p,_⟩:=I.list hq
 exact join_list p.isList (show StrsAre its.toArray.toList ys from lZ r) hz fun t' k=>⟨.str _,H,I.tok k,⟨t',rfl⟩,q _ (DJ sep ys hz) rfl⟩
def Ib (K:PySem.W.Frag):List V→Hp→VK→Prop:=fun xs H Q=>∃(a:Addr) (ss:List Str),xs=[.ref a]∧bp K H a (ss.map V.str)∧ss.length<64∧
 ∀(p:Addr) (ss':List Str),H p=none→ss'.Perm ss→PyProof.Rows.sortedS ss'=true→Q (.ref p) (upd H p (.lst (ss'.map V.str)))
theorem yk (K:PySem.W.Frag) (hK:X.K=K:=by rfl):dm X (.builtin "sorted") (Ib K):=by
 subst hK
 intro pins s σ H xs us Q I r h
 obtain⟨a,ss,rfl,hq,hl,q⟩:=h
 obtain⟨u,rfl,ru⟩:=vals1 r
 cases ru
 obtain⟨its,rv,p,hz⟩:=I.list hq
 have hlen:=rv.length
 rw[List.length_map] at hlen
 refine sorted_strs p.isList (lZ rv) (by omega) fun out ss' a1 a2 a3=>?_
 obtain⟨e,he⟩:=sortedAll_at s.heap its out
 have hp:s.heap.objs.size≤s.heap.objs.size+1:=Nat.le_succ _
 refine⟨.ref (s.heap.objs.size+1),upd H (s.heap.objs.size+1) (.lst (ss'.map V.str)),?_,rfl,q _ ss' (I.hok.fresh hp) a2 a3⟩
 refine I.laid (t':=s.toks) (h':=sortedAll s.heap its out) (fun _ _=>sortedAll_old) hp ⟨?_,out.toList,e,ny a1,?_⟩
 ·rw[List.length_map,a2.length_eq]
  rw[List.length_map] at hz
  exact hz
 ·rw[he]
  first
   | done
   | rfl
def OW:V→Option Int→Option Int→Hp→VK→Prop:=fun x lo hi H Q=>∃z:Str,x=.str z∧z.length≤sizeLine∧Q (.str (Txt.slice z lo hi)) H
theorem o8 {v:Value} {o:Option Int} (p:IsPart v o):∃l:Option (Int×Tok),v=partValue l∧l.map (·.1)=o:=by
 cases p with
 | none=>exact⟨none,rfl,rfl⟩
 | int i t=>exact⟨some (i,t),rfl,rfl⟩
theorem Ic:E5 X OW:=by
 intro pins s σ H x v vl vu lo hi sl Q I rx hs pl pu h
 obtain⟨z,rfl,hz,q⟩:=h
 obtain⟨t,rfl⟩:=rx
 obtain⟨l,rfl,hl⟩:=o8 pl
 obtain⟨u,rfl,hu⟩:=o8 pu
 subst hl hu
 obtain⟨o,ho,hc,hd⟩:=hs
 refine⟨"str",_,PySem.F.slot_str_getitem.lookup,typeIs_str _ _ _,wpAny_getItem_str_slice (l:=l) (u:=u) (st:=none) ⟨o,ho,hc,hd⟩ rfl ?_⟩
 exact post_val_or_str ⟨Nat.le_trans (Txt.slice_le z _ _) hz,fun t' k=>⟨.str _,H,I.tok k,⟨t',rfl⟩,q⟩⟩
structure kX (K:PySem.W.Frag) (P:Params) (a:Addr) (tab:List (Str×Option V)):Prop where
 ex:∃(es:Array DictEntry) (n:Nat),K.lookup a=some ⟨.type "dict",none,.dict es n, #[]⟩∧PySem.W.KeysLit P es.toList∧∀x r,(x,r)∈tab→fw r (findBy Value.isStrOf es x)
 lo:(a == sysModules)=false
def GB (tab:List (Str×Option V)) (ty tx:TE):TE:=fun σ H Q=>ty σ H fun y H1=>tx σ H1 fun z H2=>∃x r,y=.str x∧(x,r)∈tab∧Q (r.getD z) H2
theorem t5 {x:Str} {p apos cpos:Pos} {e f:Expr} {ty tx:TE} {a:Addr} {tab:List (Str×Option V)} (D:kX X.K X.w.params a tab) (hg:Gl X x) (hm:X.mg x=some (.ref a)) (he:PE X e ty) (hf:PE X f tx)
  (m:M2 X (.Name x p) "get" apos e f cpos:=by exact⟨rfl,rfl,rfl,rfl⟩) (hdb:(x == ("__debug__":Str))=false:=by decide):PE X (.Call (.Attribute (.Name x p) "get" apos) [e,f] [] cpos) (GB tab ty tx):=by
 intro pins s σ H Q I h
 obtain⟨es,n,hl,hk,ht⟩:=D.ex
 refine wpAny_Call_method m.base m.few m.line PySem.F.plainAttrs_dict PySem.F.slot_dict_get PySem.F.type_dict_get (rE I hg hm ?_ hdb)
 have hm0:=PySem.W.mapOf_K (prog:=X.prog) I.gb hl hk
 refine⟨hm0.typeIs,hm0.noDict,?_⟩
 rw[m.trees]
 refine Calls.callWith_builtin rfl (Calls.evalArgs_plain (Calls.spliced_cons (aE (he pins s σ H _ I h) fun iv s2 ⟨y,H2,I2,ry,q2⟩=>
  Calls.spliced_cons (aE (hf pins s2 σ H2 _ I2 q2) fun fv s3 ⟨z,H3,I3,rz,x',r,ey,hmem,q3⟩=>Calls.spliced_nil ?_))))
 subst ey
 obtain⟨t,rfl⟩:=ry
 have M5:=PySem.W.mapOf_K (prog:=X.prog) I3.gb hl hk
 refine call_meetsIn PySem.F.slot_dict_get M5.typeIs PySem.F.entry_dict_get (PySem.F.args_dict_get_3 _ _ _) (meets_dict_get_default (strKind X.prog X.w) a (strKind_is X.prog X.w x' t) D.lo fv) ⟨_,M5,?_⟩
 refine⟨r.getD z,H3,I3.tok _,?_,q3⟩
 have:=ht x' r hmem
 cases r with
 | none=>
  rw[this.none_of]
  exact rz
 | some v=>
  obtain⟨u,eu,ru⟩:=this.some_of
  rw[eu]
  exact ru
theorem fO {K:PySem.W.Frag} {H:Hp} {a:Addr} {xs:List V} {us:List Value} {n:Nat} (h:K.lookup a=some ⟨.type "tuple",none,.seq us.toArray n, #[]⟩) (r:Vals xs us) (hz:xs.length≤sizeLine):aU K H a xs:=
 .inr ⟨_,us.toArray,n,h,rfl,rfl,by rw[List.size_toArray,←r.length];exact hz,by simpa using r⟩
theorem oM (K:PySem.W.Frag) {es:List Expr} {k:Nat} {t:tL} {n:Nat} {pos:Pos} (hc:X.calm=true) (h:A0 X es t)
  (hn:(assignEach es X.env).length=n:=by rfl) (hst:(assignEach es X.env).findIdx? (·.1)=none:=by rfl) (hK:X.K=K:=by rfl):PG X (.Tuple es k pos) (Hu K n t):=by
 subst hK;exact vK hc h hn hst
end
mutual
def Dt.gg:Dt→Bool
 | .lst _=>false
 | .tup xs=>Dt.gH xs
 | _=>true
def Dt.gH:List Dt→Bool
 | []=>true
 | x::xs=>x.gg&&Dt.gH xs
end
def h9 (K:PySem.W.Frag) (H H':Hp):Prop:=∀a xs,aU K H a xs→aU K H' a xs
theorem h9.trans {K:PySem.W.Frag} {H H1 H2:Hp} (a:h9 K H H1) (b:h9 K H1 H2):h9 K H H2:=fun c o h=>b c o (a c o h)
theorem Same.kts {K:PySem.W.Frag} {H H':Hp} (s:Same H H'):h9 K H H':=fun _ _ h=>s.pN h
theorem KB.kts {K:PySem.W.Frag} {d:Addr} {xs:List V} {H H':Hp} (h:H d=some (.lst xs)) (k:KB d H H'):h9 K H H':=fun a ys e=>by
 rcases e with(e | ⟨o,e⟩) | e
 ·exact .inl (.inl (k _ _ e (fL e h (fun z=>nomatch z))))
 ·exact .inl (.inr ⟨o,k _ _ e (fL e h (fun z=>nomatch z))⟩)
 ·exact .inr e
theorem eQ {K:PySem.W.Frag} {H H':Hp} (k:h9 K H H') (d:Dt):∀x:V,d.gg=true→aq K H x d→aq K H' x d:=by
 induction d using Dt.rec (motive_2:=fun ds=>∀xs:List V,Dt.gH ds=true→ay K H xs ds→ay K H' xs ds) with
 | non=>intro x _ h;simpa[aq] using h
 | bl b=>intro x _ h;simpa[aq] using h
 | int b=>intro x _ h;simpa[aq] using h
 | str b=>intro x _ h;simpa[aq] using h
 | tup ds ih=>
  intro x hn h
  rw[aq] at h ⊢
  rw[Dt.gg] at hn
  obtain⟨a,xs,e,q,hd⟩:=h
  exact⟨a,xs,e,k _ _ q,ih xs hn hd⟩
 | lst ds ih=>intro x hn;simp[Dt.gg] at hn
 | nil=>
  rename_i xs hn h
  cases xs with
  | nil=>simp[ay]
  | cons _ _=>simp[ay] at h
 | cons d ds h1 h2=>
  rename_i xs hn h
  rw[Dt.gH,Bool.and_eq_true] at hn
  cases xs with
  | nil=>simp[ay] at h
  | cons x xs=>
   rw[ay] at h ⊢
   exact⟨h1 x hn.1 h.1,h2 xs hn.2 h.2⟩
theorem t6 {K:PySem.W.Frag} {H H':Hp} (k:h9 K H H'):∀(ds:List Dt) (xs:List V),Dt.gH ds=true→ay K H xs ds→ay K H' xs ds
 | [],xs,_,h=>by
  cases xs with
  | nil=>simp[ay]
  | cons _ _=>simp[ay] at h
 | d::ds,xs,hn,h=>by
  rw[Dt.gH,Bool.and_eq_true] at hn
  cases xs with
  | nil=>simp[ay] at h
  | cons x xs=>
   rw[ay] at h ⊢
   exact⟨eQ k d x hn.1 h.1,t6 k ds xs hn.2 h.2⟩
theorem yQ {K:PySem.W.Frag} {H:Hp} {i:Int}:aq K H (.int i) (.int i):=by rw[aq]
theorem rO {K:PySem.W.Frag} {H:Hp} {z:Str}:aq K H (.str z) (.str z):=by rw[aq]
theorem kY {K:PySem.W.Frag} {H:Hp} {a:Addr} {xs:List V} {ds:List Dt} (h:aU K H a xs) (d:ay K H xs ds):aq K H (.ref a) (.tup ds):=by rw[aq];exact⟨a,xs,rfl,h,d⟩
theorem oN {K:PySem.W.Frag} {H:Hp} {a:Addr} {xs:List V} {ds:List Dt} (h:bp K H a xs) (d:ay K H xs ds):aq K H (.ref a) (.lst ds):=by rw[aq];exact⟨a,xs,rfl,h,d⟩
theorem eS {K:PySem.W.Frag} {H:Hp}:ay K H [] []:=by simp[ay]
theorem bY {K:PySem.W.Frag} {H:Hp} {x:V} {xs:List V} {d:Dt} {ds:List Dt} (h:aq K H x d) (t:ay K H xs ds):ay K H (x::xs) (d::ds):=by rw[ay];exact⟨h,t⟩
theorem wg {K:PySem.W.Frag} {H:Hp}:∀{xs ys:List V} {ds es:List Dt},ay K H xs ds→ay K H ys es→ay K H (xs++ys) (ds++es)
 | [],_,[],_,_,h=>h
 | [],_,_::_,_,h,_=>by simp[ay] at h
 | _::_,_,[],_,h,_=>by simp[ay] at h
 | x::xs,_,d::ds,_,h,g=>by
  rw[ay] at h
  exact bY h.1 (wg h.2 g)
theorem kZ {ns:List Str} {i:Nat} {x:V} (h:(ns.map V.str)[i]? =some x):∃f,x=.str f∧ns[i]? =some f:=by
 rw[List.getElem?_map] at h
 cases e:ns[i]? with
 | none=>rw[e] at h;cases h
 | some f=>rw[e] at h;exact⟨f,(Option.some.inj h).symm,rfl⟩
end L2
namespace L2
open PySem
def eG (d e:Addr) (H H':Hp):Prop:=∀b o,H b=some o→b≠d→b≠e→H' b=some o
theorem eG.trans {d e:Addr} {H H1 H2:Hp} (a:eG d e H H1) (b:eG d e H1 H2):eG d e H H2:=fun c o h n m=>b c o (a c o h n m) n m
theorem KB.l {d e:Addr} {H H':Hp} (k:KB d H H'):eG d e H H':=fun b o h n _=>k b o h n
theorem KB.r {d e:Addr} {H H':Hp} (k:KB e H H'):eG d e H H':=fun b o h _ n=>k b o h n
theorem Same.kb2 {d e:Addr} {H H':Hp} (s:Same H H'):eG d e H H':=fun b o h _ _=>s b o h
theorem aQ.none {P:Program} {w:World} {K:PySem.W.Frag} {mg:Str→Option Value} {base:Heap} {CX:o6} {k:Nat} {f:Addr} {fd:FuncData} {ps:List Str} {sp:Sp} (h:∀vs H Q E,¬sp vs H Q E):aQ P w K mg base CX k f fd ps sp:=
 ⟨fun vs H Q E q=>(h _ _ _ _ q).elim,fun A outer s H args us vs Q E _ _ _ _ hs=>(h _ _ _ _ hs).elim⟩
end L2
namespace L2
open PySem PySem.Spec PyProof.Rows
theorem DL:typeLookup (.type "list_reverseiterator") "__len__"=pure none:=by rw[typeLookup_type,builtinLookup_eq_fast];kernel_rfl
theorem GC:typeLookup (.type "list_reverseiterator") "__length_hint__"=pure (some (.builtin "list_reverseiterator.__length_hint__")):=by rw[typeLookup_type,builtinLookup_eq_fast];kernel_rfl
section
variable {prog:Program} {w:World} {A:Around} {s:Shared} {R:Result→Shared→Prop}
theorem zS {I l S:Addr} {its:Array Value} {res:Value} {c0:Nat} (hh:A.handled=none) (hlI:l≠I) (hSI:S≠I) (hSl:S≠l) (hit:s.heap.IsRevIter I l ((its.size:Int)-1)) (hl:s.heap.IsList l its) (hz:its.size≤sizeLine)
  (hS:s.heap.get? S=some {cls:=.type "list",data:=.seq #[] c0})
  (hR:∀h' tk acc c,(∀b o,b≠S→b≠I→s.heap.get? b=some o→h'.get? b=some o)→h'.get? S=some {cls:=.type "list",dict:=none,data:=.seq acc c,slots:= #[]}→ItemsOf (fun i v=>its[its.size-1-i]? =some v) acc its.size→
   R (.ok (.ret res)) {s with heap:=h',toks:=tk}):
  wpAny (model prog w) A.in1 (Builtin.List.listExtendWith (.ref S) (.ref I) res) (fun fin s'=>match fin with | .done f=>R (.ok f) s' | .again c'=>c'.quiet=true∧codeAny (model prog w) A c' R s') (fun e s'=>R (.error e) s') s:=by
 have hSf:S ∉ [I,l]:=fun hm=>by
  rcases List.mem_cons.mp hm with z | z
  ·exact hSI z
  ·exact hSl (List.mem_singleton.mp z)
 have W:=(Walks.listRev (prog:=prog) (w:=w) (A:=A.in1) hh I l hlI its).toS
 unfold Builtin.List.listExtendWith
 (refine wpAny_bind (wpAny_typeOf hit.typeIs ?_))
 have g1:Builtin.List.listSameRef (.ref S) (.ref I)=false:=by simp[Builtin.List.listSameRef,hSI]
 rw[if_neg (by rw[g1];decide)];refine wpAny_bind (wpAny_pyIter_revIter hit ?_)
 (refine wpAny_bind (wpAny_holding ?_));unfold Builtin.List.listLengthHint
 refine wpAny_bind (wpAny_specialOf hit.typeIs DL ?_)
 show wpAny _ A.in1 (specialOf (Value.ref I) (Str.ofString "__length_hint__") >>= _) _ _ s
 refine wpAny_bind (wpAny_specialOf hit.typeIs GC ?_)
 generalize hid:("list_reverseiterator.__length_hint__":String)=id0
 wp_delta
 rw[show splitId id0=some ("list_reverseiterator","__length_hint__") from by subst hid;decide+kernel];subst hid
 refine wpAny_bind (wpAny_isInstance (T:="list_reverseiterator") (b:=true) hit.typeIs (by rw[isSubtype_type];kernel_rfl) ?_)
 (refine wpAny_pure ?_);rw[if_neg (by decide)]
 refine wpAny_pure ⟨plainId_quiet F.plain_extend_loop _,codeAny_extend_loopS W hz S hSf res its.size 0 s _ c0 rfl (Nat.zero_le _) ⟨Nat.zero_le _,by simpa using hit,hl⟩ hS (ItemsOf.nil _) fun s' acc c hm hS' ha=>?_⟩
 rw[Moved.eq_with hm]
 refine hR s'.heap s'.toks acc c (fun b o hb hb' e=>hm.heap b o (fun z=>?_) e) hS' ha
 rcases List.mem_cons.mp z with z | z
 ·exact hb z
 ·exact hb' (List.mem_singleton.mp z)
end
section
variable {prog:Program} {w:World} {A:Around} {E:Value→Shared→Prop} {s:Shared}
theorem uG {Q:Value→Shared→Prop} {I l:Addr} {its:Array Value} (hh:A.handled=none) (hlI:l≠I) (hit:s.heap.IsRevIter I l ((its.size:Int)-1)) (hl:s.heap.IsList l its) (hz:its.size≤sizeLine)
  (hQ:∀h' tk acc c,(∀b o,b≠I→s.heap.get? b=some o→h'.get? b=some o)→h'.get? s.heap.objs.size=some {cls:=.type "list",dict:=none,data:=.seq acc c,slots:= #[]}→ItemsOf (fun i v=>its[its.size-1-i]? =some v) acc its.size→
   Q (.ref s.heap.objs.size) {s with heap:=h',toks:=tk}):wpAny (model prog w) A (call (.type "list") [.ref I]) Q E s:=by
 have bI:I<s.heap.objs.size:=by obtain⟨o,e,_⟩:=hit;exact Heap.lt_size e
 have bl:l<s.heap.objs.size:=by obtain⟨o,e,_⟩:=hl;exact Heap.lt_size e
 refine callType_codes (Q₁:=fun obj s1=>obj=.ref s.heap.objs.size∧s1={s with heap:=s.heap.push {cls:=.type "list",data:=.seq #[]}}) F.called_list (F.typeCall_list_1 _) F.entry_list_init (code_list_new _ ⟨rfl,rfl⟩) fun obj s1 e1=>?_
 obtain⟨rfl,rfl⟩:=e1
 have hS:(s.heap.push {cls:=.type "list",data:=.seq #[]}).get? s.heap.objs.size=some {cls:=.type "list",data:=.seq #[]}:=Heap.get?_push_size _ rfl
 have old:∀b o,s.heap.get? b=some o→b≠s.heap.objs.size:=fun b o e=>Nat.ne_of_lt (Heap.lt_size e)
 refine⟨⟨_,hS,rfl⟩,F.args_list_init_2 _ _,?_⟩
 show wpAny _ _ (do let old ←Builtin.List.listItems (.ref s.heap.objs.size);Builtin.List.listUpdate (.ref s.heap.objs.size) (fun _=> #[]);letGo old.toList.reverse;Builtin.List.listExtendWith (.ref s.heap.objs.size) (.ref I) .none) _ _ _
 (refine wpAny_bind ?_);unfold Builtin.List.listItems;refine wpAny_bind (wpAny_seqItems hS rfl (wpAny_pure ?_))
 show wpAny _ _ (updateSeq s.heap.objs.size (fun _=> #[]) >>= fun _=>letGo (#[]:Array Value).toList.reverse >>= fun _=>Builtin.List.listExtendWith (.ref s.heap.objs.size) (.ref I) .none) _ _ _
 refine wpAny_bind (wpAny_updateSeq hS rfl ?_)
 have hS2:=Heap.get?_update_self (Obj.mapSeq (fun _=>(#[]:Array Value))) hS rfl
 have oth:∀b o,s.heap.get? b=some o→((s.heap.push {cls:=.type "list",data:=.seq #[]}).update s.heap.objs.size (Obj.mapSeq (fun _=>(#[]:Array Value)))).get? b=some o:=
  fun b o e=>(Heap.get?_update_other _ _ (Ne.symm (old b o e))).trans (Heap.get?_push_of_some _ e)
 (refine wpAny_bind (wpAny_letGo ?_));refine zS (A:=A.in1) hh hlI (Nat.ne_of_gt bI) (Nat.ne_of_gt bl) (hit.at fun o e=>oth _ o e) (hl.at fun o e=>oth _ o e) hz hS2 fun h' tk acc c k e a=>?_
 exact⟨rfl,hQ h' tk acc c (fun b o hb e=>k b o (old b o e) hb (oth b o e)) e a⟩
end
theorem k_ {α β:Type} {r:α→β→Prop} {xs:List α} {ys:List β} (h:Paired r xs ys):Paired r xs.reverse ys.reverse:=by
 induction h with
 | nil=>exact .nil
 | cons a _ ih=>rw[List.reverse_cons,List.reverse_cons];exact bw ih (.cons a .nil)
theorem Bs {its:List Value} {acc:Array Value} (h:ItemsOf (fun i v=>its.toArray[its.toArray.size-1-i]? =some v) acc its.toArray.size):acc.toList=its.reverse:=by
 obtain⟨hs,hv⟩:=h
 simp only[List.size_toArray,List.getElem?_toArray] at hs hv
 apply List.ext_getElem?
 intro j
 by_cases hj:j<its.length
 ·have e1:acc[j]? =some acc[j]:=Array.getElem?_eq_getElem (by omega)
  have e2:=hv j _ e1
  rw[List.getElem?_reverse hj,e2,Array.getElem?_toList,e1]
 ·rw[List.getElem?_eq_none (by rw[Array.length_toList];omega),List.getElem?_eq_none (by rw[List.length_reverse];omega)]
section
variable {X:Cx}
def Td (K:PySem.W.Frag) (ta:TA):TE:=fun σ H Q=>ta σ H fun vs H1=>∃(a:Addr) (xs:List V),vs=[.ref a]∧bp K H1 a xs∧∀l,H1 l=none→Q (.ref l) (upd H1 l (.lst xs.reverse))
theorem zT (K:PySem.W.Frag) {a:Expr} {ta:TA} {p p' pos pos':Pos} (hc:X.calm=true) (hg:Gl X "list") (hm:X.mg "list"=none) (hg':Gl X "reversed") (hm':X.mg "reversed"=none) (ha:PA X [a] ta) (hK:X.K=K:=by rfl)
  (hs:starEach [a] X.env=[(false,eval a X.env)]:=by rfl):PE X (.Call (.Name "list" p) [.Call (.Name "reversed" p') [a] [] pos'] [] pos) (Td K ta):=by
 subst hK
 intro pins s σ H Q I h
 refine wpAny_Call_Name_kw (gc I hg hm oJ ?_)
 refine PyProof.Rows.callWith_type1 ?_ rfl rfl
 rw[show starEach [.Call (.Name "reversed" p') [a] [] pos'] X.env=[(false,eval (.Call (.Name "reversed" p') [a] [] pos') X.env)] from rfl]
 show wpAny _ _ (spliced [(false,eval (.Call (.Name "reversed" p') [a] [] pos') X.env)]) _ _ s
 refine Calls.spliced_cons ?_
 refine Call_ (gc I hg' hm' yj (PyProof.Rows.callWith_type1 (aE (ha pos' pins s σ H _ I h) fun us s1 ⟨vs,H1,I1,r1,q1⟩=>?_) hs rfl))
 obtain⟨l,xs,e,hq,q⟩:=q1
 subst e
 cases r1 with
 | cons r rr=>
  cases rr
  cases r
  obtain⟨its,rv,pl,hz⟩:=I1.list hq
  have hl:=rv.length
  refine call_reversed_list pl.isList (Calls.spliced_nil ?_)
  have bl:l<s1.heap.objs.size:=by obtain⟨o,e,_⟩:=pl.isList;exact Heap.lt_size e
  refine uG (I1.ok.hd hc) (I:=s1.heap.objs.size) (its:=its.toArray) (Nat.ne_of_lt bl) ⟨_,Heap.get?_push_size _ rfl,rfl,rfl⟩ (pl.isList.push _) (by simp only[List.size_toArray];omega) fun h' tk acc c k e it=>?_
  have ei:=Bs it
  have kp:∀b u,s1.heap.get? b=some u→h'.get? b=some u:=fun b u e=>k b u (Nat.ne_of_lt (Heap.lt_size e)) (Heap.get?_push_of_some _ e)
  rw[Heap.size_push] at e
  have hp:s1.heap.objs.size≤s1.heap.objs.size+1:=Nat.le_succ _
  refine⟨.ref (s1.heap.objs.size+1),_,I1.laid (t':=tk) kp hp (show bq X.prog X.w _ h' _ (.lst xs.reverse) from⟨by rw[List.length_reverse];exact hz,acc.toList,c,by rw[ei];exact k_ rv,e⟩),?_,q _ (I1.hok.fresh hp)⟩
  show RelV (.ref _) _
  rw[show(s1.heap.push (revObj l ((its.toArray.size:Int)-1))).objs.size=s1.heap.objs.size+1 from Heap.size_push ..]
  rfl
end
end L2
namespace L2
open PySem PySem.Spec PyProof.Rows
open AutoSeq1 (wpAny_loadPart')
section
variable {prog:Program} {w:World} {A:Around} {E:Value→Shared→Prop} {s:Shared}
theorem gi {it t:Addr} {i:Nat} {items:Array Value} {x:Value} {Q:Value→Shared→Prop} (hit:s.heap.IsTupleIter it t i) (ht:s.heap.IsTuple t items) (hx:items[i]? =some x)
  (hQ:∀h',h'.IsTupleIter it t (i+1)→Heap.SameBut it s.heap h'→Q x {s with heap:=h'}):wpAny (model prog w) A (Builtin.SmallTypes.nextOf (.ref it)) Q E s:=by
 obtain⟨o,ho,hc,hd⟩:=id hit
 obtain⟨ol,hol,_,nl,hdl⟩:=ht
 unfold Builtin.SmallTypes.nextOf
 refine wpAny_bind (wpAny_callSpecial?_slot (name:=Str.ofString "__next__") hit.typeIs F.slot_tuple_iterator_next (wpAny_call_entry F.slot_tuple_iterator_next hit.typeIs F.entry_tuple_iterator_next ?_ (F.args_tuple_iterator_next_1 _)))
 (show wpAny _ _ (field (.ref it) 0 >>= _) _ _ s);(refine wpAny_bind (wpAny_field ho hd (x:=.ref t) rfl ?_))
 (show wpAny _ _ (if(Value.ref t == Value.none)=true then _ else _) _ _ s);rw[if_neg (show ¬((Value.ref t == Value.none)=true) from Bool.false_ne_true)]
 (show wpAny _ _ (field (.ref it) 1 >>= _) _ _ s);(refine wpAny_bind (wpAny_field ho hd (x:=.int i 0) rfl ?_))
 (show wpAny _ _ (seqItems? (.ref t) >>= _) _ _ s);(refine wpAny_bind (wpAny_seqItems hol hdl ?_))
 simp only[Int.toNat_natCast,hx];refine wpAny_bind (wpAny_setField ho hd (by simp) (wpAny_pure ⟨x,rfl,wpAny_pure (hQ _ ?_ (Heap.SameBut.update ..))⟩))
 exact⟨_,Heap.get?_update_self _ ho (Obj.isFreed_of_fields (Obj.data_mapFields hd _)),(Obj.cls_mapFields ..).trans hc,(by rw[Obj.data_mapFields hd];simp[rawInt])⟩
theorem kz {it t:Addr} {i:Nat} {items:Array Value} {Q:Value→Shared→Prop} (hh:A.handled=none) (hit:s.heap.IsTupleIter it t i) (ht:s.heap.IsTuple t items) (hx:items[i]? =none)
  (hE:∀h' e,Heap.ExtBut it s.heap h'→(∃o,h'.get? e=some o∧o.cls=.type "StopIteration")→E (.ref e) {s with heap:=h'}):wpAny (model prog w) A (Builtin.SmallTypes.nextOf (.ref it)) Q E s:=by
 obtain⟨o,ho,hc,hd⟩:=id hit
 obtain⟨ol,hol,_,nl,hdl⟩:=ht
 unfold Builtin.SmallTypes.nextOf
 refine wpAny_bind (wpAny_callSpecial?_slot (name:=Str.ofString "__next__") hit.typeIs F.slot_tuple_iterator_next (wpAny_call_entry F.slot_tuple_iterator_next hit.typeIs F.entry_tuple_iterator_next ?_ (F.args_tuple_iterator_next_1 _)))
 (show wpAny _ _ (field (.ref it) 0 >>= _) _ _ s);(refine wpAny_bind (wpAny_field ho hd (x:=.ref t) rfl ?_))
 (show wpAny _ _ (if(Value.ref t == Value.none)=true then _ else _) _ _ s);rw[if_neg (show ¬((Value.ref t == Value.none)=true) from Bool.false_ne_true)]
 (show wpAny _ _ (field (.ref it) 1 >>= _) _ _ s);(refine wpAny_bind (wpAny_field ho hd (x:=.int i 0) rfl ?_))
 (show wpAny _ _ (seqItems? (.ref t) >>= _) _ _ s);(refine wpAny_bind (wpAny_seqItems hol hdl ?_))
 simp only[Int.toNat_natCast,hx];refine wpAny_bind (wpAny_rule (wpAny_bind (wpAny_setField ho hd (by simp) ?_)))
 (show wpAny _ _ (newExc (.type "StopIteration") [] >>= _) _ _ _);(refine wpAny_bind ?_);simp only[newExc,newTuple]
 (refine wpAny_bind (wpAny_newObj_type ?_ (by size_fits)))
 (refine wpAny_bind (m:=firstArgMember _ _) (wpAny_of_eq (a:=Value.none) (by first | rfl | (simp only[firstArgMember];rfl)) ?_));(refine wpAny_newObj_type ?_ (by size_fits))
 simp only[raiseNew];refine wpAny_bind (wpAny_handled ?_)
 (first | rw[show A.in1.handled=none from hh] | rw[hh]);refine wpAny_bind (wpAny_pure (wpAny_throw ?_))
 exact hE _ _ (((Heap.SameBut.update (a:=it) ..).extBut.push _).push _) ⟨_,Heap.get?_push_size _ rfl,rfl⟩
end
end L2
namespace L2
open PySem PySem.Spec PyProof.Rows
section
variable {X:Cx}
def OX (K:PySem.W.Frag):List V→Hp→VK→Prop:=fun xs H Q=>∃(a:Addr) (bs:List Bool),xs=[.ref a]∧bp K H a (bs.map V.bl)∧Q (.bl (bs.all id)) H
theorem zU {bs:List Bool} {its:List Value} (r:Vals (bs.map V.bl) its):its=bs.map Value.bool:=by
 induction bs generalizing its with
 | nil=>cases r;rfl
 | cons b bs ih=>
  cases r with
  | cons r1 r2=>
   rw[List.map_cons,ih r2]
   exact congrArg (· ::_) r1
theorem Bt (K:PySem.W.Frag) (hc:X.calm=true) (hK:X.K=K:=by rfl):dm X (.builtin "all") (OX K):=by
 subst hK
 intro pins s σ H xs us Q I r h
 obtain⟨a,bs,rfl,hq,q⟩:=h
 obtain⟨u,rfl,ru⟩:=vals1 r
 cases ru
 obtain⟨its,rv,p,_⟩:=I.list hq
 have e:=zU rv
 have bl:a<s.heap.objs.size:=by obtain⟨o,e,_⟩:=p.isList;exact Heap.lt_size e
 refine call_all_walk ?_
 refine wpAny_pyIter_list p.isList ?_
 refine⟨s.heap.objs.size,_,_,_,_,_,fun i=>(bs.getD i false),rfl,Walks.list (A:=X.A.in1) (I.ok.hd hc) _ a (Nat.ne_of_lt bl) its.toArray,⟨⟨_,Heap.get?_push_size _ rfl,rfl,rfl⟩,p.isList.push _⟩,?_,fun h' tk k=>?_⟩
 ·intro i v s' Q' E' hv hQ'
  have:v=.bool (bs.getD i false):=by
   rw[List.getElem?_toArray,e,List.getElem?_map] at hv
   rw[List.getD_eq_getElem?_getD]
   cases eb:bs[i]? with
   | none=>rw[eb] at hv;cases hv
   | some b=>rw[eb] at hv;exact(Option.some.inj hv).symm
  rw[this]
  exact wpAny_truthy_bool hQ'
 ·refine⟨.bl (bs.all id),H,I.kept fun b o eo=>k b o (fun z=>Nat.ne_of_lt (Heap.lt_size eo) (List.mem_singleton.mp z)) (Heap.get?_push_of_some _ eo),?_,q⟩
  have hl:its.toArray.size=bs.length:=by simp[e]
  have ea:∀cs:List Bool,(List.range cs.length).all (fun i=>cs.getD i false)=cs.all id:=fun cs=>by
   induction cs with
   | nil=>rfl
   | cons c cs ih=>
    rw[List.length_cons,List.range_succ_eq_map,List.all_cons,List.all_map,List.all_cons,←ih]
    rfl
  show _=Value.bool _
  rw[hl,ea]
theorem qA:∀{vs:List Value} {ss:List Str},vs.length=ss.length→(∀(i:Nat) (v:Value) (x:Str),vs[i]? =some v→ss[i]? =some x→∃t,v=.str x t)→StrsAre vs ss
 | [],[],_,_=>.nil
 | [],_::_,h,_=>by cases h
 | _::_,[],h,_=>by cases h
 | v::vs,x::ss,h,k=>by
  obtain⟨t,rfl⟩:=k 0 v x rfl rfl
  exact .cons x t (qA (Nat.succ.inj h) fun i v y e1 e2=>k (i+1) v y e1 e2)
end
section
variable {X:Cx} {pins:List (Addr×Obj)} {σ:List (Option V)} {H:Hp} {s:Shared} {h':Heap}
theorem Inv.rP {t':Nat} {ch:List Addr} (I:Inv X pins σ H s) (hf:∀b∈ch,ft X pins H b) (k:∀b u,b ∉ ch→s.heap.get? b=some u→h'.get? b=some u):Inv X pins σ H {s with heap:=h',toks:=t'}:=by
 have ng:∀b u,H b=some u→b ∉ ch:=fun b u e z=>by have q:=(hf b z).1;rw[e] at q;cases q
 refine I.step (g':=s.gens) (d':=s.drawn) (ch:=ch) (fun b hb=>?_) (fun b o _ _ hc e _=>k b o hc e) (fun b o _ _ hc e _=>⟨o.slots,k b o hc e⟩) (fun _ _ _ _ n=>n)
  (fun b o hc e=>⟨o,k b o hc e⟩) (fun _ _ e=>e) (fun _ _ _ e=>e) (fun b ps e=>⟨#[],by rw[e];simp⟩) (fun m hm=>?_) (fun b u e=>?_) I.bare
 ·obtain⟨f0,f1,f2,f3,f4,f5⟩:=hf b hb
  exact⟨f3,f1,f4,f5⟩
 ·obtain⟨ob,es,ep,ho,r⟩:=hm
  exact⟨ob,es,ep,k _ ob (fun z=>(hf _ z).2.1 rfl) ho,r⟩
 ·refine(I.hok b u e).stay (fun c v hc q=>k c v ?_ q) (fun _ q=>q) fun _ _ q=>q
  rcases hc with z | z
  ·rw[z];exact ng b u e
  ·exact ng c _ z
end
def Ie (K:PySem.W.Frag) (a b:Addr):It:=
 ⟨fun i H=>∃xs ys x y,bp K H a xs∧bp K H b ys∧xs[i]? =some x∧ys[i]? =some y,
  fun i H v H'=>∃x y p,(∀xs,bp K H a xs→xs[i]? =some x)∧(∀ys,bp K H b ys→ys[i]? =some y)∧H p=none∧v=.ref p∧H'=upd H p (.tup [x,y]),
  fun i H=>∃xs ys,bp K H a xs∧bp K H b ys∧(xs.length≤i∨ys.length≤i)⟩
theorem DM {P:Program} {w:World} {K:PySem.W.Frag} {elts:List Expr} {x1} {tpos:Pos} (a b z TI TO i1 i2:Addr) (D:ZipApart z TI TO i1 i2 a b):
  Turn P w K (.Tuple elts x1 tpos) (Ie K a b) [z,TO,i1,i2,TI] z (fun i h=>IsZip h z TI TO .none∧IsPair h TI (.ref i1) (.ref i2)∧(∃x y,IsPair h TO x y)∧h.IsListIter i1 a i∧h.IsListIter i2 b i) where
 mem:=by simp
 obj:=fun i h st c hc=>by
  obtain⟨hz,hTI,⟨x,y,hTO⟩,h1,h2⟩:=st
  have hc':c=z∨c=TO∨c=i1∨c=i2∨c=TI:=by simpa using hc
  rcases hc' with q | q | q | q | q
  ·subst q;exact⟨_,hz,fun v e=>nomatch e⟩
  ·subst q;exact⟨_,hTO,fun v e=>nomatch e⟩
  ·subst q
   obtain⟨o,e,_,d⟩:=h1
   exact⟨o,e,fun v q=>by rw[d] at q;cases q⟩
  ·subst q
   obtain⟨o,e,_,d⟩:=h2
   exact⟨o,e,fun v q=>by rw[d] at q;cases q⟩
  ·subst q;exact⟨_,hTI,fun v e=>nomatch e⟩
 keep:=fun i h h' st k=>by
  obtain⟨hz,hTI,⟨x,y,hTO⟩,h1,h2⟩:=st
  exact⟨k z (by simp) _ hz,k TI (by simp) _ hTI,⟨x,y,k TO (by simp) _ hTO⟩,h1.at fun o q=>k i1 (by simp) o q,h2.at fun o q=>k i2 (by simp) o q⟩
 item:=by
  intro X hP hw hK hc i pins s σ H E I hf st hg
  subst hP hw hK
  obtain⟨hz,hTI,⟨u1,u2,hTO⟩,h1,h2⟩:=st
  obtain⟨xs,ys,x,y,hq,hq2,hx,hy⟩:=hg
  obtain⟨its,rv,p,_⟩:=I.list hq
  obtain⟨its2,j4,p2,_⟩:=I.list hq2
  obtain⟨u,hu,ru⟩:=rv.get hx
  obtain⟨v,hv,rv'⟩:=j4.get hy
  refine wpAny_pyNext_zip_item D hz hTI hTO h1 h2 p.isList p2.isList (x:=u) (y:=v) (by simpa using hu) (by simpa using hv) fun h1' a1 a2 a3 a4 a5 a6 kk=>?_
  have nn:H s.heap.objs.size=none:=I.hok.fresh (Nat.le_refl _)
  have nz:∀c∈[z,TO,i1,i2],ft X pins H c:=fun c hc=>hf c (by
   have hc':c=z∨c=TO∨c=i1∨c=i2:=by simpa using hc
   rcases hc' with q | q | q | q<;>simp[q])
  have I1:Inv X pins σ (upd H s.heap.objs.size (.tup [x,y])) {s with heap:=h1',toks:=s.toks}:=
   I.lU (ch:=[z,TO,i1,i2]) nz (fun c o hc q=>kk c o (fun e=>hc (by simp[e])) (fun e=>hc (by simp[e])) (fun e=>hc (by simp[e])) (fun e=>hc (by simp[e])) q) (Nat.le_refl _)
    ⟨⟨by show 2≤sizeLine;decide,_,a5,rfl⟩,[u,v],.cons ru (.cons rv' .nil),⟨_,a5,rfl,_,rfl⟩⟩
  have lz:z<s.heap.objs.size:=Heap.lt_size hz
  have Bu:TI<s.heap.objs.size:=Heap.lt_size hTI
  have Bv:TO<s.heap.objs.size:=Heap.lt_size hTO
  have l1:i1<s.heap.objs.size:=by obtain⟨o,q,_⟩:=id h1;exact Heap.lt_size q
  have l2:i2<s.heap.objs.size:=by obtain⟨o,q,_⟩:=id h2;exact Heap.lt_size q
  refine⟨_,rfl,wpAny_letOwnedTupleGo_zip a1 fun h2' e2 sb=>?_⟩
  obtain⟨f0,f1,f2,f3,f4,f5⟩:=hf z (by simp)
  have I2:=I1.turned (h':=h2') (t':=s.toks) (it:=z) (fun c o hc q=>(sb.2 c hc).trans q) (by rw[ak (Nat.ne_of_lt lz)];exact f0) f1 f3 f4 f5
  refine⟨.ref s.heap.objs.size,_,I2,rfl,⟨x,y,s.heap.objs.size,fun zs hy=>by rw[I.ia hy hq];exact hx,fun zs hz'=>by rw[I.ia hz' hq2];exact hy,nn,rfl,rfl⟩,
   ⟨e2,(sb.2 TI D.TIz).trans (kk _ _ D.TIz D.TITO D.TIi1 D.TIi2 hTI),⟨_,_,(sb.2 TO D.TOz).trans a2⟩,a3.at fun o q=>(sb.2 i1 D.i1z).trans q,a4.at fun o q=>(sb.2 i2 D.i2z).trans q⟩,fun c hc=>?_⟩
  have hlt:c<s.heap.objs.size:=by
   have hc':c=z∨c=TO∨c=i1∨c=i2∨c=TI:=by simpa using hc
   rcases hc' with q | q | q | q | q
   ·rw[q];exact lz
   ·rw[q];exact Bv
   ·rw[q];exact l1
   ·rw[q];exact l2
   ·rw[q];exact Bu
  rw[ak (Nat.ne_of_lt hlt)]
  exact(hf c hc).1
 done:=by
  intro X hP hw hK hc i pins s σ H E I hf st hg
  subst hP hw hK
  obtain⟨hz,hTI,⟨u1,u2,hTO⟩,h1,h2⟩:=st
  obtain⟨xs,ys,hq,hq2,hx⟩:=hg
  obtain⟨its,rv,p,_⟩:=I.list hq
  obtain⟨its2,j4,p2,_⟩:=I.list hq2
  have hl:=rv.length
  have hl2:=j4.length
  have hend:its.toArray[i]? =none∨its2.toArray[i]? =none:=by
   rcases hx with q | q
   ·exact .inl (by simp;omega)
   ·exact .inr (by simp;omega)
  have nz:∀c∈[z,TO,i1,i2],ft X pins H c:=fun c hc=>hf c (by
   have hc':c=z∨c=TO∨c=i1∨c=i2:=by simpa using hc
   rcases hc' with q | q | q | q<;>simp[q])
  exact wpAny_pyNext_zip_end (I.ok.hd hc) D hz hTI hTO h1 h2 p.isList p2.isList hend fun h' kk=>
   ⟨rfl,I.rP (t':=s.toks) (ch:=[z,TO,i1,i2]) nz (fun c o hc q=>kk c o (fun e=>hc (by simp[e])) (fun e=>hc (by simp[e])) (fun e=>hc (by simp[e])) (fun e=>hc (by simp[e])) q)⟩
 self:=fun _ _ _ _ _ st h=>wpAny_pyIter_zip st.1 h
def Ig (K:PySem.W.Frag) (ta:TA):TI:=fun σ H R=>ta σ H fun vs H1=>∃a b,vs=[.ref a,.ref b]∧(∃xs,bp K H1 a xs)∧(∃ys,bp K H1 b ys)∧R (Ie K a b) H1
theorem Bw {X:Cx} {elts:List Expr} {x1} {tpos:Pos} {a b:Expr} {ta:TA} {p pos:Pos} (hg:Gl X "zip") (hm:X.mg "zip"=none) (ha:PA X [a,b] ta)
  (hs:starEach [a,b] X.env=[(false,eval a X.env),(false,eval b X.env)]:=by rfl) (hs2:starEach [b] X.env=[(false,eval b X.env)]:=by rfl):
  PI X (.Tuple elts x1 tpos) (.Call (.Name "zip" p) [a,b] [] pos) (Ig X.K ta):=by
 intro pins s σ H R I h
 refine Call_ (gc I hg hm boot_zip (PyProof.Rows.callWith_type1 (aE (ha pos pins s σ H _ I h) fun us s1 ⟨vs,H1,I1,r1,q1⟩=>?_) (by rw[hs,hs2]) (by rw[hs2];rfl)))
 obtain⟨l1,l2,e,⟨xs,hq⟩,⟨ys,hq2⟩,q⟩:=q1
 subst e
 cases r1 with
 | cons r rr=>
  cases rr with
  | cons r' rr=>
   cases rr
   cases r
   cases r'
   obtain⟨its,rv,pl,_⟩:=I1.list hq
   obtain⟨its2,j4,t7,_⟩:=I1.list hq2
   have a1:l1<s1.heap.objs.size:=by obtain⟨_,e,_⟩:=pl.isList;exact Heap.lt_size e
   have a2:l2<s1.heap.objs.size:=by obtain⟨_,e,_⟩:=t7.isList;exact Heap.lt_size e
   refine call_zip_2 pl.isList t7.isList fun h' hz hTI hTO hi1 hi2 hsz kk=>?_
   have I2:Inv X pins σ H1 {s1 with heap:=h'}:=I1.kept (t':=s1.toks) kk
   refine wpAny_pyIter_zip hz ?_
   refine⟨s1.heap.objs.size+4,[s1.heap.objs.size+4,s1.heap.objs.size+3,s1.heap.objs.size,s1.heap.objs.size+1,s1.heap.objs.size+2],_,_,H1,rfl,I2,DM l1 l2 _ _ _ _ _ (zipApart_new a1 a2),⟨hz,hTI,⟨_,_,hTO⟩,hi1,hi2⟩,fun c hc=>?_,q⟩
   have hle:s1.heap.objs.size≤c:=by
    have hc':c=s1.heap.objs.size+4∨c=s1.heap.objs.size+3∨c=s1.heap.objs.size∨c=s1.heap.objs.size+1∨c=s1.heap.objs.size+2:=by simpa using hc
    rcases hc' with q | q | q | q | q<;>(rw[q];first | exact Nat.le_add_right _ _ | exact Nat.le_refl _)
   exact I1.jB hle (I1.hok.fresh hle)
theorem GD (t:SetTable) (es:Array (Int×Value)) (h:Int) (x:Value):(layNew t es h x).2.1.led=t.led:=by
 unfold layNew
 split
 ·unfold SetTable.put SetTable.orStandIn SetTable.standIn
  dsimp only
  repeat' split
  all_goals rfl
 ·rfl
theorem Bx (t:SetTable) (es:Array (Int×Value)) (n:Nat):(relayAll t es n).2.1.led=t.led:=by
 unfold relayAll
 split
 ·rename_i q r e
  unfold SetTable.relaid SetTable.laid at e
  dsimp only
  split
  ·simp only[Option.bind_eq_bind,Option.bind_eq_some_iff,Option.pure_def,Option.some.injEq,Prod.mk.injEq] at e
   obtain⟨_,_,e1,_⟩:=e
   rw[←e1]
  ·rfl
 ·rfl
theorem yl {t:SetTable} (es:Array (Int×Value)) (n:Nat) (hp:t.plain=false):(relayAll t es n).2.1.plain=false:=by
 unfold relayAll
 split
 ·rename_i q r e
  unfold SetTable.relaid SetTable.laid at e
  dsimp only
  split
  ·simp only[Option.bind_eq_bind,Option.bind_eq_some_iff,Option.pure_def,Option.some.injEq,Prod.mk.injEq] at e
   obtain⟨_,_,e1,_⟩:=e
   rw[←e1]
   exact hp
  ·rfl
 ·rfl
structure cq (P:Program) (w:World) (h:Heap) (a:Addr) (es:Array (Int×Value)) (ep:Nat) (t:SetTable) (ks:List Str):Prop where
 obj:∃o,h.get? a=some o∧o.ExactSet∧o.data=.set es ep t
 elems:ElemsOf (strKind P w) es.toList
 small:es.size<scanBound
 fits:t.fits es.size=true
 led:t.led= !w.params.followText "set-order"
 plain:es.size≠0→t.plain=false
 vals:StrsAre (es.toList.map (·.2)) ks
 once:ks.Nodup
theorem cq.at {P:Program} {w:World} {h h':Heap} {a:Addr} {es:Array (Int×Value)} {ep:Nat} {t:SetTable} {ks:List Str} (s:cq P w h a es ep t ks) (k:∀o,h.get? a=some o→h'.get? a=some o):cq P w h' a es ep t ks:=by
 obtain⟨o,e,r⟩:=s.obj
 exact⟨⟨o,k o e,r⟩,s.elems,s.small,s.fits,s.led,s.plain,s.vals,s.once⟩
theorem cq.len {P:Program} {w:World} {h:Heap} {a:Addr} {es:Array (Int×Value)} {ep:Nat} {t:SetTable} {ks:List Str} (s:cq P w h a es ep t ks):es.size=ks.length:=by
 have:=s.vals.length
 rw[List.length_map,Array.length_toList] at this
 exact this
theorem j5 {vs us:List Value} (p:vs.Perm us):∀{ks:List Str},StrsAre us ks→∃ks',StrsAre vs ks'∧ks'.Perm ks:=by
 induction p with
 | nil=>intro ks h;cases h;exact⟨[],.nil,.refl _⟩
 | cons x _ ih=>
  intro ks h
  cases h with
  | cons y tk r=>
   obtain⟨k',a,b⟩:=ih r
   exact⟨y::k',.cons y tk a,b.cons y⟩
 | swap x y l=>
  intro ks h
  cases h with
  | cons a ta r=>
   cases r with
   | cons b tb r=>exact⟨b::a::_,.cons b tb (.cons a ta r),.swap a b _⟩
 | trans _ _ ih1 ih2=>
  intro ks h
  obtain⟨k1,a1,b1⟩:=ih2 h
  obtain⟨k2,a2,b2⟩:=ih1 a1
  exact⟨k2,a2,b2.trans b1⟩
theorem DN {us vs:List Value} {ks ls:List Str} (h1:StrsAre us ks) (h2:StrsAre vs ls):StrsAre (us++vs) (ks++ls):=by
 induction h1 with
 | nil=>exact h2
 | cons x tk _ ih=>exact .cons x tk ih
theorem DP {us:List Value} {ks:List Str} (h:StrsAre us ks) {x:Str}:x∈ks↔∃tk,Value.str x tk∈us:=by
 induction h with
 | nil=>simp
 | cons y tk _ ih=>
  constructor
  ·intro m
   rcases List.mem_cons.mp m with e | m
   ·exact⟨tk,by rw[e];exact List.mem_cons_self⟩
   ·obtain⟨t',m'⟩:=ih.mp m
    exact⟨t',List.mem_cons_of_mem _ m'⟩
  ·rintro⟨t',m⟩
   rcases List.mem_cons.mp m with e | m
   ·injection e with e1 _
    rw[e1];exact List.mem_cons_self
   ·exact List.mem_cons_of_mem _ (ih.mpr ⟨t',m⟩)
section
variable {P:Program} {w:World} {A:Around} {E:Value→Shared→Prop} {s:Shared}
theorem DQ {a:Addr} {es:Array (Int×Value)} {ep:Nat} {t:SetTable} {ks:List Str} {x:Str} {tk:Tok} {Q:Bool→Shared→Prop} (S:cq P w s.heap a es ep t ks) (room:ks.length+1<scanBound)
  (hold:x∈ks→Q false s)
  (hnew:x ∉ ks→∀h' es' ep' t' ks',Heap.SameBut a s.heap h'→cq P w h' a es' ep' t' ks'→(∀y,y∈ks'↔y∈ks∨y=x)→ks'.length=ks.length+1→Q true {s with heap:=h'}):
  wpAny (model P w) A (setAddHashed a (.str x tk) (hashStr w x)) Q E s:=by
 obtain⟨o,ho,hex,hd⟩:=S.obj
 have M6:=S.len
 have M7:(strKind P w).is x (.str x tk)=true:=strKind_is P w x tk
 have Ih:(Value.str x tk).scannable=true:=rfl
 have hhash:hashStr w x=(strKind P w).hash x:=rfl
 rw[hhash]
 unfold setAddHashed setAddHashedIn
 refine wpAny_holding (wpAny_bind (wpAny_setState_of ho hd S.fits ?_))
 dsimp only
 rw[byScan_of Ih S.small S.elems,if_pos rfl]
 unfold setAddByScan
 refine wpAny_bind (wpAny_bind (wpAny_rule (wpAny_bind (wpAny_setScan_of M7 ho hd S.fits S.elems ?_))))
 have Ii:x∈ks↔∃e∈es.toList,(strKind P w).is x e.2=true:=by
  rw[DP S.vals]
  constructor
  ·rintro⟨t',m⟩
   obtain⟨e,he,e2⟩:=List.mem_map.mp m
   exact⟨e,he,by rw[e2];exact strKind_is P w x t'⟩
  ·rintro⟨e,he,hi⟩
   obtain⟨t',e2⟩:=Value.isStrOf_shape (x:=x) (v:=e.2) hi
   exact⟨t',by rw[←e2];exact List.mem_map.mpr ⟨e,he,rfl⟩⟩
 cases hr:List.findIdx? (fun e=>(strKind P w).is x e.2) es.toList with
 | some j=>
  dsimp only
  obtain⟨hj,hpj,_⟩:=List.findIdx?_eq_some_iff_getElem.mp hr
  exact wpAny_pure (wpAny_pure (hold (Ii.mpr ⟨_,List.getElem_mem hj,hpj⟩)))
 | none=>
  dsimp only
  have nk:x ∉ ks:=fun m=>by
   obtain⟨e,he,hp⟩:=Ii.mp m
   have:=List.findIdx?_eq_none_iff.mp hr e he
   rw[hp] at this
   cases this
  have hperm:=layNew_perm t es ((strKind P w).hash x) (.str x tk)
  have hfits:=layNew_fits t es ((strKind P w).hash x) (.str x tk)
  have zV:=GD t es ((strKind P w).hash x) (.str x tk)
  generalize layNew t es ((strKind P w).hash x) (.str x tk)=L at hperm hfits zV ⊢
  obtain⟨es1,t1,wasDummy,gave⟩:=L
  dsimp only at hperm hfits zV ⊢
  rw[Array.toList_push] at hperm
  have el1:ElemsOf (strKind P w) es1.toList:=(S.elems.push M7 Ih).perm hperm
  have WH:es1.size=es.size+1:=by rw[←Array.length_toList,hperm.length_eq,List.length_append,Array.length_toList];rfl
  have M8:es1.size<scanBound:=by omega
  obtain⟨t8,v1,p1⟩:=j5 (hperm.map (·.2)) (ks:=ks++[x]) (by rw[List.map_append];exact DN S.vals (.cons x tk .nil))
  have M9:t8.Nodup:=p1.nodup_iff.mpr (List.nodup_append.mpr ⟨S.once,by simp,fun y hy z hz=>by rw[List.mem_singleton.mp hz];exact fun e=>nk (e▸hy)⟩)
  have Ij:∀y,y∈t8↔y∈ks∨y=x:=fun y=>by rw[p1.mem_iff,List.mem_append,List.mem_singleton]
  have nA:t8.length=ks.length+1:=by rw[p1.length_eq,List.length_append];rfl
  have fin:∀t2:SetTable,t2.fits es1.size=true→t2.led=t.led→t2.plain=false→
    wpAny (model P w) A (do
     storeSet a es1 t2
     if(!wasDummy&&t2.tooFull)=true then do
       (match (relayAll t2 es1 (SetTable.grown es1.size)).2.2 with | true=>rule "set.scan.the-table-gave-way" | false=>pure ())
       storeSet a (relayAll t2 es1 (SetTable.grown es1.size)).1 (relayAll t2 es1 (SetTable.grown es1.size)).2.1
       pure (some true)
      else pure (some true)) (fun r s'=>r=some true∧Q true s') E s:=fun t2 f2 l2 p2=>by
   refine wpAny_bind (wpAny_storeSet_of ho hd ?_ (fits_of_scanBound M8))
   have hg:(s.heap.update a (Obj.putSet es1 t2)).get? a=some {o with data:=.set es1 (ep+1) t2}:=by
    have q:=Heap.get?_update_self (Obj.putSet es1 t2) ho (by rw[putSet_of es1 t2 hd];rfl)
    rw[putSet_of es1 t2 hd] at q
    exact q
   have M':=Heap.SameBut.update s.heap a (Obj.putSet es1 t2)
   have S1:cq P w (s.heap.update a (Obj.putSet es1 t2)) a es1 (ep+1) t2 t8:=⟨⟨_,hg,hex,rfl⟩,el1,M8,f2,by rw[l2];exact S.led,fun _=>p2,v1,M9⟩
   split
   ·have pr:=relayAll_perm t2 es1 (SetTable.grown es1.size)
    have fr:=relayAll_fits t2 es1 (SetTable.grown es1.size)
    have lr:=Bx t2 es1 (SetTable.grown es1.size)
    have Ik:=yl es1 (SetTable.grown es1.size) p2
    generalize relayAll t2 es1 (SetTable.grown es1.size)=Rl at pr fr lr Ik ⊢
    obtain⟨es2,t3,gv⟩:=Rl
    dsimp only at pr fr lr Ik ⊢
    have Te:es2.size=es1.size:=by rw[←Array.length_toList,pr.length_eq,Array.length_toList]
    have Na:es2.size<scanBound:=by omega
    obtain⟨By,v2,p2'⟩:=j5 (pr.map (·.2)) v1
    refine wpAny_bind ?_
    have rest:wpAny (model P w) A (do storeSet a es2 t3;pure (some true)) (fun r s'=>r=some true∧Q true s') E {s with heap:=s.heap.update a (Obj.putSet es1 t2)}:=by
     refine wpAny_bind (wpAny_storeSet_of hg rfl (wpAny_pure ⟨rfl,?_⟩) (fits_of_scanBound Na))
     have hg2:=Heap.get?_update_self (Obj.putSet es2 t3) hg (by rw[putSet_of es2 t3 rfl];rfl)
     rw[putSet_of es2 t3 rfl] at hg2
     exact hnew nk _ es2 (ep+1+1) t3 By (M'.trans (Heap.SameBut.update _ a _)) ⟨⟨_,hg2,hex,rfl⟩,el1.perm pr,Na,by rw[Te] at fr ⊢;exact fr,by rw[lr,l2];exact S.led,fun _=>Ik,v2,p2'.nodup_iff.mpr M9⟩
      (fun y=>by rw[p2'.mem_iff];exact Ij y) (by rw[p2'.length_eq];exact nA)
    cases gv
    ·exact wpAny_pure rest
    ·exact wpAny_rule rest
   ·exact wpAny_pure ⟨rfl,hnew nk _ es1 (ep+1) t2 t8 M' S1 Ij nA⟩
  refine wpAny_bind ?_
  have rest:wpAny (model P w) A (do
    let byValue ←if t1.plain=true then hashByValue 8 (.str x tk) else pure true
    storeSet a es1 (if byValue=true then t1 else {t1 with plain:=false})
    if(!wasDummy&&(if byValue=true then t1 else {t1 with plain:=false}).tooFull)=true then do
      (match (relayAll (if byValue=true then t1 else {t1 with plain:=false}) es1 (SetTable.grown es1.size)).2.2 with | true=>rule "set.scan.the-table-gave-way" | false=>pure ())
      storeSet a (relayAll (if byValue=true then t1 else {t1 with plain:=false}) es1 (SetTable.grown es1.size)).1 (relayAll (if byValue=true then t1 else {t1 with plain:=false}) es1 (SetTable.grown es1.size)).2.1
      pure (some true)
     else pure (some true)) (fun r s'=>r=some true∧Q true s') E s:=by
   cases hpl:t1.plain with
   | true=>
    rw[if_pos rfl,hashByValue_scannable 8 Ih]
    refine wpAny_bind (wpAny_pure ?_)
    exact fin {t1 with plain:=false} (SetTable.fits_plain_off hfits) zV rfl
   | false=>
    rw[if_neg (by decide)]
    refine wpAny_bind (wpAny_pure ?_)
    exact fin t1 hfits zV hpl
  have go:∀r s',(r=some true∧Q true s')→wpAny (model P w) A (match r with | some added=>pure added | none=>setAddHashedIn a (.str x tk) ((strKind P w).hash x) 99999) Q E s':=fun r s' ⟨e,q⟩=>by
   subst e
   exact wpAny_pure q
  cases gave
  ·exact wpAny_pure (aE rest go)
  ·exact wpAny_rule (aE rest go)
end
theorem oO {us:List Value} {xs:List Str} (hi:StrsAre us xs):∀(i:Nat) (v:Value),us[i]? =some v→∃x t,xs[i]? =some x∧v=.str x t:=by
 induction hi with
 | nil=>intro i v hv;simp at hv
 | cons y ty _ ih=>
  intro i v hv
  cases i with
  | zero=>
   have e:Value.str y ty=v:=by simpa using hv
   exact⟨y,ty,rfl,e.symm⟩
  | succ i=>exact ih i v (by simpa using hv)
section
variable {P:Program} {w:World} {A:Around} {R:Result→Shared→Prop} {I S:Addr} {fp wr:List Addr} {G:Array GenState→Array GenState→Prop} {n:Nat} {Pv:Nat→Value→Prop} {St:Nat→Shared→Prop}
theorem DS (W:WalksS P w A.in1 I fp wr G n Pv St) (hSf:S ∉ fp) (xs:List Str) (Nb:xs.length=n) (hval:∀i v,Pv i v→∃x t,xs[i]? =some x∧v=.str x t) (hb:n+1<scanBound):
  ∀(k i:Nat) (s:Shared) (es:Array (Int×Value)) (ep:Nat) (t:SetTable) (ks:List Str),n-i=k→i≤n→St i s→cq P w s.heap S es ep t ks→(∀y,y∈ks↔y∈xs.take i)→ks.length≤i→
   (∀s' es' ep' t' ks',Moved (S::wr) G s s'→cq P w s'.heap S es' ep' t' ks'→(∀y,y∈ks'↔y∈xs)→ks'.length≤n→R (.ok (.ret .none)) s')→
   codeAny (model P w) A (.builtin "set.update.loop" ⟨[.ref S,.ref I],[]⟩) R s:=by
 have hSw:S ∉ wr:=fun z=>hSf (W.sub _ z)
 have more:∀b∈wr,b∈S::wr:=fun b z=>List.mem_cons_of_mem _ z
 intro k
 induction k with
 | zero=>
  intro i s es ep t ks hk hi st hS hm hl hR
  have e:i=n:=by omega
  subst e
  refine codeAny_builtin PyProof.Rows.F.entry_set_update_loop ?_
  rw[Around.under_plainId PyProof.Rows.F.plain_set_update_loop]
  show wpAny (model P w) A.in1 (pyNext (.ref I) >>= _) _ _ s
  refine wpAny_bind (W.done s _ _ st fun s' mv=>?_)
  show wpAny (model P w) A.in1 (ret Value.none) _ _ s'
  refine wpAny_pure (hR s' es ep t ks (mv.mono more) (hS.at fun o q=>mv.heap S o hSw q) (fun y=>?_) hl)
  rw[hm y,List.take_of_length_le (by omega)]
 | succ k ih=>
  intro i s es ep t ks hk hi st hS hm hl hR
  have lt:i<n:=by omega
  refine codeAny_builtin PyProof.Rows.F.entry_set_update_loop ?_
  rw[Around.under_plainId PyProof.Rows.F.plain_set_update_loop]
  show wpAny (model P w) A.in1 (pyNext (.ref I) >>= _) _ _ s
  refine wpAny_bind (W.item i s _ _ lt st fun v s' hv st' mv=>?_)
  obtain⟨x,tx,ex,rfl⟩:=hval i v hv
  have hS':cq P w s'.heap S es ep t ks:=hS.at fun o q=>mv.heap S o hSw q
  have tk1:∀y,y∈xs.take (i+1)↔y∈xs.take i∨y=x:=fun y=>by rw[List.take_add_one,ex];simp
  show wpAny (model P w) A.in1 (holding [Value.str x tx] (setAdd S (.str x tx)) >>= _) _ _ s'
  refine wpAny_bind (wpAny_holding ?_)
  unfold setAdd
  refine wpAny_holding (wpAny_bind ((strKind P w).pyHash (k:=x) (strKind_is _ _ _ _) ?_))
  refine DQ (s:={s' with toks:=s'.toks+1}) hS' (by omega) (fun hx=>?_) (fun hx h' es' ep' t' ks' sb S2 m2 l2=>?_)
  ·refine wpAny_pure ⟨plainId_quiet PyProof.Rows.F.plain_set_update_loop _,ih (i+1) _ es ep t ks (by omega) lt (W.frame _ s' s'.heap _ st' (Nat.le_succ _) fun b _ o q=>q) hS' (fun y=>?_) (by omega) fun s2 es2 Il t2 By mv2 S2 m2 l2=>?_⟩
   ·rw[hm y,tk1 y]
    constructor
    ·exact .inl
    ·rintro(z | z)
     ·exact z
     ·rw[z];exact(hm x).mp hx
   ·exact hR s2 es2 Il t2 By (Moved.trans W.gtrans ((mv.mono more).then_heap (Nat.le_succ _) fun b o _ q=>q) mv2) S2 m2 l2
  ·refine wpAny_pure ⟨plainId_quiet PyProof.Rows.F.plain_set_update_loop _,ih (i+1) _ es' ep' t' ks' (by omega) lt (W.frame _ s' h' _ st' (Nat.le_succ _) fun b hb o q=>?_) S2 (fun y=>?_) (by omega) fun s2 es2 Il t2 By mv2 S2 m2 l2=>?_⟩
   ·exact(sb.2 b (fun z=>hSf (z▸hb))).trans q
   ·rw[m2 y,hm y,tk1 y]
   ·exact hR s2 es2 Il t2 By (Moved.trans W.gtrans ((mv.mono more).then_heap (Nat.le_succ _) fun b o hb q=>(sb.2 b (fun z=>hb (z▸List.mem_cons_self))).trans q) mv2) S2 m2 l2
end
section
variable {P:Program} {w:World} {A:Around} {E:Value→Shared→Prop} {s:Shared}
abbrev dN (w:World):Obj:={cls:=.type "set",dict:=none,data:=.set #[] 0 (.fresh 0 0 (!w.params.followText "set-order"))}
theorem DT (v:Value) {Q:Value→Shared→Prop} (h:Q (.ref s.heap.objs.size) {s with heap:=s.heap.push (dN w)}):
  codeAny (model P w) A (.call (.builtin "set.__new__") ⟨[.type "set",v],[]⟩) (wants Q E) s:=by
 refine codeAny_of_tree ?_
 show wpAny (model P w) A.in1 (do checkBuiltinCall "set.__new__" ⟨[.type "set",v],[]⟩;again (.builtin "set.__new__" ⟨[.type "set",v],[]⟩)) _ _ s
 refine wpAny_bind (wpAny_of_eq (PySem.F.newCall_set_1 v) (wpAny_pure ⟨plainId_quiet PySem.F.plain_set_new _,codeAny_builtin PySem.F.entry_set_new ?_⟩))
 rw[Around.under_plainId PySem.F.plain_set_new]
 unfold Builtin.«set.__new__» Builtin.Frozenset.newClass
 have hsub:=sub_set_self
 obtain⟨hp,g,d,tk,os⟩:=s
 dsimp only
 wp_walk
 refine wpAny_askSetting (wpAny_pure ?_)
 dsimp only
 simp only[newObj]
 exact wpAny_bind (wpAny_alloc (wpAny_pure (wpAny_pure h)))
theorem Bz (h:Heap):cq P w (h.push (dN w)) h.objs.size #[] 0 (.fresh 0 0 (!w.params.followText "set-order")) []:=
 ⟨⟨_,Heap.get?_push_size _ rfl,⟨rfl,rfl,rfl⟩,rfl⟩,fun e he=>(by simp at he),by decide,rfl,rfl,fun z=>absurd rfl z,.nil,by simp⟩
theorem wj {l:Addr} {its:Array Value} {xs:List Str} {Q:Value→Shared→Prop} (hh:A.handled=none) (hl:s.heap.IsList l its) (hi:StrsAre its.toList xs) (hb:its.size+1<scanBound)
  (h:∀(h':Heap) (tk:Nat) es ep t ks,cq P w h' s.heap.objs.size es ep t ks→(∀y,y∈ks↔y∈xs)→ks.length≤its.size→(∀b o,b<s.heap.objs.size→s.heap.get? b=some o→h'.get? b=some o)→Q (.ref s.heap.objs.size) {s with heap:=h',toks:=tk}):
  wpAny (model P w) A (call (.type "set") [.ref l]) Q E s:=by
 obtain⟨c,tl,hmro⟩:=PySem.F.called_set.mro
 have hmade:=PySem.F.called_set.made
 have hsub:=PySem.F.called_set.sub
 refine wpAny_call (codeAny_of_tree ?_)
 show wpAny _ _ (callAny (.type "set") _) _ _ _
 refine wpAny_pure ⟨Code.quiet_builtin _ (by decide+kernel),codeAny_builtin PySem.F.entry_type_call ?_⟩
 rw[Around.under_plain (weight_type_call_type "set" [.ref l] []) rfl]
 have a1:=PySem.F.called_set.notType
 have a2:=PySem.F.called_set.canCreate
 have a3:=PySem.F.typeCall_set_1 (.ref l)
 repeat (any_goals (first | assumption | wp_step))
 refine codeAny_mono (DT (.ref l) (E:=E) (Q:=fun obj s₁=>obj=.ref s.heap.objs.size∧s₁={s with heap:=s.heap.push (dN w)}) ⟨rfl,rfl⟩) fun r s₁ hr=>?_
 cases r with
 | error e=>exact hr
 | ok fl=>
  cases fl with
  | ret obj=>
   obtain⟨rfl,rfl⟩:=hr
   have gS:(s.heap.push (dN w)).get? s.heap.objs.size=some (dN w):=Heap.get?_push_size _ rfl
   have hT:Shared.TypeIs {s with heap:=s.heap.push (dN w)} (.ref s.heap.objs.size) "set":=⟨_,gS,rfl⟩
   have a4:=PySem.F.called_set.init.lookup
   have a5:=PySem.F.called_set.init.bind (.ref s.heap.objs.size)
   repeat (any_goals (first | assumption | wp_step))
   refine codeAny_mono (codeAny_call_builtin (R:=wants (fun r s₂=>r=.none∧∃h' tk es ep t ks,s₂={s with heap:=h',toks:=tk}∧cq P w h' s.heap.objs.size es ep t ks∧(∀y,y∈ks↔y∈xs)∧ks.length≤its.size∧
     (∀b o,b<s.heap.objs.size→s.heap.get? b=some o→h'.get? b=some o)) E) PySem.F.called_set.init.plain PySem.F.entry_set_init (check_set_init_1 hT ?_)) fun r₂ s₂ hr₂=>?_
   ·obtain⟨ol,hol,hcl,nl,hdl⟩:=hl
    obtain⟨ocls,odict,odata,oslots⟩:=ol
    simp only at hcl hdl
    subst hcl hdl
    have hol':(s.heap.push (dN w)).get? l=some {cls:=.type "list",dict:=odict,data:=.seq its nl,slots:=oslots}:=Heap.get?_push_of_some _ hol
    have b1:=PySem.F.sub_list_set
    have b2:=PySem.F.sub_list_frozenset
    have b3:(Value.type "list" == Value.type "dict")=false:=by decide
    have hl1:(s.heap.push (dN w)).IsList l its:=⟨_,hol',rfl,nl,rfl⟩
    unfold Builtin.«set.__init__» noKeywords Builtin.Frozenset.updateFrom
    generalize hPI:pyIter=PI
    wp_walk
    subst hPI
    refine wpAny_pyIter_list hl1 ?_
    refine wpAny_bind (wpAny_runValue ?_)
    have lS:l<s.heap.objs.size:=Heap.lt_size hol
    have hh3:A.in1.in1.in1.handled=none:=by simp[hh]
    have yR:l≠(s.heap.push (dN w)).objs.size:=by rw[Heap.size_push];exact Nat.ne_of_lt (Nat.lt_succ_of_lt lS)
    have nf:s.heap.objs.size ∉ [(s.heap.push (dN w)).objs.size,l]:=by
     rw[Heap.size_push]
     simp only[List.mem_cons,List.not_mem_nil,or_false,not_or]
     exact⟨Nat.ne_of_lt (Nat.lt_succ_self _),Nat.ne_of_gt lS⟩
    have Nb:xs.length=its.size:=by rw[←hi.length,Array.length_toList]
    have hval:∀(i:Nat) (v:Value),its[i]? =some v→∃x t,xs[i]? =some x∧v=.str x t:=fun i v hv=>oO hi i v (by rw[Array.getElem?_toList];exact hv)
    refine DS ((Walks.list hh3 _ l yR its).toS) nf xs Nb hval hb (its.size-0) 0 _ #[] 0 _ [] (by omega) (Nat.zero_le _) ⟨⟨_,Heap.get?_push_size _ rfl,rfl,rfl⟩,hl1.push _⟩ ((Bz s.heap).at fun o q=>Heap.get?_push_of_some _ q) (fun y=>by simp) (Nat.le_refl _) ?hR
    case hR=>
     intro s' es' ep' t' ks' hm hS' hmem hlen
     obtain⟨h',g',d',tk',os'⟩:=s'
     have eg:g'=s.gens:=hm.gens
     have ed:d'=s.drawn:=hm.drawn
     have eo:os'=s.os:=hm.os
     subst eg ed eo
     show wpAny _ _ _ _ _ _
     refine wpAny_pure ?_
     show wpAny _ _ (ret Value.none) _ _ _
     refine wpAny_pure ⟨rfl,h',tk',es',ep',t',ks',rfl,hS',hmem,hlen,fun b o hb e=>?_⟩
     refine hm.heap b o ?_ (Heap.get?_push_of_some _ (Heap.get?_push_of_some _ e))
     simp only[List.mem_cons,List.not_mem_nil,or_false,not_or]
     rw[Heap.size_push]
     exact⟨Nat.ne_of_lt hb,Nat.ne_of_lt (Nat.lt_succ_of_lt hb)⟩
   ·cases r₂ with
    | error e=>exact hr₂
    | ok fl₂=>
     cases fl₂ with
     | ret r=>
      obtain⟨rfl,h',tk,es,ep,t,ks,rfl,hS',hm,M6,hk'⟩:=hr₂
      repeat (any_goals (first | assumption | wp_step))
      exact h _ _ _ _ _ _ hS' hm M6 hk'
     | _=>exact hr₂.elim
  | _=>exact hr.elim
end
namespace SI
theorem BA:Manifest.owners.lookup (String.ofList ['r', 'o', 't', 'a', 'r', 'e', 't', 'i', '_', 't', 'e', 's'].reverse)=some Manifest.sig_set_iterator:=by kernel_rfl
theorem slot_next:Slot "set_iterator" "__next__" "set_iterator.__next__":=
 .of (owner:="set_iterator") (n:="__next__") (by rw[typeLookup_type,builtinLookup_eq_fast];kernel_rfl) (by decide+kernel) (by decide+kernel) (by decide+kernel)
  (by first | exact .inl (by decide+kernel) | exact .inr (by decide+kernel)) (by rw[isSubtype_type];kernel_rfl)
theorem t9:Slot "set_iterator" "__iter__" "set_iterator.__iter__":=
 .of (owner:="set_iterator") (n:="__iter__") (by rw[typeLookup_type,builtinLookup_eq_fast];kernel_rfl) (by decide+kernel) (by decide+kernel) (by decide+kernel)
  (by first | exact .inl (by decide+kernel) | exact .inr (by decide+kernel)) (by rw[isSubtype_type];kernel_rfl)
theorem entry_next:entryFor table "set_iterator.__next__"=some Builtin.«set_iterator.__next__» :=entryFor_of_tree (by kernel_rfl)
theorem zW:entryFor table "set_iterator.__iter__"=some Builtin.«dict_keyiterator.__iter__» :=
 entryFor_alias (id':="dict_keyiterator.__iter__") (by kernel_rfl) (by first | rfl | decide+kernel | (unfold String.splitOn;simp+decide [String.splitOnAux])) (by decide+kernel) (by kernel_rfl)
theorem args_next (v:Value):argsOk "set_iterator.__next__" ⟨[v],[]⟩:=by
 unfold argsOk;rw[signature?_of (id:="set_iterator.__next__") (n:=['_', '_', 't', 'x', 'e', 'n', '_', '_']) (o:=['r', 'o', 't', 'a', 'r', 'e', 't', 'i', '_', 't', 'e', 's']) (by kernel_rfl) BA];kernel_rfl
theorem BB (v:Value):argsOk "set_iterator.__iter__" ⟨[v],[]⟩:=by
 unfold argsOk;rw[signature?_of (id:="set_iterator.__iter__") (n:=['_', '_', 'r', 'e', 't', 'i', '_', '_']) (o:=['r', 'o', 't', 'a', 'r', 'e', 't', 'i', '_', 't', 'e', 's']) (by kernel_rfl) BA];kernel_rfl
theorem rQ:entryFor table "set.__iter__"=some Builtin.«frozenset.__iter__» :=
 entryFor_alias (id':="frozenset.__iter__") (by kernel_rfl) (by first | rfl | decide+kernel | (unfold String.splitOn;simp+decide [String.splitOnAux])) (by decide+kernel) (by kernel_rfl)
end SI
abbrev jJ (h:Heap) (I:Addr) (F:Array Value):Prop:=h.get? I=some {cls:=.type "set_iterator",dict:=none,data:=.fields F,slots:= #[]}
section
variable {P:Program} {w:World} {A:Around} {E:Value→Shared→Prop} {s:Shared}
theorem rR {I:Addr} {F:Array Value} {Q:Value→Shared→Prop} (hI:jJ s.heap I F) (h:Q (.ref I) s):wpAny (model P w) A (pyIter (.ref I)) Q E s:=by
 have hT:s.TypeIs (.ref I) "set_iterator":=⟨_,hI,rfl⟩
 refine wpAny_pyIter_slot hT SI.t9 (wpAny_call_entry SI.t9 hT SI.zW ?_ (SI.BB _))
 show wpAny (model P w) _ (ret (.ref I)) _ _ s
 exact wpAny_pure ⟨_,rfl,"set_iterator",_,hT,SI.slot_next.lookup,h⟩
theorem yS {I a:Addr} {sl i ep':Nat} {es:Array (Int×Value)} {ep:Nat} {t:SetTable} {ks:List Str} {v:Value} {nx:Nat} {Q:Option Value→Shared→Prop} (hI:jJ s.heap I #[rawInt sl,rawInt i,.ref a,rawInt es.size,rawInt ep'])
  (S:cq P w s.heap a es ep t ks) (hn:∀(B:Around) (E':Value→Shared→Prop) (Q':Option (Value×Nat)→Shared→Prop),Q' (some (v,nx)) s→wpAny (model P w) B (setNext a sl i ep') Q' E' s)
  (h:∀h',jJ h' I #[rawInt nx,rawInt (i+1:Nat),.ref a,rawInt es.size,rawInt ep']→Heap.SameBut I s.heap h'→Q (some v) {s with heap:=h'}):wpAny (model P w) A (pyNext (.ref I)) Q E s:=by
 have hT:s.TypeIs (.ref I) "set_iterator":=⟨_,hI,rfl⟩
 obtain⟨o,ho,hex,hd⟩:=S.obj
 unfold pyNext
 refine wpAny_bind (wpAny_attempt (wpAny_callSpecial?_slot (name:=Str.ofString "__next__") hT SI.slot_next (wpAny_call_entry SI.slot_next hT SI.entry_next ?_ (SI.args_next _))))
 refine wpAny_bind (wpAny_pure ?_)
 refine wpAny_bind (wpAny_fieldsOf hI rfl ?_)
 refine wpAny_bind (wpAny_setEntries_of ho hd S.fits ?_)
 rw[if_neg (by simp[rawInt])]
 dsimp only[rawInt]
 rw[Int.toNat_natCast,Int.toNat_natCast,Int.toNat_natCast]
 refine wpAny_bind (hn _ _ _ ?_)
 dsimp only
 refine wpAny_bind (wpAny_setField_rec hI (by simp) fun h1 e1 b1=>?_)
 refine wpAny_bind (wpAny_setField_rec e1 (by simp) fun h2 e2 b2=>?_)
 refine wpAny_pure ⟨v,rfl,wpAny_pure (h h2 ?_ (b1.trans b2))⟩
 simpa[rawInt] using e2
theorem yT {I:Addr} {F:Array Value} {k0:Option Nat} {Q:Option Value→Shared→Prop} (hh:A.handled=none) (hI:jJ s.heap I F) (hk:2<F.size) (h:∀h',Heap.ExtBut I s.heap h'→Q none {s with heap:=h'}):
  wpAny (model P w) A.in1 (do setField (.ref I) 2 .none;raiseNew (←newExc (.type "StopIteration") []))
   (fun fin s'=>∃v,fin=Fin.done (Flow.ret v)∧wpAny (model P w) A (pure (some v)) Q E s')
   (fun e s'=>wpAny (model P w) A (do if ←isInstance e (.type "StopIteration") then pure none else throw e) Q E s') s:=by
 refine wpAny_bind (wpAny_setField_rec hI hk fun h1 e1 b1=>?_)
 refine wpAny_bind ?_
 simp only[newExc,newTuple]
 refine wpAny_bind (wpAny_newObj_type ?_ (by size_fits))
 refine wpAny_bind (m:=firstArgMember _ _) (wpAny_of_eq (a:=Value.none) (by first | rfl | (simp only[firstArgMember];rfl)) ?_)
 refine wpAny_newObj_type ?_ (by size_fits)
 simp only[raiseNew]
 refine wpAny_bind (wpAny_handled ?_)
 rw[show A.in1.handled=none from hh]
 refine wpAny_bind (wpAny_pure (wpAny_throw ?_))
 refine wpAny_bind (wpAny_isInstance (T:="StopIteration") (b:=true) ⟨_,Heap.get?_push_size _ rfl,rfl⟩ isSubtype_stop ?_)
 exact wpAny_pure (h _ ((b1.extBut.push _).push _))
theorem BD {I a:Addr} {sl i ep':Nat} {es:Array (Int×Value)} {ep:Nat} {t:SetTable} {ks:List Str} {Q:Option Value→Shared→Prop} (hh:A.handled=none) (hI:jJ s.heap I #[rawInt sl,rawInt i,.ref a,rawInt es.size,rawInt ep'])
  (S:cq P w s.heap a es ep t ks) (hn:∀(B:Around) (E':Value→Shared→Prop) (Q':Option (Value×Nat)→Shared→Prop),Q' none s→wpAny (model P w) B (setNext a sl i ep') Q' E' s)
  (h:∀h',Heap.ExtBut I s.heap h'→Q none {s with heap:=h'}):wpAny (model P w) A (pyNext (.ref I)) Q E s:=by
 have hT:s.TypeIs (.ref I) "set_iterator":=⟨_,hI,rfl⟩
 obtain⟨o,ho,hex,hd⟩:=S.obj
 unfold pyNext
 refine wpAny_bind (wpAny_attempt (wpAny_callSpecial?_slot (name:=Str.ofString "__next__") hT SI.slot_next (wpAny_call_entry SI.slot_next hT SI.entry_next ?_ (SI.args_next _))))
 refine wpAny_bind (wpAny_pure ?_)
 refine wpAny_bind (wpAny_fieldsOf hI rfl ?_)
 refine wpAny_bind (wpAny_setEntries_of ho hd S.fits ?_)
 rw[if_neg (by simp[rawInt])]
 dsimp only[rawInt]
 rw[Int.toNat_natCast,Int.toNat_natCast,Int.toNat_natCast]
 refine wpAny_bind (hn _ _ _ ?_)
 dsimp only
 exact yT (k0:=none) hh hI (by simp) h
theorem ua {T:Addr} {xs:Array Value} {B:Around} {E':Value→Shared→Prop} {Q':Option (Array Value)→Shared→Prop} (hT:s.heap.get? T=some {cls:=.type "tuple",data:=.seq xs}) (h:Q' (some xs) s):wpAny (model P w) B (seqItems? (.ref T)) Q' E' s:=by
 unfold seqItems?
 dsimp only
 refine wpAny_bind (wpAny_load hT ?_)
 exact wpAny_pure h
theorem GF {I a T:Addr} {i p:Nat} {es:Array (Int×Value)} {ep:Nat} {t:SetTable} {ks:List Str} {hv:Int} {v:Value} {ord:List Nat} {Q:Option Value→Shared→Prop} (hI:jJ s.heap I #[.ref T,rawInt i,.ref a,rawInt es.size,rawInt ep])
  (hT':s.heap.get? T=some {cls:=.type "tuple",data:=.seq (ord.map fun(i:Nat)=>rawInt i).toArray}) (S:cq P w s.heap a es ep t ks) (hp:ord[i]? =some p) (he:es[p]? =some (hv,v))
  (h:∀h',jJ h' I #[.ref T,rawInt (i+1:Nat),.ref a,rawInt es.size,rawInt ep]→Heap.SameBut I s.heap h'→Q (some v) {s with heap:=h'}):wpAny (model P w) A (pyNext (.ref I)) Q E s:=by
 have hT:s.TypeIs (.ref I) "set_iterator":=⟨_,hI,rfl⟩
 obtain⟨o,ho,hex,hd⟩:=S.obj
 unfold pyNext
 refine wpAny_bind (wpAny_attempt (wpAny_callSpecial?_slot (name:=Str.ofString "__next__") hT SI.slot_next (wpAny_call_entry SI.slot_next hT SI.entry_next ?_ (SI.args_next _))))
 refine wpAny_bind (wpAny_pure ?_)
 refine wpAny_bind (wpAny_fieldsOf hI rfl ?_)
 refine wpAny_bind (wpAny_setEntries_of ho hd S.fits ?_)
 rw[if_neg (by simp[rawInt])]
 dsimp only[rawInt]
 refine wpAny_bind (ua hT' ?_)
 dsimp only
 have e1:(ord.map fun(i:Nat)=>rawInt i).toArray[((i:Nat):Int).toNat]? =some (rawInt p):=by
  rw[Int.toNat_natCast,List.getElem?_toArray,List.getElem?_map,hp];rfl
 rw[e1]
 dsimp only[rawInt]
 refine wpAny_bind ?_
 unfold setNextDrawn
 refine wpAny_bind (wpAny_setState_of ho hd S.fits ?_)
 dsimp only
 rw[Int.toNat_natCast,Int.toNat_natCast,if_neg (by simp),he]
 refine wpAny_pure ?_
 refine wpAny_bind (wpAny_setField_rec hI (by simp) fun h1 e1 b1=>?_)
 refine wpAny_pure ⟨v,rfl,wpAny_pure (h h1 ?_ b1)⟩
 simpa[rawInt] using e1
theorem Im {I a T:Addr} {i:Nat} {es:Array (Int×Value)} {ep:Nat} {t:SetTable} {ks:List Str} {ord:List Nat} {Q:Option Value→Shared→Prop} (hh:A.handled=none) (hI:jJ s.heap I #[.ref T,rawInt i,.ref a,rawInt es.size,rawInt ep])
  (hT':s.heap.get? T=some {cls:=.type "tuple",data:=.seq (ord.map fun(i:Nat)=>rawInt i).toArray}) (S:cq P w s.heap a es ep t ks) (hp:ord[i]? =none)
  (h:∀h',Heap.ExtBut I s.heap h'→Q none {s with heap:=h'}):wpAny (model P w) A (pyNext (.ref I)) Q E s:=by
 have hT:s.TypeIs (.ref I) "set_iterator":=⟨_,hI,rfl⟩
 obtain⟨o,ho,hex,hd⟩:=S.obj
 unfold pyNext
 refine wpAny_bind (wpAny_attempt (wpAny_callSpecial?_slot (name:=Str.ofString "__next__") hT SI.slot_next (wpAny_call_entry SI.slot_next hT SI.entry_next ?_ (SI.args_next _))))
 refine wpAny_bind (wpAny_pure ?_)
 refine wpAny_bind (wpAny_fieldsOf hI rfl ?_)
 refine wpAny_bind (wpAny_setEntries_of ho hd S.fits ?_)
 rw[if_neg (by simp[rawInt])]
 dsimp only[rawInt]
 refine wpAny_bind (ua hT' ?_)
 dsimp only
 have e1:(ord.map fun(i:Nat)=>rawInt i).toArray[((i:Nat):Int).toNat]? =none:=by
  rw[Int.toNat_natCast,List.getElem?_toArray,List.getElem?_map,hp];rfl
 rw[e1]
 dsimp only
 refine wpAny_bind (wpAny_setField_rec hI (by simp) fun h1 e1 b1=>?_)
 exact yT (s:={s with heap:=h1}) (k0:=none) hh e1 (by simp) fun h2 x=>h h2 (fun c o hc q=>x c o hc (b1.extBut c o hc q))
theorem oP {a:Addr} {Q:Bool→Shared→Prop} (h:Q (w.params.followText "set-order") s):wpAny (model P w) A setsByText Q E s:=by
 unfold setsByText
 exact wpAny_bind (wpAny_askSetting (wpAny_pure h))
theorem ub {a:Addr} {es:Array (Int×Value)} {ep:Nat} {t:SetTable} {ks:List Str} {sl i:Nat} {Q:Option (Value×Nat)→Shared→Prop} (S:cq P w s.heap a es ep t ks) (hb:w.params.followText "set-order"=true)
  (h:Q (((pickOrder (w.params.setOrder a ep) es)[i]?).map fun e=>(e.2,sl)) s):wpAny (model P w) A (setNext a sl i ep) Q E s:=by
 obtain⟨o,ho,hex,hd⟩:=S.obj
 unfold setNext
 refine wpAny_bind (wpAny_setState_of ho hd S.fits ?_)
 dsimp only
 refine wpAny_bind (oP (a:=a) ?_)
 rw[hb,if_pos rfl,if_neg (by simp)]
 refine wpAny_bind ?_
 unfold setWalk
 refine wpAny_bind (wpAny_setState_of ho hd S.fits ?_)
 dsimp only
 refine wpAny_bind (oP (a:=a) ?_)
 rw[hb,if_pos rfl]
 refine wpAny_bind (wpAny_askSetting (wpAny_pure ?_))
 exact wpAny_pure h
theorem wk {a:Addr} {es:Array (Int×Value)} {ep:Nat} {t:SetTable} {ks:List Str} {sl i:Nat} {Q:Option (Value×Nat)→Shared→Prop} (S:cq P w s.heap a es ep t ks) (hb:w.params.followText "set-order"=false) (h1:es.size≤1)
  (h:Q (match es[SetTable.below t.place sl]?,t.place[SetTable.below t.place sl]? with | some (_,x),some j=>some (x,j+1) | _,_=>none) s):wpAny (model P w) A (setNext a sl i ep) Q E s:=by
 obtain⟨o,ho,hex,hd⟩:=S.obj
 have hl:t.led=true:=by rw[S.led,hb];rfl
 unfold setNext
 refine wpAny_bind (wpAny_setState_of ho hd S.fits ?_)
 dsimp only
 refine wpAny_bind (oP (a:=a) ?_)
 rw[hb,if_neg (by decide)]
 refine wpAny_ite_split (fun hab=>?_) (fun _=>?_)
 ·have hab':(!t.plain&&decide (es.size>1))=true:=hab
  simp at hab'
  omega
 refine wpAny_bind ?_
 show wpAny (model P w) A (if(!t.led&& !es.isEmpty)=true then unsupported _ else pure ()) _ _ s
 rw[hl,if_neg (by simp)]
 exact wpAny_pure (wpAny_pure h)
end
theorem uc {α:Type} (f:Nat→Nat):∀(n k:Nat) (l:List α) (out:Array α),l.length=n→(pickOrder.go f n k l out).toList.Perm (out.toList++l)
 | 0,k,l,out,h=>by
  have:l=[]:=List.length_eq_zero_iff.mp h
  subst this
  unfold pickOrder.go
  rw[List.append_nil]
 | n+1,k,l,out,h=>by
  have lt:f k % l.length<l.length:=Nat.mod_lt _ (by omega)
  unfold pickOrder.go
  rw[List.getElem?_eq_getElem lt]
  dsimp only
  refine(uc f n (k+1) _ _ (by rw[List.length_eraseIdx_of_lt lt];omega)).trans ?_
  rw[Array.toList_push,List.append_assoc]
  refine List.Perm.append_left _ ?_
  have e:l=l.take (f k % l.length)++l[f k % l.length]::l.drop (f k % l.length+1):=by rw[←List.drop_eq_getElem_cons lt,List.take_append_drop]
  rw[List.eraseIdx_eq_take_drop_succ]
  conv=>rhs;rw[e]
  show(l[f k % l.length]::(l.take (f k % l.length)++l.drop (f k % l.length+1))).Perm _
  exact List.perm_middle.symm
section
variable {P:Program} {w:World} {A:Around} {E:Value→Shared→Prop}
theorem ud {α:Type}:∀(n:Nat) (l:List α) (s:Shared) (Q:List α→Shared→Prop),l.length=n→(∀ys d',ys.Perm l→Q ys {s with drawn:=d'})→wpAny (model P w) A (drawOrder n l) Q E s
 | 0,l,s,Q,hl,h=>by
  have:l=[]:=List.length_eq_zero_iff.mp hl
  subst this
  unfold drawOrder
  exact wpAny_pure (h [] s.drawn (.refl _))
 | n+1,[],s,Q,hl,h=>by cases hl
 | n+1,x::l,s,Q,hl,h=>by
  unfold drawOrder
  have go:∀i,i<(x::l).length→wpAny (model P w) A (match (x::l)[i]? with | some y=>do return y::(←drawOrder n ((x::l).eraseIdx i)) | none=>unsupported "internal:drawOrder") Q E {s with drawn:=s.drawn.bump .order}:=fun i hi=>by
   rw[List.getElem?_eq_getElem hi]
   dsimp only
   refine wpAny_bind (ud n _ _ _ (by rw[List.length_eraseIdx_of_lt hi];omega) fun ys d' p=>wpAny_pure ?_)
   refine h _ d' ?_
   have e:(x::l)=(x::l).take i++(x::l)[i]::(x::l).drop (i+1):=by rw[←List.drop_eq_getElem_cons hi,List.take_append_drop]
   refine(p.cons _).trans ?_
   rw[List.eraseIdx_eq_take_drop_succ]
   conv=>rhs;rw[e]
   exact List.perm_middle.symm
  refine wpAny_bind ?_
  exact fun _ _ hΓ=>⟨by simp,go _ (Nat.mod_lt _ (by simp))⟩
end
section
variable {P:Program} {w:World} {A:Around} {E:Value→Shared→Prop} {s:Shared}
abbrev Ff (ks:List Str):Nat→Value→Prop:=fun i v=>∃x tk,ks[i]? =some x∧v=.str x tk
theorem BE {I a:Addr} {es:Array (Int×Value)} {ep:Nat} {t:SetTable} {ks ks':List Str} (hh:A.handled=none) (hne:a≠I) (hb:w.params.followText "set-order"=true)
  (hv:StrsAre ((pickOrder (w.params.setOrder a ep) es).toList.map (·.2)) ks') (hl:ks'.length=es.size):
  Walks P w A I [I,a] [I] es.size (Ff ks') (fun i h=>jJ h I #[rawInt 0,rawInt i,.ref a,rawInt es.size,rawInt ep]∧cq P w h a es ep t ks) where
 sub:=fun b hb=>by simp at hb;simp[hb]
 frame:=fun _ _ _ st hk=>⟨hk I (by simp) _ st.1,st.2.at fun o q=>hk a (by simp) o q⟩
 item:=fun i s Q E hi st hQ=>by
  have hsz:(pickOrder (w.params.setOrder a ep) es).size=es.size:=by rw[←Array.length_toList,←List.length_map (f:=(·.2)),hv.length,hl]
  obtain⟨e,he⟩:∃e,(pickOrder (w.params.setOrder a ep) es)[i]? =some e:=⟨_,Array.getElem?_eq_getElem (by omega)⟩
  refine yS (sl:=0) (v:=e.2) (nx:=0) st.1 st.2 (fun B E' Q' q=>ub st.2 hb (by rw[he];exact q)) fun h' e1 b1=>hQ e.2 h' s.toks ?_ ⟨e1,st.2.at fun o q=>(b1.2 a hne).trans q⟩ fun b o hb q=>(b1.2 b (by simpa using hb)).trans q
  obtain⟨x,tk,ex,ev⟩:=oO hv i e.2 (by rw[List.getElem?_map,Array.getElem?_toList,he];rfl)
  exact⟨x,tk,ex,ev⟩
 done:=fun s Q E st hQ=>by
  have hsz:(pickOrder (w.params.setOrder a ep) es).size=es.size:=by rw[←Array.length_toList,←List.length_map (f:=(·.2)),hv.length,hl]
  have he:(pickOrder (w.params.setOrder a ep) es)[es.size]? =none:=Array.getElem?_eq_none (by omega)
  exact BD (sl:=0) hh st.1 st.2 (fun B E' Q' q=>ub st.2 hb (by rw[he];exact q)) fun h' x=>hQ h' s.toks fun b o hb q=>x b o (by simpa using hb) q
 self:=fun _ _ _ _ st hQ=>rR st.1 hQ
theorem zX {I a T:Addr} {es:Array (Int×Value)} {ep:Nat} {t:SetTable} {ks ks':List Str} {ord:List Nat} (hh:A.handled=none) (hne:a≠I) (hTI:T≠I) (hp:ord.Perm (List.range es.size))
  (hv:StrsAre (ord.map fun p=>(es.getD p (0,.none)).2) ks'):
  Walks P w A I [I,a,T] [I] es.size (Ff ks') (fun i h=>jJ h I #[.ref T,rawInt i,.ref a,rawInt es.size,rawInt ep]∧cq P w h a es ep t ks∧h.get? T=some {cls:=.type "tuple",data:=.seq (ord.map fun(i:Nat)=>rawInt i).toArray}) where
 sub:=fun b hb=>by simp at hb;simp[hb]
 frame:=fun _ _ _ st hk=>⟨hk I (by simp) _ st.1,st.2.1.at fun o q=>hk a (by simp) o q,hk T (by simp) _ st.2.2⟩
 item:=fun i s Q E hi st hQ=>by
  have lo:ord.length=es.size:=by rw[hp.length_eq,List.length_range]
  obtain⟨p,ho⟩:∃p,ord[i]? =some p:=⟨_,List.getElem?_eq_getElem (by omega)⟩
  have hlt:p<es.size:=List.mem_range.mp (hp.mem_iff.mp (List.mem_of_getElem? ho))
  have he:es[p]? =some ((es.getD p (0,.none)).1,(es.getD p (0,.none)).2):=by
   rw[Array.getElem?_eq_getElem hlt,Array.getD_eq_getD_getElem?,Array.getElem?_eq_getElem hlt];rfl
  refine GF st.1 st.2.2 st.2.1 ho he fun h' e1 b1=>hQ _ h' s.toks ?_ ⟨e1,st.2.1.at fun o q=>(b1.2 a hne).trans q,(b1.2 T hTI).trans st.2.2⟩ fun b o hb q=>(b1.2 b (by simpa using hb)).trans q
  obtain⟨x,tk,ex,ev⟩:=oO hv i _ (by rw[List.getElem?_map,ho];rfl)
  exact⟨x,tk,ex,ev⟩
 done:=fun s Q E st hQ=>by
  have lo:ord.length=es.size:=by rw[hp.length_eq,List.length_range]
  exact Im hh st.1 st.2.2 st.2.1 (List.getElem?_eq_none (by omega)) fun h' x=>hQ h' s.toks fun b o hb q=>x b o (by simpa using hb) q
 self:=fun _ _ _ _ st hQ=>rR st.1 hQ
theorem zY (p:Nat):SetTable.below #[p] 0=0:=by
 unfold SetTable.below
 simp[SetTable.below.go]
theorem zZ (p:Nat):SetTable.below #[p] (p+1)=1:=by
 unfold SetTable.below
 simp[SetTable.below.go]
theorem DU {I a:Addr} {es:Array (Int×Value)} {ep:Nat} {t:SetTable} {ks:List Str} (hh:A.handled=none) (hne:a≠I) (hb:w.params.followText "set-order"=false) (h1:es.size≤1) (hf:t.fits es.size=true) (hv:StrsAre (es.toList.map (·.2)) ks):
  Walks P w A I [I,a] [I] es.size (Ff ks) (fun i h=>jJ h I #[rawInt (if i=0 then 0 else t.place.getD 0 0+1:Nat),rawInt i,.ref a,rawInt es.size,rawInt ep]∧cq P w h a es ep t ks) where
 sub:=fun b hb=>by simp at hb;simp[hb]
 frame:=fun _ _ _ st hk=>⟨hk I (by simp) _ st.1,st.2.at fun o q=>hk a (by simp) o q⟩
 item:=fun i s Q E hi st hQ=>by
  have i0:i=0:=by omega
  subst i0
  have sz:es.size=1:=by omega
  have tp:t.place.size=1:=by
   unfold SetTable.fits at hf
   simp only[Bool.and_eq_true,beq_iff_eq] at hf
   omega
  obtain⟨p,hp⟩:∃p,t.place= #[p]:=Array.size_eq_one_iff.mp tp
  obtain⟨e,he⟩:∃e,es[0]? =some e:=⟨_,Array.getElem?_eq_getElem (by omega)⟩
  refine yS (sl:=0) (v:=e.2) (nx:=p+1) st.1 st.2 (fun B E' Q' q=>wk st.2 hb h1 ?_) fun h' e1 b1=>hQ e.2 h' s.toks ?_ ⟨?_,st.2.at fun o q=>(b1.2 a hne).trans q⟩ fun b o hb q=>(b1.2 b (by simpa using hb)).trans q
  ·rw[hp,zY,he]
   exact q
  ·obtain⟨x,tk,ex,ev⟩:=oO hv 0 e.2 (by rw[List.getElem?_map,Array.getElem?_toList,he];rfl)
   exact⟨x,tk,ex,ev⟩
  ·rw[hp]
   exact e1
 done:=fun s Q E st hQ=>by
  refine BD hh st.1 st.2 (fun B E' Q' q=>wk st.2 hb h1 ?_) fun h' x=>hQ h' s.toks fun b o hb q=>x b o (by simpa using hb) q
  by_cases z:es.size=0
  ·have ez:es= #[]:=Array.size_eq_zero_iff.mp z
   rw[ez]
   simpa using q
  ·have sz:es.size=1:=by omega
   have tp:t.place.size=1:=by
    unfold SetTable.fits at hf
    simp only[Bool.and_eq_true,beq_iff_eq] at hf
    omega
   obtain⟨p,hp⟩:∃p,t.place= #[p]:=Array.size_eq_one_iff.mp tp
   rw[if_neg z,hp]
   show Q' (match es[SetTable.below #[p] (p+1)]?,(#[p]:Array Nat)[SetTable.below #[p] (p+1)]? with | some (_,x),some j=>some (x,j+1) | _,_=>none) _
   rw[zZ,Array.getElem?_eq_none (by omega)]
   exact q
 self:=fun _ _ _ _ st hQ=>rR st.1 hQ
theorem z_ {a:Addr} {es:Array (Int×Value)} {ep:Nat} {t:SetTable} {ks:List Str} {Q:Value→Shared→Prop} (S:cq P w s.heap a es ep t ks)
  (h:∀(I:Addr) (h1:Heap) (d1:Drawn) (fx:List Addr) (ks':List Str) (St:Nat→Heap→Prop),ks'.Perm ks→s.heap.objs.size≤I→I<h1.objs.size→(∀b∈fx,s.heap.objs.size≤b∧b<h1.objs.size)→(∀b o,s.heap.get? b=some o→h1.get? b=some o)→St 0 h1→
   (∀B:Around,B.handled=none→Walks P w B I (I::a::fx) [I] es.size (Ff ks') St)→Q (.ref I) {s with heap:=h1,drawn:=d1}):
  wpAny (model P w) A (pyIter (.ref a)) Q E s:=by
 obtain⟨o,ho,hex,hd⟩:=S.obj
 have hT:s.TypeIs (.ref a) "set":=⟨o,ho,hex.1⟩
 have la:a<s.heap.objs.size:=Heap.lt_size ho
 have hsz:=S.len
 refine wpAny_pyIter_slot hT PySem.F.slot_set_iter (wpAny_call_entry PySem.F.slot_set_iter hT SI.rQ ?_ (PySem.F.args_set_iter_1 _))
 unfold Builtin.«frozenset.__iter__» Builtin.Frozenset.slot0 slotArgs
 simp only[List.isEmpty_nil,Bool.not_true,Bool.false_eq_true, ↓reduceIte,bind_assoc,List.length_nil,bne_self_eq_false]
 unfold Builtin.Frozenset.addrOf Builtin.Frozenset.sizeOf
 refine wpAny_bind (wpAny_pure ?_)
 try dsimp only
 refine wpAny_bind (wpAny_pure ?_)
 refine wpAny_bind (wpAny_bind (wpAny_setEntries_of ho hd S.fits (wpAny_pure ?_)))
 unfold setDrawn
 refine wpAny_bind (wpAny_bind (wpAny_setState_of ho hd S.fits ?_))
 dsimp only
 refine wpAny_bind (oP (a:=a) (wpAny_pure ?_))
 refine wpAny_ite_split (fun hab=>?_) (fun hab=>?_)
 ·have hab':(!w.params.followText "set-order"&&(!t.plain&&decide (es.size>1)))=true:=hab
  refine wpAny_bind (ud _ _ _ _ (List.length_range) fun ys d' p=>?_)
  have ly:ys.length=es.size:=by rw[p.length_eq,List.length_range]
  refine wpAny_bind (wpAny_newTuple ?_ (by rw[List.length_map,ly];exact fits_of_scanBound S.small))
  have hoT:(s.heap.push {cls:=.type "tuple",data:=.seq (ys.map fun(i:Nat)=>rawInt i).toArray}).get? s.heap.objs.size=some {cls:=.type "tuple",data:=.seq (ys.map fun(i:Nat)=>rawInt i).toArray}:=Heap.get?_push_size _ rfl
  have BF:(s.heap.push {cls:=.type "tuple",data:=.seq (ys.map fun(i:Nat)=>rawInt i).toArray}).objs.size=s.heap.objs.size+1:=Heap.size_push ..
  refine wpAny_bind (wpAny_setEpoch_of (s:={s with heap:=s.heap.push {cls:=.type "tuple",data:=.seq (ys.map fun(i:Nat)=>rawInt i).toArray},drawn:=d'}) (Heap.get?_push_of_some _ ho) hd S.fits ?_)
  have SS:cq P w (s.heap.push {cls:=.type "tuple",data:=.seq (ys.map fun(i:Nat)=>rawInt i).toArray}) a es ep t ks:=S.at fun o q=>Heap.get?_push_of_some _ q
  have old:∀b o,s.heap.get? b=some o→(s.heap.push {cls:=.type "tuple",data:=.seq (ys.map fun(i:Nat)=>rawInt i).toArray}).get? b=some o:=fun b o q=>Heap.get?_push_of_some _ q
  generalize s.heap.push {cls:=.type "tuple",data:=.seq (ys.map fun(i:Nat)=>rawInt i).toArray}=h1 at hoT BF SS old ⊢
  refine wpAny_bind (wpAny_newObj_type (wpAny_pure ⟨_,rfl,"set_iterator",_,⟨_,Heap.get?_push_size _ rfl,rfl⟩,SI.slot_next.lookup,?_⟩))
  have ent:((List.range es.size).map fun p=>(es.getD p (0,.none)).2)=es.toList.map (·.2):=by
   apply List.ext_getElem?
   intro i
   rw[List.getElem?_map,List.getElem?_map,show es.toList[i]? =es[i]? from Array.getElem?_toList]
   by_cases hi:i<es.size
   ·rw[List.getElem?_range hi,Array.getElem?_eq_getElem hi]
    show some (es.getD i (0,.none)).2=some es[i].2
    rw[Array.getD_eq_getD_getElem?,Array.getElem?_eq_getElem hi];rfl
   ·rw[List.getElem?_eq_none (by rw[List.length_range];omega),Array.getElem?_eq_none (by omega)];rfl
  obtain⟨ks',v',p'⟩:=j5 (p.map fun p=>(es.getD p (0,.none)).2) (ks:=ks) (by rw[ent];exact S.vals)
  refine h h1.objs.size (h1.push _) d' [s.heap.objs.size] ks' _ p' (by rw[BF];exact Nat.le_succ _) (by rw[Heap.size_push];exact Nat.lt_succ_self _) (fun b hb=>?_) (fun b o q=>Heap.get?_push_of_some _ (old b o q)) ?_ (fun B hB=>zX (ep:=ep) (t:=t) (ks:=ks) hB ?_ ?_ p v')
  ·rw[List.mem_singleton.mp hb,Heap.size_push,BF]
   exact⟨Nat.le_refl _,Nat.lt_succ_of_lt (Nat.lt_succ_self _)⟩
  ·exact⟨Heap.get?_push_size _ rfl,SS.at fun o q=>Heap.get?_push_of_some _ q,Heap.get?_push_of_some _ hoT⟩
  ·rw[BF];exact Nat.ne_of_lt (Nat.lt_succ_of_lt la)
  ·rw[BF];exact Nat.ne_of_lt (Nat.lt_succ_self _)
 ·have hab':¬(!w.params.followText "set-order"&&(!t.plain&&decide (es.size>1)))=true:=hab
  refine wpAny_bind (wpAny_pure ?_)
  refine wpAny_bind (wpAny_setEpoch_of ho hd S.fits ?_)
  refine wpAny_bind (wpAny_newObj_type (wpAny_pure ⟨_,rfl,"set_iterator",_,⟨_,Heap.get?_push_size _ rfl,rfl⟩,SI.slot_next.lookup,?_⟩))
  have yR:a≠s.heap.objs.size:=Nat.ne_of_lt la
  cases hb:w.params.followText "set-order" with
  | true=>
   obtain⟨ks',v',p'⟩:=j5 ((uc (w.params.setOrder a ep) es.size 0 es.toList #[] (by simp)).map (·.2)) (ks:=ks) (by simpa using S.vals)
   exact h s.heap.objs.size (s.heap.push _) s.drawn [] ks' _ p' (Nat.le_refl _) (by rw[Heap.size_push];exact Nat.lt_succ_self _) (fun b hb=>by simp at hb) (fun b o q=>Heap.get?_push_of_some _ q) ⟨Heap.get?_push_size _ rfl,S.at fun o q=>Heap.get?_push_of_some _ q⟩
    (fun B hB=>BE (ep:=ep) (t:=t) (ks:=ks) hB yR hb v' (by rw[p'.length_eq,hsz]))
  | false=>
   have few:es.size≤1:=by
    rw[hb] at hab'
    by_cases z:es.size≤1
    ·exact z
    ·exfalso
     refine hab' ?_
     rw[S.plain (by omega),decide_eq_true (show es.size>1 by omega)]
     rfl
   exact h s.heap.objs.size (s.heap.push _) s.drawn [] ks _ (.refl _) (Nat.le_refl _) (by rw[Heap.size_push];exact Nat.lt_succ_self _) (fun b hb=>by simp at hb) (fun b o q=>Heap.get?_push_of_some _ q) ⟨Heap.get?_push_size _ rfl,S.at fun o q=>Heap.get?_push_of_some _ q⟩
    (fun B hB=>DU (ep:=ep) (t:=t) (ks:=ks) hB yR hb few S.fits S.vals)
theorem DV {r:Addr} {Q:Bool→Shared→Prop} (hT:s.TypeIs (.ref r) "set") (h:Q false s):wpAny (model P w) A (Builtin.List.listLengthHint (.ref r)) Q E s:=by
 unfold Builtin.List.listLengthHint
 refine wpAny_bind (wpAny_specialOf hT PySem.F.slot_set_len.lookup ?_)
 generalize hid:("set.__len__":String)=id0
 wp_delta
 rw[show splitId id0=some ("set","__len__") from by subst hid;decide+kernel]
 subst hid
 refine wpAny_bind (wpAny_isInstance (T:="set") (b:=true) hT (by rw[isSubtype_type];kernel_rfl) ?_)
 refine wpAny_ite_split (fun hab=>absurd hab (by decide)) (fun _=>?_)
 refine wpAny_ite_split (fun _=>?_) (fun hab=>absurd (by decide+kernel) hab)
 exact wpAny_bind (wpAny_typeOf hT (wpAny_pure h))
theorem ym {a:Addr} {es:Array (Int×Value)} {ep:Nat} {t:SetTable} {ks:List Str} {Q:List Value→Shared→Prop} (S:cq P w s.heap a es ep t ks) (hh:A.handled=none)
  (h:∀(h':Heap) (tk:Nat) (d':Drawn) (acc:List Value) (ks':List Str),(∀b o,s.heap.get? b=some o→h'.get? b=some o)→StrsAre acc ks'→ks'.Perm ks→Q acc {s with heap:=h',toks:=tk,drawn:=d'}):
  wpAny (model P w) A (collect (.ref a)) Q E s:=by
 obtain⟨o,ho,hex,hd⟩:=S.obj
 have la:a<s.heap.objs.size:=Heap.lt_size ho
 have hsz:=S.len
 unfold collect
 refine wpAny_bind (wpAny_runValue (codeAny_builtin entry_proto_collect' ?_))
 rw[Around.under_plainId PySem.F.plain_proto_collect]
 show wpAny (model P w) A.in1 (newList [] >>= fun l=>again (.builtin "list.__iadd__" ⟨[l,.ref a],[]⟩)) _ _ s
 refine wpAny_bind (wpAny_newObj_type ?_)
 refine wpAny_pure ⟨plainId_quiet PySem.F.plain_list_iadd _,codeAny_builtin entry_list_iadd' ?_⟩
 rw[Around.under_plainId PySem.F.plain_list_iadd]
 have g1:(s.heap.push {cls:=.type "list",data:=.seq ([]:List Value).toArray}).get? s.heap.objs.size=some {cls:=.type "list",data:=.seq #[]}:=Heap.get?_push_size _ rfl
 have z1:(s.heap.push {cls:=.type "list",data:=.seq ([]:List Value).toArray}).objs.size=s.heap.objs.size+1:=Heap.size_push ..
 have k1:∀b o,s.heap.get? b=some o→(s.heap.push {cls:=.type "list",data:=.seq ([]:List Value).toArray}).get? b=some o:=fun b o q=>Heap.get?_push_of_some _ q
 show wpAny (model P w) A.in1 (Builtin.List.listExtendWith (.ref s.heap.objs.size) (.ref a) (.ref s.heap.objs.size)) _ _ _
 generalize s.heap.push {cls:=.type "list",data:=.seq ([]:List Value).toArray}=h1 at g1 z1 k1 ⊢
 have S1:cq P w h1 a es ep t ks:=S.at fun o q=>k1 a o q
 have T1:Shared.TypeIs {s with heap:=h1} (.ref a) "set":=⟨o,k1 a o ho,hex.1⟩
 unfold Builtin.List.listExtendWith
 refine wpAny_bind (wpAny_typeOf T1 ?_)
 have n1:Builtin.List.listSameRef (.ref s.heap.objs.size) (.ref a)=false:=by simp[Builtin.List.listSameRef];exact Nat.ne_of_gt la
 rw[if_neg (by rw[n1];decide)]
 refine wpAny_bind (z_ (s:={s with heap:=h1}) S1 fun I h2 d2 fx ks' St pk Nc ltI Tg k2 st W=>?_)
 refine wpAny_bind (wpAny_holding (DV ⟨o,k2 a o (k1 a o ho),hex.1⟩ ?_))
 refine wpAny_ite_split (fun _=>?_) (fun hab=>absurd (by decide+kernel) hab)
 have lS:s.heap.objs.size<h1.objs.size:=by rw[z1];exact Nat.lt_succ_self _
 have nf:s.heap.objs.size ∉ I::a::fx:=fun m=>by
  rcases List.mem_cons.mp m with q | m
  ·exact absurd Nc (by rw[←q];exact Nat.not_le.mpr lS)
  ·rcases List.mem_cons.mp m with q | m
   ·exact absurd la (by rw[←q];exact Nat.lt_irrefl _)
   ·exact absurd (Tg _ m).1 (Nat.not_le.mpr lS)
 refine wpAny_bind (wpAny_rule (wpAny_bind ?_))
 have g2:=k2 _ _ g1
 show wpAny (model P w) A.in1 (updateSeq s.heap.objs.size (·.push .none) >>= fun _=>updateSeq s.heap.objs.size (·.pop)) _ _ _
 refine wpAny_bind (wpAny_updateSeq g2 rfl ?_)
 have g3:=Heap.get?_update_self (Obj.mapSeq (·.push Value.none)) g2 rfl
 refine wpAny_updateSeq (hz:=by seq_fits) g3 rfl ?_
 have g4:=Heap.get?_update_self (Obj.mapSeq (·.pop)) g3 rfl
 have k4:∀b o,b≠s.heap.objs.size→h2.get? b=some o→((h2.update s.heap.objs.size (Obj.mapSeq (·.push Value.none))).update s.heap.objs.size (Obj.mapSeq (·.pop))).get? b=some o:=fun b o nb q=>
  (Heap.get?_update_other _ _ (Ne.symm nb)).trans ((Heap.get?_update_other _ _ (Ne.symm nb)).trans q)
 have E9:=(W A.in1 hh).frame 0 _ _ st fun b hb o q=>k4 b o (fun z=>nf (z▸hb)) q
 refine wpAny_pure ⟨plainId_quiet PySem.F.plain_extend_loop _,codeAny_extend_loopS (W A.in1 hh).toS (fits_of_scanBound S.small) s.heap.objs.size nf _ es.size 0 _ #[] _ rfl (Nat.zero_le _) E9 g4 (ItemsOf.nil _) fun s' acc' c' hm hS' hacc=>?_⟩
 show wpAny (model P w) A (load s.heap.objs.size >>= _) _ _ s'
 refine wpAny_bind (wpAny_load hS' ?_)
 refine wpAny_pure ?_
 rw[Moved.eq_with hm]
 refine h s'.heap s'.toks d2 acc'.toList ks' (fun b o q=>hm.heap b o (fun m=>?_) (k4 b o (Nat.ne_of_lt (Heap.lt_size q)) (k2 b o (k1 b o q)))) ?_ pk
 ·have lb:=Heap.lt_size q
  rcases List.mem_cons.mp m with z | m
  ·exact absurd lb (by rw[z];exact Nat.lt_irrefl _)
  ·have z:=List.mem_singleton.mp m
   exact absurd (Nat.lt_trans lb lS) (by rw[z];exact Nat.not_lt.mpr Nc)
 ·have ll:acc'.toList.length=ks'.length:=by rw[Array.length_toList,hacc.1,hsz,pk.length_eq]
  refine qA ll fun i v x e1 e2=>?_
  obtain⟨y,tk,ey,ev⟩:=hacc.2 i v (by rw[←Array.getElem?_toList];exact e1)
  rw[e2] at ey
  cases ey
  exact⟨tk,ev⟩
end
def wm (P:Program) (w:World) (a:Addr) (ks:List Str):HO:=.ext fun h=>∃es ep t ks',cq P w h a es ep t ks'∧ks'.Perm ks
section
variable {X:Cx}
def OY (X:Cx):List V→Hp→VK→Prop:=fun xs H Q=>∃(l:Addr) (ss:List Str),xs=[.ref l]∧bp X.K H l (ss.map V.str)∧ss.length+1<scanBound∧
 ∀(p:Addr) (ks:List Str),H p=none→ks.Nodup→(∀y,y∈ks↔y∈ss)→ks.length≤ss.length→Q (.ref p) (upd H p (wm X.prog X.w p ks))
theorem BG (hc:X.calm=true):dm X (.type "set") (OY X):=by
 intro pins s σ H xs us Q I r h
 obtain⟨l,ss,rfl,hq,hb,q⟩:=h
 obtain⟨u,rfl,ru⟩:=vals1 r
 cases ru
 obtain⟨its,rv,p,_⟩:=I.list hq
 have hl:=rv.length
 rw[List.length_map] at hl
 refine wj (I.ok.hd hc) p.isList (lZ rv) (by simp;omega) fun h' tk es ep t ks S hm hlen kp=>?_
 have k':∀b o,s.heap.get? b=some o→h'.get? b=some o:=fun b o e=>kp b o (Heap.lt_size e) e
 have hp:s.heap.objs.size≤s.heap.objs.size:=Nat.le_refl _
 have I2:=I.laid (a:=s.heap.objs.size) (o:=wm X.prog X.w s.heap.objs.size ks) (t':=tk) k' hp ⟨⟨es,ep,t,ks,S,.refl _⟩,(let ⟨o,e,_⟩:=S.obj;⟨o,e⟩),fun h1 h2 ⟨es1,Ti,t1,t8,S1,p1⟩ k2=>⟨es1,Ti,t1,t8,S1.at k2,p1⟩⟩
 exact⟨.ref s.heap.objs.size,_,I2,rfl,q _ ks (I.hok.fresh hp) S.once hm (by simp at hlen;omega)⟩
def DW (X:Cx):List V→Hp→VK→Prop:=fun xs H Q=>∃(a:Addr) (ks:List Str),xs=[.ref a]∧H a=some (wm X.prog X.w a ks)∧ks.length<64∧
 ∀(p:Addr) (ss':List Str),H p=none→ss'.Perm ks→sortedS ss'=true→Q (.ref p) (upd H p (.lst (ss'.map V.str)))
theorem wq (hc:X.calm=true):dm X (.builtin "sorted") (DW X):=by
 intro pins s σ H xs us Q I r h
 obtain⟨a,ks,rfl,ha,h64,q⟩:=h
 obtain⟨u,rfl,ru⟩:=vals1 r
 cases ru
 obtain⟨⟨es,ep,t,WI,S,p0⟩,_,_⟩:=(show bq X.prog X.w H s.heap a (wm X.prog X.w a ks) from I.hok a _ ha)
 refine Calls.call_function_entry kind_sorted plain_sorted entry_sorted (args_sorted1 _) ?_
 unfold Builtin.«sorted»
 (refine wpAny_bind (m:=checkCount "sorted" 1 1 _) (wpAny_pure ?_))
 refine wpAny_bind (ym (A:=X.A.in1) S (I.ok.hd hc) fun h' tk d' acc t8 k hS p1=>?_)
 have hl:acc.length=ks.length:=by rw[hS.length,p1.length_eq,p0.length_eq]
 refine wpAny_bind (wpAny_newList ?_ (by rw[hl];exact Nat.le_of_lt (Nat.lt_of_lt_of_le h64 (by decide))))
 have hoL:(h'.push (seqObj "list" acc.toArray 0)).get? h'.objs.size=some (seqObj "list" acc.toArray 0):=Heap.get?_push_size _ rfl
 refine wpAny_bind (wpAny_holding (wpAny_call_entry slot_list_sort ⟨_,hoL,rfl⟩ entry_list_sort (list_sort_treeK strKind_oneLt hoL hS.keysOf (fun v1 v2 rest e=>keyKind_strs (by rw[←e];exact hS)) (by rw[hl];exact h64) fun st' hp hs=>⟨_,rfl,?_⟩) (args_list_sort _)))
 obtain⟨ss',a1,a2,a3⟩:=sorted_out_str hS hp hs
 have I1:Inv X pins σ H {s with heap:=h',toks:=tk,drawn:=d'}:=I.step (g':=s.gens) (d':=d') (ch:=[]) (fun b z=>by cases z) (fun b o _ _ _ e _=>k b o e) (fun b o _ _ _ e _=>⟨o.slots,k b o e⟩) (fun _ _ _ _ n=>n)
  (fun b o _ e=>⟨o,k b o e⟩) (fun _ _ e=>e) (fun _ _ _ e=>e) (fun b ps e=>⟨#[],by rw[e];simp⟩) (fun m ⟨ob,e1,e2,hb,r⟩=>⟨ob,e1,e2,k _ ob hb,r⟩) (fun b u e=>(I.hok b u e).stay (fun c v _ z=>k c v z) (fun _ z=>z) fun _ _ z=>z) I.bare
 obtain⟨e,he⟩:=sortedHeap_at (out:=(arrOf st').map (·.2)) hoL
 have kp:∀b u,h'.get? b=some u→(sortedHeap (h'.push (seqObj "list" acc.toArray 0)) h'.objs.size acc ((arrOf st').map (·.2))).get? b=some u:=fun b u eb=>by
  have lt:=Heap.lt_size eb
  rw[sortedHeap_old (Nat.ne_of_lt lt) (by rw[Heap.size_push];exact Nat.lt_succ_of_lt lt)]
  exact Heap.get?_push_of_some _ eb
 have I2:=I1.laid (a:=h'.objs.size) (o:=.lst (ss'.map V.str)) (t':=tk) kp (Nat.le_refl _) ⟨by rw[List.length_map,a2.length_eq,p1.length_eq,p0.length_eq];exact Nat.le_of_lt (Nat.lt_of_lt_of_le h64 (by decide)),((arrOf st').map (·.2)).toList,e,ny a1,he⟩
 exact wpAny_pure ⟨_,rfl,⟨.ref h'.objs.size,_,I2,rfl,q _ ss' (I1.hok.fresh (Nat.le_refl _)) ((a2.trans p1).trans p0) a3⟩⟩
end
end L2
namespace L2
open PySem PySem.Spec PyProof.Rows
open PySem.AutoSeq1 (wpAny_loadPart')
theorem qB (l b:Addr) (items items2:Array Value) (n n2:Nat) (dd:Option Addr) (sl:Array (Option Value)) (h0:¬(!items.isEmpty&&Builtin.List.listTooLong (items.size+items2.size))=true) (h1:items.size≤sizeLine) (h2:items.size+items2.size≤sizeLine+1):
  Meets (Builtin.«list.extend» ⟨[.ref l,.ref b],[]⟩) (fun _ R s=>s.heap.get? l=some {cls:=.type "list",dict:=none,data:=.seq items n,slots:= #[]}∧s.heap.get? b=some {cls:=.type "tuple",dict:=dd,data:=.seq items2 n2,slots:=sl}∧
   R (.ok (.ret Value.none)) {s with heap:=s.heap.update l (Obj.mapSeq fun x=>x++items2),toks:=s.toks}):=
 .of_wp fun prog w A R s h=>by
  obtain⟨hp,g,d,tk,os⟩:=s;obtain⟨hl,hb,h⟩:=h
  have f1:=AutoSeq1.idx_int
  have f2:=AutoSeq1.sub_tuple_tuple
  have f3:=AutoSeq1.sub_list_list
  have f4:=AutoSeq1.sub_tuple_list
  have f5:=AutoSeq1.sub_list_tuple
  have hz:(items++items2).size≤sizeLine+1:=by rw[Array.size_append];exact h2
  wp_walk using(wpAny_updateSeq hl rfl (hz:=h1) (_hz':=hz)),wpAny_loadPart' hl,wpAny_loadPart' hb
  exact⟨_,rfl,h⟩
section
variable {X:Cx}
def DX (K:PySem.W.Frag):V→List V→Hp→VK→Prop:=fun x vs H Q=>∃l b xs zs,x=.ref l∧vs=[.ref b]∧H l=some (.lst xs)∧aU K H b zs∧xs.length+zs.length≤sizeLine∧Q .non (upd H l (.lst (xs++zs)))
theorem Aa (K:PySem.W.Frag) (hK:X.K=K:=by rfl):yK X "list.extend" (DX K):=by
 subst hK
 intro pins s σ H x vs v us Q I rx rv h
 obtain⟨l,b,xs,zs,rfl,rfl,hH,hB,hz,q⟩:=h
 cases rx
 obtain⟨u,rfl,ru⟩:=rv.one
 cases ru
 obtain⟨z,its,n,r,hl,e⟩:=I.vP hH
 obtain⟨its2,r2,⟨⟨c2,dd2,WJ,sl2⟩,e2,hc2,n2,hd2⟩,z2⟩:=I.tuple hB
 simp only at hc2 hd2
 subst hc2 hd2
 have WK:=r2.length
 have hsz:its.toArray.size+its2.toArray.size≤sizeLine:=by rw[List.size_toArray,List.size_toArray];omega
 have zQ:¬(!its.toArray.isEmpty&&Builtin.List.listTooLong (its.toArray.size+its2.toArray.size))=true:=by
  rw[vQ hsz,Bool.and_false]
  exact Bool.false_ne_true
 refine call_meets F.slot_list_extend ⟨_,e,rfl⟩ F.entry_list_extend (F.args_list_extend_2 _ _)
  (qB l b its.toArray its2.toArray n n2 dd2 sl2 zQ (by rw[List.size_toArray];omega) (by omega)) ⟨e,e2,?_⟩
 refine⟨.non,_,I.zP (its':=its++its2) hH e (by simp) (r.append r2) ?_,rfl,q⟩
 rw[List.length_append]
 omega
end
theorem Mb (x y:Str) (h:(!ltCps y.cps.toList x.cps.toList)=true):x.cps.toList≤y.cps.toList:=by
 rw[PyProof.Rows.ltCps_eq] at h
 exact List.not_lt.mp (by simpa using h)
theorem j6:∀(l:List Str) (p:Str),risingS p l=true→∀y∈l,p.cps.toList≤y.cps.toList
 | [],p,_,y,hy=>by cases hy
 | x::l,p,h,y,hy=>by
  have h':(!ltCps x.cps.toList p.cps.toList&&risingS x l)=true:=h
  rw[Bool.and_eq_true] at h'
  have h1:=Mb p x h'.1
  rcases List.mem_cons.mp hy with e | hy
  ·rw[e];exact h1
  ·exact List.le_trans h1 (j6 l x h'.2 y hy)
theorem kB {x:Str} {l:List Str} (h:sortedS (x::l)=true):sortedS l=true:=by
 cases l with
 | nil=>rfl
 | cons y l=>
  have h':(!ltCps y.cps.toList x.cps.toList&&risingS y l)=true:=h
  rw[Bool.and_eq_true] at h'
  exact h'.2
theorem Io {x y:Str} (h:x.cps.toList=y.cps.toList):x=y:=by
 obtain⟨a⟩:=x
 obtain⟨b⟩:=y
 have:a=b:=Array.toList_inj.mp h
 rw[this]
theorem o9:∀{l m:List Str},sortedS l=true→sortedS m=true→l.Nodup→m.Nodup→(∀y,y∈l↔y∈m)→l=m
 | [],[],_,_,_,_,_=>rfl
 | [],y::m,_,_,_,_,h=>by have:=(h y).mpr List.mem_cons_self;cases this
 | x::l,[],_,_,_,_,h=>by have:=(h x).mp List.mem_cons_self;cases this
 | x::l,y::m,sl,sm,nl,nm,h=>by
  rw[List.nodup_cons] at nl nm
  have e:x=y:=by
   rcases List.mem_cons.mp ((h x).mp List.mem_cons_self) with e | hx
   ·exact e
   ·rcases List.mem_cons.mp ((h y).mpr List.mem_cons_self) with e | hy
    ·exact e.symm
    ·exact Io (List.le_antisymm (j6 l x sl y hy) (j6 m y sm x hx))
  subst e
  rw[o9 (kB sl) (kB sm) nl.2 nm.2 fun z=>?_]
  constructor
  ·intro hz
   rcases List.mem_cons.mp ((h z).mp (List.mem_cons_of_mem _ hz)) with e | q
   ·exact absurd (e▸hz) nl.1
   ·exact q
  ·intro hz
   rcases List.mem_cons.mp ((h z).mpr (List.mem_cons_of_mem _ hz)) with e | q
   ·exact absurd (e▸hz) nm.1
   ·exact q
theorem iW:∀{l:List Str} {ss:List Str},l.Nodup→(∀y∈l,y∈ss)→l.length≤ss.length
 | [],ss,_,_=>Nat.zero_le _
 | x::l,ss,h,hs=>by
  rw[List.nodup_cons] at h
  have hx:=hs x List.mem_cons_self
  have:=iW (l:=l) (ss:=ss.erase x) h.2 fun y hy=>(List.mem_erase_of_ne (fun e:y=x=>h.1 (by rw[←e];exact hy))).mpr (hs y (List.mem_cons_of_mem _ hy))
  rw[List.length_erase_of_mem hx] at this
  have hp:0<ss.length:=List.length_pos_of_mem hx
  rw[List.length_cons]
  omega
theorem pO (x:Str) (l:List Str):inV (.str x) (l.map V.str)=decide (x∈l):=by
 induction l with
 | nil=>rfl
 | cons y l ih=>
  unfold inV at ih ⊢
  rw[List.map_cons,List.any_cons,ih]
  show((y == x)||_)=_
  by_cases e:y=x
  ·simp[e]
  ·have e':¬x=y:=fun z=>e z.symm
   simp[e,e']
end L2
namespace L2
open PySem PySem.Spec PyProof.Rows PySem.W PySem.Builtin PySem.Builtin.ObjectAttr
end L2
namespace L2
open PySem PySem.Spec PyProof.Rows
section
variable {X:Cx}
theorem Ip {K:PySem.W.Frag}:PySem.W.kitOne K (.type "bool") (.type "bool")=some true:=by rfl
end
section
variable {X:Cx} {e:Expr} {lo hi:Option Expr} {st:Expr} {te:TE} {tl th tk:TO} {p2 pos:Pos}
def Mc (K:PySem.W.Frag) (x:V) (l u k:Option Int):Hp→VK→Prop:=fun H Q=>∃a xs,l=none∧u=none∧k=some (-1)∧x=.ref a∧bp K H a xs∧∀p,H p=none→Q (.ref p) (upd H p (.lst xs.reverse))
def Md (K:PySem.W.Frag) (te:TE) (tl th tk:TO):TE:=fun σ H Q=>te σ H fun x H1=>tl σ H1 fun l H2=>th σ H2 fun u H3=>tk σ H3 fun k H4=>Mc K x l u k H4 Q
theorem GG (K:PySem.W.Frag) (he:PE X e te) (hl:PO X lo tl) (hu:PO X hi th) (hk:PO X (some st) tk) (hK:X.K=K:=by rfl):PE X (.Subscript e (.Slice lo hi (some st) p2) pos) (Md K te tl th tk):=by
 subst hK
 intro pins s σ H Q I h
 refine Subscript_ (aE (he pins s σ H _ I h) fun v s1 ⟨x,H1,I1,r1,q1⟩=>?_)
 refine wpAny_Slice (aE (hl pins s1 σ H1 _ I1 q1) fun vl s2 ⟨l,H2,I2,pl,q2⟩=>aE (hu pins s2 σ H2 _ I2 q2) fun vu s3 ⟨u,H3,I3,pu,q3⟩=>aE (hk pins s3 σ H3 _ I3 q3) fun vk s4 ⟨k,H4,I4,pk,q4⟩=>?_)
 obtain⟨a,xs,rfl,rfl,rfl,rfl,hx,q⟩:=q4
 cases pl
 cases pu
 cases pk with
 | int i t=>
  cases r1
  have I5:Inv X pins σ H4 {s4 with heap:=s4.heap.push {cls:=.type "slice",data:=.fields #[.none,.none,.int (-1) t]}}:=I4.kept (t':=s4.toks) fun b ob q=>Heap.get?_push_of_some _ q
  obtain⟨its,r,ht,hz⟩:=I5.list hx
  have hlen:its.toArray.size=xs.length:=by rw[List.size_toArray];exact r.length.symm
  show wpAny (model X.prog X.w) X.A (subscriptTail e (.Slice lo hi (some st) p2) (.ref a) (.ref s4.heap.objs.size)) (EP X pins σ Q) X.xe {s4 with heap:=s4.heap.push {cls:=.type "slice",data:=.fields #[.none,.none,.int (-1) t]}}
  refine tail_any (ops:=[.ref a,.ref s4.heap.objs.size]) ht.isList.typeIs list_getitem_lookup ?_ (by with_unfolding_all rfl)
  refine wpAny_getItem_list_slice (lo:=none) (hi:=none) (st:=some (-1)) ht.isList (Heap.IsSliceOf.new ..) .none .none (.int _ _) (by decide) ?_ (by rw[hlen];exact hz)
  rw[PySem.W.krv_pick]
  refine⟨.ref _,_,I5.laid (o:=.lst xs.reverse) (t':=s4.toks) (fun _ _ q=>Heap.get?_push_of_some _ q) (Nat.le_refl _) ?_,rfl,q _ (I5.hok.fresh (Nat.le_refl _))⟩
  exact⟨by rw[List.length_reverse];exact hz,_,0,k_ r,Heap.get?_push_size _ rfl⟩
end
def Its (x:Str):It:=⟨fun i _=>i<x.cps.size,fun i H y H'=>H'=H∧∃c,x.cps[i]? =some c∧y=.str ⟨#[c]⟩,fun i _=>x.cps.size≤i⟩
theorem DY {P:Program} {w:World} {K:PySem.W.Frag} {tg:Expr} (it:Addr) (x:Str) (t:Tok):Turn P w K tg (Its x) [it] it (fun i h=>h.IsStrIter it "str_ascii_iterator" x t i) where
 mem:=by simp
 obj:=fun i h st b hb=>by
  have e:b=it:=by simpa using hb
  subst e
  obtain⟨o,e,c,d⟩:=st
  exact⟨o,e,fun v z=>by rw[d] at z;cases z⟩
 keep:=fun i h h' st k=>let ⟨o,ho,r⟩:=st;⟨o,k it (by simp) o ho,r⟩
 item:=by
  intro X hP hw hK hc i pins s σ H E I hf st hg
  subst hP hw hK
  obtain⟨f0,f1,f2,f3,f4,f5⟩:=hf it (by simp)
  have hg':i<x.cps.size:=hg
  refine wpAny_pyNext_ascii_item st (c:=x.cps[i]) (by simp[hg']) fun h' st' sb=>?_
  have I1:Inv X pins σ H {s with heap:=h',toks:=s.toks+1}:=I.turned (fun b o hb e=>(sb.2 b hb).trans e) f0 f1 f3 f4 f5
  obtain⟨o,e,c,d⟩:=id st'
  exact⟨_,rfl,vy (s:={s with heap:=h',toks:=s.toks+1}) e c d (by decide) ⟨.str ⟨#[x.cps[i]]⟩,H,I1,⟨_,rfl⟩,⟨rfl,_,by simp[hg'],rfl⟩,st',fun b hb=>(hf b hb).1⟩⟩
 done:=by
  intro X hP hw hK hc i pins s σ H E I hf st hg
  subst hP hw hK
  obtain⟨f0,f1,f2,f3,f4,f5⟩:=hf it (by simp)
  have hg':x.cps.size≤i:=hg
  exact wpAny_pyNext_ascii_end (I.ok.hd hc) st (by simp[hg']) fun h' eb=>⟨rfl,I.turned (t':=s.toks) (fun b o hb e=>eb b o hb e) f0 f1 f3 f4 f5⟩
 self:=fun _ _ _ _ _ st h=>wpAny_pyIter_striter_ascii st h
def OZ (tl:TE):TI:=fun σ H R=>tl σ H fun x H1=>∃z:Str,x=.str z∧z.cps.all (· <128)=true∧R (Its z) H1
section
variable {X:Cx} {tg:Expr}
theorem Iq {l:Expr} {tl:TE} (hl:PE X l tl):PI X tg l (OZ tl):=by
 intro pins s σ H R I h
 refine aE (hl pins s σ H _ I h) fun v s1 ⟨x,H1,I1,r1,q1⟩=>?_
 obtain⟨z,rfl,ha,q⟩:=q1
 obtain⟨t,rfl⟩:=r1
 refine wpAny_pyIter_ascii ha ?_
 refine⟨s1.heap.objs.size,[s1.heap.objs.size],_,_,H1,rfl,I1.kept (t':=s1.toks) fun b o e=>Heap.get?_push_of_some _ e,DY _ z t,⟨_,Heap.get?_push_size _ rfl,rfl,rfl⟩,fun b hb=>?_,q⟩
 have e:b=s1.heap.objs.size:=by simpa using hb
 subst e
 exact I1.jB (Nat.le_refl _) (I1.hok.fresh (Nat.le_refl _))
end
theorem GH {z:Str} {g:TG} {tb:TS} {D:Ends} {σ:St} {H:Hp} (Pv:Nat→St→Hp→Prop) (h0:Pv 0 σ H)
  (hs:∀i c σ H,z.cps[i]? =some c→Pv i σ H→g (.str ⟨#[c]⟩) σ H fun σ2 H2=>tb {D with nx:=Pv (i+1),ct:=Pv (i+1),bk:=D.nx} σ2 H2) (hd:∀σ H,Pv z.cps.size σ H→D.nx σ H):
  ∃W:Nat→Nat→St→Hp→Prop,(∃m,W 0 m σ H)∧∀i m σ H,W i m σ H→
   ((Its z).stop i H∧D.nx σ H)∨((Its z).go i H∧∃N:St→Hp→Prop,(∀σ' H',N σ' H'→∃m',m'<m∧W (i+1) m' σ' H')∧∀x H',(Its z).ql i H x H'→g x σ H' fun σ2 H2=>tb {D with nx:=N,ct:=N,bk:=D.nx} σ2 H2):=by
 refine⟨fun i m σ H=>m=z.cps.size-i∧i≤z.cps.size∧Pv i σ H,⟨z.cps.size,by simp,Nat.zero_le _,h0⟩,?_⟩
 rintro i m σ H ⟨rfl,hi,p⟩
 by_cases hlt:i<z.cps.size
 ·refine .inr ⟨hlt,Pv (i+1),fun σ' H' p'=>⟨z.cps.size-(i+1),by omega,rfl,hlt,p'⟩,fun x H' y=>?_⟩
  obtain⟨rfl,c,hc,rfl⟩:=y
  exact hs i c σ _ hc p
 ·have e:i=z.cps.size:=by omega
  subst e
  exact .inl ⟨Nat.le_refl _,hd _ _ p⟩
section
variable {X:Cx} {e:Expr} {lo hi:Option Expr} {st:Expr} {te:TE} {tl th tk:TO} {p2 pos:Pos}
def nB (x:Str):Str:=⟨x.cps.reverse⟩
theorem picked_rev (x:Str) (t:Tok):((slicePicked x none none (some (-1,t))).filterMap (x.cps[·]?)).toArray=x.cps.reverse:=by
 have e:slicePicked x none none (some (-1,t))=(List.range x.cps.size).reverse:=by
  have h:slicePicked x none none (some (-1,t))=sliceRange ((x.cps.size:Int)-1) (-1) (-1):=rfl
  rw[h,PySem.W.krv_sliceRange,PySem.W.krv_range]
 rw[e,List.filterMap_reverse,PySem.W.krv_all,←Array.toList_reverse]
def Me (x:V) (l u k:Option Int):Hp→VK→Prop:=fun H Q=>∃z:Str,l=none∧u=none∧k=some (-1)∧x=.str z∧z.length≤sizeLine∧Q (.str (nB z)) H
def Mf (te:TE) (tl th tk:TO):TE:=fun σ H Q=>te σ H fun x H1=>tl σ H1 fun l H2=>th σ H2 fun u H3=>tk σ H3 fun k H4=>Me x l u k H4 Q
theorem GI (he:PE X e te) (hl:PO X lo tl) (hu:PO X hi th) (hk:PO X (some st) tk):PE X (.Subscript e (.Slice lo hi (some st) p2) pos) (Mf te tl th tk):=by
 intro pins s σ H Q I h
 refine Subscript_ (aE (he pins s σ H _ I h) fun v s1 ⟨x,H1,I1,r1,q1⟩=>?_)
 refine wpAny_Slice (aE (hl pins s1 σ H1 _ I1 q1) fun vl s2 ⟨l,H2,I2,pl,q2⟩=>aE (hu pins s2 σ H2 _ I2 q2) fun vu s3 ⟨u,H3,I3,pu,q3⟩=>aE (hk pins s3 σ H3 _ I3 q3) fun vk s4 ⟨k,H4,I4,pk,q4⟩=>?_)
 obtain⟨z,rfl,rfl,rfl,rfl,hz,q⟩:=q4
 cases pl
 cases pu
 cases pk with
 | int i t=>
  obtain⟨t0,rfl⟩:=r1
  have I5:Inv X pins σ H4 {s4 with heap:=s4.heap.push {cls:=.type "slice",data:=.fields #[.none,.none,.int (-1) t]}}:=I4.kept (t':=s4.toks) fun b ob q=>Heap.get?_push_of_some _ q
  show wpAny (model X.prog X.w) X.A (subscriptTail e (.Slice lo hi (some st) p2) (.str z t0) (.ref s4.heap.objs.size)) (EP X pins σ Q) X.xe {s4 with heap:=s4.heap.push {cls:=.type "slice",data:=.fields #[.none,.none,.int (-1) t]}}
  refine tail_any (ops:=[.str z t0,.ref s4.heap.objs.size]) (typeIs_str _ _ _) PySem.F.slot_str_getitem.lookup ?_ (by with_unfolding_all rfl)
  refine wpAny_getItem_str_slice (l:=none) (u:=none) (st:=some (-1,t)) ⟨_,Heap.get?_push_size _ rfl,rfl,rfl⟩ rfl ?_
  have e1:sliceMade z t0 none none (some (-1,t))=.str (nB z):=by
   unfold sliceMade
   rw[picked_rev]
   rfl
  rw[e1]
  exact⟨by show z.cps.reverse.size≤sizeLine;rw[Array.size_reverse];exact hz,⟨.str _,H4,I5.tok _,⟨_,rfl⟩,q⟩⟩
end
section
variable {X:Cx}
def Ir:V→List V→Hp→VK→Prop:=fun x vs H Q=>∃(z y:Str) (i:Nat) (rest:List Nat),x=.str z∧vs=[.str y]∧Builtin.Str.occurrences z y 0 z.length 1=i::rest∧Q (.int (i:Nat)) H
theorem DZ:yK X "str.index" Ir:=by
 intro pins s σ H x vs v us Q I rx rv h
 obtain⟨z,y,i,rest,rfl,rfl,ho,q⟩:=h
 obtain⟨t,rfl⟩:=rx
 obtain⟨u,rfl,ru⟩:=rv.one
 obtain⟨t2,rfl⟩:=ru
 exact call_gives PySem.F.slot_str_index (typeIs_str _ _ _) PySem.F.entry_str_index (PySem.F.args_str_index_2 _ _) (gives_str_index z y t t2 i rest ho) ⟨.int _,H,I.tok _,⟨_,rfl⟩,q⟩
theorem GJ:cO X (binaryOp .Mult) (fun x y H Q=>∃(z:Str) (n:Int),x=.str z∧y=.int n∧0≤n∧n≤1000∧z.length≤1000∧Q (.str (Txt.mul z n)) H):=by
 intro pins s σ H x y v u Q I rx ry h
 obtain⟨z,n,rfl,rfl,h0,h1,h2,q⟩:=h
 obtain⟨t,rfl⟩:=rx
 obtain⟨t',rfl⟩:=ry
 refine SB.mul ⟨?_,?_,?_⟩ fun t' k=>⟨.str _,H,I.tok k,⟨t',rfl⟩,q⟩
 ·have a:¬n< -(2 ^ 63:Int):=by omega
  have b:¬n ≥ 2 ^ 63:=by omega
  simp only[a,b,decide_false,Bool.or_self]
 ·intro a b c
  have e:(1000:Int)≤(2 ^ 63-1) / n:=by
   rw[Int.le_ediv_iff_mul_le (by omega)]
   omega
  omega
 ·intro a b
  have h3:z.length*n.toNat≤1000*1000:=Nat.mul_le_mul h2 (by omega)
  have h4:(1000*1000:Nat)≤sizeLine:=by decide
  exact decide_eq_false (by omega)
end
section
variable {prog:Program} {w:World} {A:Around} {E:Value→Shared→Prop} {s:Shared}
theorem aW {h h':Heap} {it t b:Addr} {i:Nat} (x:h.IsTupleIter it t i) (sb:Heap.ExtBut b h h') (n:it≠b):h'.IsTupleIter it t i:=let ⟨o,ho,r⟩:=x;⟨o,sb _ _ n ho,r⟩
theorem cF {h h':Heap} {t b:Addr} {ys:Array Value} (x:h.IsTuple t ys) (sb:Heap.ExtBut b h h') (n:t≠b):h'.IsTuple t ys:=let ⟨o,ho,r⟩:=x;⟨o,sb _ _ n ho,r⟩
abbrev Tj (l:Addr):Obj:={cls:=.type "list_iterator",data:=.fields #[.ref l,.int 0 0]}
abbrev nE (l:Addr):Obj:={cls:=.type "tuple_iterator",data:=.fields #[.ref l,.int 0 0]}
end
structure eU (ps aB:List Str) (scope:Scope):Prop where
 kind:scope.kind=.function
 co:scope.isCoroutine=false
 gen:scope.isGenerator=false
 BH:∀x∈scope.names,x.2≠.cell
 par:∀x∈ps,scope.names.lookup x=some .local
 free:∀x∈aB,scope.names.lookup x=some .free
 only:∀x,scope.names.lookup x=some .free→x∈aB
 nd:(ps++aB).Nodup
structure ij (h:Heap) (cl:List (Str×Addr)) (aB:List Str) (fvs:List V):Prop where
 inj:∀x y c,cl.lookup x=some c→cl.lookup y=some c→x=y
 cell:∀x c,cl.lookup x=some c→∃v,h.IsCell c v
 vals:Paired (fun x v=>∃c u,cl.lookup x=some c∧h.IsCell c (some u)∧RelV v u) aB fvs
def BI (P:Program) (w:World) (K:PySem.W.Frag) (mg:Str→Option Value) (base:Heap) (N:List Str) (qual:Str) (scope:Scope) (f:Addr) (cd:Value) (cl:List (Str×Addr)) (A:Around) (outer:List Env) (s:Shared) (H:Hp):Cx where
 prog:=P
 w:=w
 K:=K
 mg:=mg
 base:=base
 A:=A.deeper (PySem.W.envX qual scope s.heap.objs.size f cd cl)
 N:=N
 s₀:=s
 H₀:=H
 env:=PySem.W.envX qual scope s.heap.objs.size f cd cl
 outer:=outer
 stack:=PySem.W.envX qual scope s.heap.objs.size f cd cl::outer
 ex:=[]
 calm:=true
 fn:=fun _=>false
 pn:=[]
 xe:=fun _ _=>False
theorem yU {ps:List Str} {us:List Value} (nd:ps.Nodup) (hl:ps.length≤us.length) {i:Nat} {y:Str} {u:Value} (hp:ps[i]? =some y) (hu:us[i]? =some u):(ps.zip us).reverse.lookup y=some u:=by
 have hm:(y,u)∈(ps.zip us).reverse:=by
  rw[List.mem_reverse]
  refine List.mem_of_getElem? (i:=i) ?_
  rw[List.getElem?_zip_eq_some]
  exact⟨hp,hu⟩
 have hn:((ps.zip us).reverse.map (·.1)).Nodup:=by
  rw[List.map_reverse]
  refine(List.reverse_perm _).nodup_iff.mpr ?_
  rw[List.map_fst_zip hl]
  exact nd
 generalize (ps.zip us).reverse=l at hm hn
 induction l with
 | nil=>cases hm
 | cons p l ih=>
  rw[List.map_cons,List.nodup_cons] at hn
  rcases List.mem_cons.mp hm with e | e
  ·subst e;exact List.lookup_cons_self
  ·have:y≠p.1:=fun z=>hn.1 (by rw[←z];exact List.mem_map.mpr ⟨_,e,rfl⟩)
   obtain⟨a,b⟩:=p
   rw[List.lookup_cons,show(y == a)=false from beq_false_of_ne this]
   exact ih e hn.2
theorem eV {α β:Type} {F:α→β→Prop}:∀{l:List α} {m:List β} {i:Nat} {a:α},Paired F l m→l[i]? =some a→∃b,m[i]? =some b∧F a b
 | _,_,_,_,.nil,h=>by simp at h
 | _,_,0,_,.cons r _,h=>by simp at h;subst h;exact⟨_,rfl,r⟩
 | _,_,i+1,_,.cons _ t,h=>by
  simp only[List.getElem?_cons_succ] at h ⊢
  exact eV t h
theorem GK {P:Program} {w:World} {K:PySem.W.Frag} {mg:Str→Option Value} {base:Heap} {ps aB:List Str} {qual:Str} {scope:Scope} {f:Addr} {cd:Value} {cl:List (Str×Addr)} {A:Around} {outer:List Env} {s:Shared} {H:Hp} {us:List Value} {vs fvs:List V} {h1:Heap} {fo:Obj} {tk:Nat}
  (S:eU ps aB scope) (hd:A.handled=none) (e0:pH P w K mg base A outer s H) (hl:vs.length=ps.length) (r:Vals vs us) (C:ij base cl aB fvs)
  (hns:h1.Ns s.heap.objs.size fun x=>(ps.zip us).reverse.lookup x) (hsb:Heap.SameBut s.heap.objs.size (s.heap.push fo) h1):
  Inv (BI P w K mg base (ps++aB) qual scope f cd cl A outer s H) [] (vs.map some++fvs.map some) H {s with heap:=h1,toks:=tk}:=by
 have hk:∀b o,s.heap.get? b=some o→h1.get? b=some o:=fun b o e=>hsb.extBut b o (Nat.ne_of_lt (Heap.lt_size e)) (Heap.get?_push_of_some _ e)
 have hkb:∀b o,base.get? b=some o→h1.get? b=some o:=fun b o e=>hk b o (e0.bs b o e).1
 have j0:∀b:Addr,b ∉ (BI P w K mg base (ps++aB) qual scope f cd cl A outer s H).ex:=fun b z=>absurd (show b∈([]:List Addr) from z) (by simp)
 have lf:aB.length=fvs.length:=Paired.length C.vals
 refine⟨⟨e0.mod,S.kind,rfl,rfl,Nat.le_refl _,C.inj,fun y hy=>?_,fun y c z=>(nomatch z),fun _=>hd,Around.frames_deeper e0.frames,.inr ⟨rfl,rfl⟩,fun b z=>absurd z (j0 b),e0.bs,e0.m8,fun b _ _=>j0 b,fun b z=>absurd z (j0 b),e0.g_,e0.tI⟩,
  rfl,e0.bare,Un.kept hk,⟨_,hns,fun i y v h1' h2 h3=>?_⟩,fun y c h=>?_,e0.hok.fresh (Nat.le_refl _),fun y c h=>?_,fun p hp=>absurd (show p∈([]:List (Addr×Obj)) from hp) (by simp),e0.hok.kept hk,?_⟩
 ·have hy:scope.names.lookup y=some .cell∨scope.names.lookup y=some .free:=hy
  rcases hy with hy | hy
  ·exact absurd rfl (S.BH _ (PySem.mem_of_lookup hy))
  ·have hm:=S.only y hy
   obtain⟨i,hi⟩:=List.getElem?_of_mem hm
   obtain⟨v,_,c,u,hc,_⟩:=eV C.vals hi
   exact⟨c,hc⟩
 ·have g8:(ps++aB)[i]? =some y:=h1'
  by_cases hi:i<ps.length
  ·rw[List.getElem?_append_left hi] at g8
   rw[List.getElem?_append_left (by rw[List.length_map];omega),List.getElem?_map] at h2
   obtain⟨v',hv',e⟩:=Option.map_eq_some_iff.mp h2
   have e':v'=v:=Option.some.inj e
   subst e'
   obtain⟨u,hu,rv⟩:=r.get hv'
   have yG:ps.Nodup:=(List.nodup_append.mp S.nd).1
   exact⟨u,rv,.inl ⟨S.par y (List.mem_of_getElem? g8),yU yG (by rw[←hl,r.length];exact Nat.le_refl _) g8 hu⟩⟩
  ·rw[List.getElem?_append_right (by omega)] at g8
   rw[List.getElem?_append_right (by rw[List.length_map];omega),List.length_map,hl,List.getElem?_map] at h2
   obtain⟨v',hv',e⟩:=Option.map_eq_some_iff.mp h2
   have e':v'=v:=Option.some.inj e
   subst e'
   obtain⟨v2,hv2,c,u,hc,⟨o,ho,hd'⟩,rv⟩:=eV C.vals g8
   rw[hv'] at hv2
   cases hv2
   exact⟨u,rv,.inr ⟨.inr (S.free y (List.mem_of_getElem? g8)),c,hc,o,hkb _ _ ho,hd'⟩⟩
 ·obtain⟨v,o,ho,hd'⟩:=C.cell y c h
  exact⟨v,o,hkb _ _ ho,hd'⟩
 ·obtain⟨v,o,ho,hd'⟩:=C.cell y c h
  exact(e0.bs c o ho).2
 ·show _=(ps++aB).length
  rw[List.length_append,List.length_map,List.length_map,List.length_append,hl,lf]
theorem Iu {P:Program} {w:World} {K:PySem.W.Frag} {mg:Str→Option Value} {base:Heap} {k:Nat} {f c':Addr} {name qual:Str} {params:Arguments} {body:Expr} {scope:Scope} {cl:List (Str×Addr)} {pm ctv:Value} {ps aB:List Str} {fvs:List V} {sp:Sp}
  (ho:base.get? f=some (PySem.W.kla_obj name qual params body scope cl pm c' ctv)) (wt:base.CodeRec (.ref c') qual) (S:eU ps aB scope) (C:ij base cl aB fvs) (len:∀vs H Q E,sp vs H Q E→vs.length=ps.length)
  (hbody:∀(A:Around) (outer:List Env) (s:Shared) (H:Hp) (vs:List V) (Q:VK) (E:XK),aP k (A.deeper (PySem.W.envX qual scope s.heap.objs.size f (.ref c') cl))→sp vs H Q E→
   ∃t,PE (BI P w K mg base (ps++aB) qual scope f (.ref c') cl A outer s H) body t∧t (vs.map some++fvs.map some) H Q):
  aQ P w K mg base bj (k+1) f (PySem.W.kla_fn name qual params body scope cl pm (.ref c') ctv) ps sp:=by
 refine⟨len,fun A outer s H args us vs Q E hr e0 hb r hsp=>?_⟩
 have hl:=len _ _ _ _ hsp
 have lim:s.heap.NoLimit:=e0.mod.nolimit.keeps fun b o e=>(e0.bs b o e).1
 have D_:s.heap.CodeRec (.ref c') qual:=by
  obtain⟨c,oc,vs',tq,hc,hoc,hdc,hq⟩:=wt
  exact⟨c,oc,vs',tq,hc,(e0.bs _ _ hoc).1,hdc,hq⟩
 refine PySem.W.kla_callFunE hr.depth (e0.bs _ _ ho).1 rfl S.co S.gen rfl D_ (hb _ _ _ _ ?_)
 have hloc:∀y∈ps.zip us,scope.names.lookup y.1=some .local:=fun⟨n,v⟩ hy=>S.par n (List.of_mem_zip hy).1
 refine wpAny_newFunctionEnv S.BH hloc (fun h₁ hns hsb=>⟨lim.fresh _ hsb,?_⟩) S.kind
 obtain⟨t,ht,hq⟩:=hbody A outer s H vs Q E (hr.deeper _) hsp
 have I:Inv (BI P w K mg base (ps++aB) qual scope f (.ref c') cl A outer s H) [] (vs.map some++fvs.map some) H {s with heap:=h₁,toks:=s.toks+(ps.zip us).length}:=GK S hr.hd e0 hl r C hns hsb
 refine PySem.W.kla_codeExpr (wpAny_mono (ht [] _ _ H _ I hq) (fun v s' hs=>?_) fun e s' hs=>hs.elim)
 obtain⟨x,H',J,rv,q⟩:=hs
 exact⟨x,H',J.os,J.bare,J.base,J.hok,rv,q⟩
section
variable {X:Cx} {x:Str} {p pos:Pos} {e:Expr} {es:List Expr} {t:TA} {k:Nat} {f:Addr} {fd:FuncData} {ps:List Str} {sp:Sp}
def Iv (i:Nat) (f:Addr) (sp:Sp) (t:TA):TE:=fun σ H Q=>σ[i]? =some (some (.ref f))∧t σ H fun vs H1=>sp vs H1 Q E0
theorem pP (F:aQ X.prog X.w X.K X.mg X.base bj k f fd ps sp) {i:Nat} {o:Obj} (ho:X.base.get? f=some o) (hof:o.data=.func fd) (hr:aP k X.A) (hb:∀us:List Value,us.length=ps.length→bindArgs fd ⟨us,[]⟩=pure (ps.zip us))
  (hN:X.N[i]? =some x) (hv:yy X.env.scope x) (ha:PA X (e::es) t) (hdb:(x == ("__debug__":Str))=false:=by decide) (hcd:(x == ("__classdict__":Str))=false:=by decide)
  (he:starEach (e::es) X.env=(false,eval e X.env)::starEach es X.env:=by rfl) (hpl:(backTo pos (starEach es X.env)).any (·.1)=false:=by rfl):
  PE X (.Call (.Name x p) (e::es) [] pos) (Iv i f sp t):=by
 intro pins s σ H Q I h
 obtain⟨hi,h⟩:=h
 obtain⟨m,hn,hl⟩:=I.loc
 obtain⟨u,r,l⟩:=hl i x (.ref f) hN hi hv
 obtain rfl:u=Value.ref f:=r
 have fin:wpAny (model X.prog X.w) X.A (callWith pos (.ref f) [] (backTo pos (starEach (e::es) X.env)) []) (EP X pins σ Q) X.xe s:=by
  have h0:wpAny (model X.prog X.w) X.A (spliced (backTo pos (starEach (e::es) X.env))) (fun us s₁=>s₁.heap.get? f=some o∧wpAny (model X.prog X.w) X.A (call (.ref f) ([]++us)) (EP X pins σ Q) X.xe s₁) X.xe s:=by
   refine aE (ha pos pins s σ H _ I h) fun us s1 ⟨vs,H1,I1,r,q⟩=>⟨I1.bk _ _ ho,?_⟩
   exact A8 (ds:=[]) (qr:=[]) F hr (Binds.all hb) .nil aR I1 r (by rw[List.append_nil];exact q)
  rw[he] at h0 ⊢
  refine PySem.W.callWith_of (P:=fun h=>h.get? f=some o) ?_ (fun h hf=>⟨.frame,.inl rfl,(PySem.W.Looks.ld (part:=none) hf).andThen ?_⟩) (Calls.evalArgs_plain h0)
  ·show((false||(backTo pos (starEach es X.env)).any (·.1))||false)=false
   rw[hpl];rfl
  ·rw[hof]
   exact .now
 rcases l with⟨hk,hm⟩ | ⟨hk,c,hc,hcell⟩
 ·exact wpAny_Call_Name_kw (wpAny_Name (wpAny_loadName_local I.ok.kind hk hn hm fin) hdb)
 ·rcases hk with hk | hk
  ·exact wpAny_Call_Name_kw (wpAny_Name (wpAny_loadName_cell I.ok.kind hk hc hcell fin) hdb)
  ·exact wpAny_Call_Name_kw (wpAny_Name (wpAny_loadName_free I.ok.kind hk hc hcell fin hcd) hdb)
end
def j7 (f:Addr) (o:Obj):HO:=.ext fun h=>h.get? f=some o
def j8 (c:Addr) (qual:Str):HO:=.ext fun h=>h.CodeRec (.ref c) qual
section
variable {P:Program} {w:World} {H:Hp} {h:Heap}
theorem qC {f:Addr} {o:Obj} (e:h.get? f=some o):bq P w H h f (j7 f o):=
 ⟨e,⟨o,e⟩,fun h1 h2 q k=>k o q⟩
theorem BJ {c:Addr} {qual:Str} (e:h.CodeRec (.ref c) qual):bq P w H h c (j8 c qual):=by
 refine⟨e,?_,fun h1 h2 q k=>?_⟩
 ·obtain⟨c',o,vs,t,e1,e2,_⟩:=e
  cases e1
  exact⟨o,e2⟩
 ·obtain⟨c',o,vs,t,e1,e2,r⟩:=q
  cases e1
  exact⟨c,o,vs,t,rfl,k o e2,r⟩
end
def Tab (H:Hp) (T:Addr) (L:List (Pos×Str)):Prop:=
 ∃ps:Array Value,H T=some (.f' ps)∧TriplesOk ps.toList∧∀p∈L,codeAmong p.1 ps.toList=none∨∃c,codeAmong p.1 ps.toList=some (.ref c)∧H c=some (j8 c p.2)
theorem Tab.same {H H':Hp} {T:Addr} {L:List (Pos×Str)} (x:Tab H T L) (s:Same H H'):Tab H' T L:=by
 obtain⟨ps,h1,h2,h3⟩:=x
 refine⟨ps,s _ _ h1,h2,fun p hp=>?_⟩
 rcases h3 p hp with z | ⟨c,z,q⟩
 ·exact .inl z
 ·exact .inr ⟨c,z,s _ _ q⟩
theorem Ab {p q:Pos} {c:Value}:∀(l:List Value),TriplesOk l→∀d,codeAmong p (l++[rawInt q.line,rawInt q.col,c])=some d→codeAmong p l=some d∨(codeAmong p l=none∧p.line=q.line∧p.col=q.col∧d=c):=by
 intro l
 fun_induction TriplesOk l with
 | case1=>
  intro _ d h
  simp only[List.nil_append,codeAmong,rawInt] at h
  split at h
  ·rename_i hc
   simp at hc
   cases h
   exact .inr ⟨rfl,by omega,by omega,rfl⟩
  ·cases h
 | case2 a t b u x rest ih=>
  intro hl d h
  simp only[List.cons_append,codeAmong] at h ⊢
  split at h
  ·rename_i hc;rw[if_pos hc];exact .inl h
  ·rename_i hc;rw[if_neg hc];exact ih hl d h
 | case3 l h1 h2=>intro h;exact h.elim
def Apart (L:List (Pos×Str)):Prop:=∀p∈L,∀q∈L,p.1.line=q.1.line→p.1.col=q.1.col→p=q
theorem Tab.grown {H H':Hp} {T c':Addr} {L:List (Pos×Str)} {ps:Array Value} {q:Pos×Str} (hq:q∈L) (ap:Apart L) (h2:TriplesOk ps.toList) (h3:∀p∈L,codeAmong p.1 ps.toList=none∨∃c,codeAmong p.1 ps.toList=some (.ref c)∧H c=some (j8 c p.2))
  (hT:H' T=some (.f' (ps++ #[rawInt q.1.line,rawInt q.1.col,.ref c']))) (hc:H' c'=some (j8 c' q.2)) (k:∀b φ,H b=some (.ext φ)→H' b=some (.ext φ)):Tab H' T L:=by
 have e:(ps++ #[rawInt q.1.line,rawInt q.1.col,.ref c']).toList=ps.toList++[rawInt q.1.line,rawInt q.1.col,.ref c']:=by simp
 refine⟨_,hT,by rw[e];exact TriplesOk_snoc _ _ _ _ h2,fun p hp=>?_⟩
 rw[e]
 cases z:codeAmong p.1 (ps.toList++[rawInt q.1.line,rawInt q.1.col,.ref c']) with
 | none=>exact .inl rfl
 | some d=>
  rcases Ab _ h2 d z with y | ⟨_,y1,y2,y3⟩
  ·rcases h3 p hp with n | ⟨c,n,r⟩
   ·rw[n] at y;cases y
   ·rw[n] at y;cases y
    exact .inr ⟨c,rfl,k _ _ r⟩
  ·have:=ap p hp q hq y1 y2
   subst this
   subst y3
   exact .inr ⟨c',rfl,hc⟩
section
variable {X:Cx} {pos:Pos} {params:Arguments} {body:Expr} {scope:Scope} {c T:Addr} {clos:List (Str×Addr)} {L:List (Pos×Str)} {bm:Addr} {ob:Obj}
abbrev lamO (X:Cx) (params:Arguments) (body:Expr) (scope:Scope) (clos:List (Str×Addr)) (c':Addr) (ctv:Value):Obj:=PySem.W.kla_obj "<lambda>" (X.env.qual++"<lambda>") params body scope clos ((X.mg "__name__").getD .none) c' ctv
def Iw (X:Cx) (params:Arguments) (body:Expr) (scope:Scope) (clos:List (Str×Addr)) (T:Addr) (L:List (Pos×Str)):TE:=fun σ H Q=>
 Tab H T L∧∀f c' ctv H',H f=none→H' f=some (j7 f (lamO X params body scope clos c' ctv))→H' c'=some (j8 c' (X.env.qual++"<lambda>"))→Tab H' T L→KB T H H'→Q (.ref f) H'
def dW (mg:Str→Option Value) (base:Heap):Prop:=
 ∃bm o,mg "__builtins__"=some (.ref bm)∧bm≠builtinsNs∧base.get? bm=some o∧o.cls=.type "module"∧o.dict=some builtinsNs∧o.data=.plain
theorem Iy (hcode:X.env.code=.ref c) (C:PySem.W.CodeHd X.base c T) (hB:dW X.mg X.base) (hcl:closureFor scope X.env=pure clos) (hdef:defaultsOf params X.env=([],[])) (hL:(pos,X.env.qual++"<lambda>")∈L) (ap:Apart L) (hfs:X.ex=[]):
  PE X (.Lambda params body scope pos) (Iw X params body scope clos T L):=by
 intro pins s σ H Q I ⟨⟨ps,hT,ht,htab⟩,h⟩
 refine PySem.W.kla_eval hdef ?_
 have qD:s.heap.get? T=some (PySem.W.tabObj ps):=I.hok T _ hT
 have hg:s.heap.Ns mainGlobals X.mg:=I.ok.mod.glob.keeps I.bk
 have Iz:mainGlobals≠T:=fun q=>by
  obtain⟨o,es,ep,e,hd,_⟩:=hg
  rw[q,qD] at e;cases e;cases hd
 have wu:s.heap.BuiltinsAt X.mg T:=by
  obtain⟨bm,o,h1,h2,h3,h4,h5,h6⟩:=hB
  refine⟨bm,o,h1,h2,fun q=>?_,fun q=>?_,I.bk _ _ h3,h4,h5,h6⟩
  ·obtain⟨o',es,ep,e,hd,_⟩:=I.ok.mod.glob
   rw[q,e] at h3;cases h3;rw[hd] at h6;cases h6
  ·have:=I.bk _ _ h3
   rw[q,qD] at this;cases this;cases h4
 have BK:=C.keeps I.bk
 rcases htab _ hL with hn | ⟨c',hc',IA⟩
 ·refine PySem.W.kla_makeFunction (mg:=X.mg) hcl I.ok.glob hg hcode BK qD ht hn Iz wu fun c' ctv h' tk hx hge hlt hrec htb=>?_
  have nc:H c'=none:=I.hok.fresh hge
  have BL:s.heap.objs.size≤h'.objs.size:=Nat.le_of_lt (Nat.lt_of_le_of_lt hge hlt)
  have nf:H h'.objs.size=none:=I.hok.fresh BL
  have fc:h'.objs.size≠c':=Nat.ne_of_gt hlt
  have Tc:T≠c':=aj hT nc
  have Tf:T≠h'.objs.size:=aj hT nf
  have fT:=Ne.symm Tf
  have cT:=Ne.symm Tc
  have keep:∀b o,b≠T→s.heap.get? b=some o→(h'.push (lamO X params body scope clos c' ctv)).get? b=some o:=fun b o hb e=>Heap.get?_push_of_some _ (hx b o hb e)
  let H':Hp:=upd (upd (upd H T (.f' (ps++ #[rawInt pos.line,rawInt pos.col,.ref c']))) c' (j8 c' (X.env.qual++"<lambda>"))) h'.objs.size (j7 h'.objs.size (lamO X params body scope clos c' ctv))
  have eT:H' T=some (.f' (ps++ #[rawInt pos.line,rawInt pos.col,.ref c'])):=by show upd _ _ _ _=_;rw[ak Tf,ak Tc,af]
  have ec:H' c'=some (j8 c' (X.env.qual++"<lambda>")):=by show upd _ _ _ _=_;rw[ak fc.symm,af]
  have ef:H' h'.objs.size=some (j7 h'.objs.size (lamO X params body scope clos c' ctv)):=af
  have eo:∀b,b≠T→b≠c'→b≠h'.objs.size→H' b=H b:=fun b h1 h2 h3=>by show upd _ _ _ _=_;rw[ak h3,ak h2,ak h1]
  have kb:KB T H H':=fun b o e hb=>by rw[eo b hb (aj e nc) (aj e nf)];exact e
  have hnew:∀b o,s.heap.get? b=some o→b≠c'∧b≠h'.objs.size:=fun b o e=>⟨Nat.ne_of_lt (Nat.lt_of_lt_of_le (Heap.lt_size e) hge),Nat.ne_of_lt (Nat.lt_of_lt_of_le (Heap.lt_size e) BL)⟩
  have IB:=Tab.grown (H:=H) (H':=H') hL ap ht htab eT ec fun b φ e=>kb b _ e fun z=>by rw[z,hT] at e;cases e
  have hok':cC X.prog X.w H' (h'.push (lamO X params body scope clos c' ctv)):=fun b u e=>by
   by_cases b1:b=T
   ·subst b1
    rw[eT] at e;cases e
    exact Heap.get?_push_of_some _ htb
   by_cases b2:b=c'
   ·subst b2
    rw[ec] at e;cases e
    exact BJ (hrec.push _)
   by_cases b3:b=h'.objs.size
   ·subst b3
    rw[ef] at e;cases e
    exact qC (Heap.get?_push_size _ rfl)
   rw[eo b b1 b2 b3] at e
   refine(I.hok b u e).stay (fun d v hd q=>keep d v ?_ q) (fun d q=>kb d _ q ?_) fun d xs q=>kb d _ q ?_
   ·rintro rfl
    rcases hd with z | z
    ·exact b1 z.symm
    ·rw[hT] at z;cases z
   ·rintro rfl;rw[hT] at q;cases q
   ·rintro rfl;rw[hT] at q;cases q
  refine⟨.ref h'.objs.size,H',?_,rfl,h _ _ _ _ nf ef ec IB kb⟩
  have ne_T:∀b,H b=none→b≠T:=fun b n z=>by rw[z,hT] at n;cases n
  refine I.un ⟨fun b o e n _ _=>keep b o (ne_T b n) e,fun b o e n _ _=>⟨o.slots,keep b o (ne_T b n) e⟩,fun b o e n _=>by rw[eo b (ne_T b n) (hnew b o e).1 (hnew b o e).2];exact n,fun b o e _=>?_,fun b xs e=>kb b _ e fun z=>?_,fun b o u e=>kb b _ e fun z=>?_,fun b qs e=>?_⟩ hok'
  ·by_cases hb:b=T
   ·subst hb;exact⟨_,Heap.get?_push_of_some _ htb⟩
   ·exact⟨o,keep b o hb e⟩
  ·rw[z,hT] at e;cases e
  ·rw[z,hT] at e;cases e
  ·by_cases hb:b=T
   ·subst hb
    rw[hT] at e;cases e
    exact⟨_,eT⟩
   ·exact⟨#[],by rw[kb b _ e hb];simp⟩
 ·refine PySem.W.kla_makeFunctionHit (mg:=X.mg) hcl I.ok.glob hg hcode BK qD ht hc' wu fun ctv h' tk hk hsz=>?_
  have nf:H h'.objs.size=none:=I.hok.fresh hsz
  have keep:∀b o,s.heap.get? b=some o→(h'.push (lamO X params body scope clos c' ctv)).get? b=some o:=fun b o e=>Heap.get?_push_of_some _ (hk b o e)
  have kb:Same H (upd H h'.objs.size (j7 h'.objs.size (lamO X params body scope clos c' ctv))):=fun b o e=>by rw[ak (aj e nf)];exact e
  refine⟨.ref h'.objs.size,upd H h'.objs.size (j7 h'.objs.size (lamO X params body scope clos c' ctv)),I.laid keep hsz (qC (Heap.get?_push_size _ rfl)),rfl,h _ c' ctv _ nf af (kb _ _ IA) (Tab.same ⟨ps,hT,ht,htab⟩ kb) fun b o e _=>kb b o e⟩
end
def df (D:List Addr) (H:Hp):Hp:=fun b=>if b∈D then none else H b
def gJ (D:List Addr) (H H2:Hp):Hp:=fun b=>if b∈D then H b else H2 b
theorem lh {D:List Addr} {H:Hp} {b:Addr} (h:b∈D):df D H b=none:=if_pos h
theorem gK {D:List Addr} {H:Hp} {b:Addr} (h:b ∉ D):df D H b=H b:=if_neg h
theorem yV {D:List Addr} {H H2:Hp} {b:Addr} (h:b∈D):gJ D H H2 b=H b:=if_pos h
theorem dP {D:List Addr} {H H2:Hp} {b:Addr} (h:b ∉ D):gJ D H H2 b=H2 b:=if_neg h
def wide (h:Heap) (H:Hp) (fs:List Addr):Heap:=PySem.W.hideAll (jz h H) fs
theorem BM (h:Heap) (H:Hp) (fs:List Addr):(wide h H fs).objs.size=h.objs.size:=(PySem.W.hideAll_size _ _).trans (tH _ _)
theorem pQ {h:Heap} {H:Hp} {fs:List Addr} {b:Addr} {o:Obj} (e:h.get? b=some o) (n:H b=none) (nf:b ∉ fs):(wide h H fs).get? b=some o:=PySem.W.hideAll_get _ (vD e n) nf
theorem GL {h:Heap} {H:Hp} {fs:List Addr} {b:Addr} {o:Obj} (e:(wide h H fs).get? b=some o):h.get? b=some o∧H b=none:=yx (PySem.W.of_hideAll fs e)
theorem BN {h:Heap} {H:Hp} {fs:List Addr} {b:Addr} (hb:b∈fs):(wide h H fs).get? b=none:=PySem.W.hideAll_none fs hb
theorem funFrames_base {h base base':Heap}:∀{l:List Env},h.FunFrames base l→(∀b∈frs l,base'.get? b=none)→h.FunFrames base' l
 | [],_,_=>trivial
 | env::r,⟨hk,⟨L,o,hf,hn,ho,hd⟩,hr⟩,k=>by
  have e:frs (env::r)=L::frs r:=by unfold frs;rw[List.filterMap_cons,hf]
  exact⟨hk,⟨L,o,hf,k L (by rw[e];exact List.mem_cons_self),ho,hd⟩,funFrames_base hr fun b hb=>k b (by rw[e];exact List.mem_cons_of_mem _ hb)⟩
structure Wide (X:Cx) (σ:St) (D:List Addr) (H:Hp) (base':Heap):Prop where
 sub:∀b o,X.base.get? b=some o→base'.get? b=some o
 mod:Mod X.K X.mg base'
 ext:∀a φ,a∈D→H a=some (.ext φ)→φ base'
 val:∀(i:Nat) (x:Str) (v:V),X.N[i]? =some x→σ[i]? =some (some v)→X.env.scope.names.lookup x=some .cell→∃c u,X.env.cells.lookup x=some c∧base'.IsCell c (some u)∧RelV v u
 cell:∀x c,X.env.cells.lookup x=some c→∃v,base'.IsCell c v
 inj:∀x y c,X.env.cells.lookup x=some c→X.env.cells.lookup y=some c→x=y
section
variable {X:Cx} {k:Nat} {f:Addr} {fd:FuncData} {ps:List Str} {sp:Sp} {pins:List (Addr×Obj)} {σ:St} {H:Hp} {s:Shared} {D:List Addr}
theorem yW (I:Inv X pins σ H s) (hfn:∀x,X.fn x=true) (hD:∀a∈D,∃φ,H a=some (.ext φ)):Wide X σ D H (wide s.heap (df D H) (frs X.stack)):=by
 have nD:∀b,H b=none→b ∉ D:=fun b n z=>by obtain⟨φ,e⟩:=hD b z;rw[n] at e;cases e
 have Tn:∀b o,X.base.get? b=some o→b ∉ frs X.stack:=fun b o e z=>by
  rcases List.mem_cons.mp (I.m9 b z) with q | q
  ·have:=Heap.lt_size e
   rw[q] at this
   exact absurd (Nat.lt_of_lt_of_le this (Nat.le_trans I.ok.m8 I.ok.above)) (Nat.lt_irrefl _)
  ·exact I.ok.Hq e q
 have sub:∀b o,X.base.get? b=some o→(wide s.heap (df D H) (frs X.stack)).get? b=some o:=fun b o e=>
  pQ (I.bs b o e).1 (by rw[gK (nD b (I.bs b o e).2)];exact(I.bs b o e).2) (Tn b o e)
 have cellK:∀x c v,X.env.cells.lookup x=some c→s.heap.IsCell c v→(wide s.heap (df D H) (frs X.stack)).IsCell c v:=fun x c v e ⟨o,ho,hd⟩=>by
  refine⟨o,pQ ho (by rw[gK (nD c (I.fM x c e))];exact I.fM x c e) fun z=>?_,hd⟩
  rcases List.mem_cons.mp (I.m9 c z) with q | q
  ·exact I.tJ x c e q
  ·obtain⟨_,o',ho',_⟩:=I.ok.g_.mem q
   exact absurd (Nat.lt_of_lt_of_le (Heap.lt_size ho') (I.ok.cab x c (hfn x) e)) (Nat.lt_irrefl _)
 refine⟨sub,⟨I.ok.mod.m7.keeps sub,I.ok.mod.glob.keeps sub,?_,I.ok.mod.nolimit.keeps sub⟩,fun a φ ha e=>?_,fun i x v h1 h2 h3=>?_,fun x c e=>?_,I.ok.inj⟩
 ·obtain⟨mb,h1,h2⟩:=I.ok.mod.blt
  exact⟨mb,h1.keeps sub,h2⟩
 ·obtain⟨p,⟨o,ho⟩,st⟩:=I.hok a _ e
  refine st _ _ p fun o' e'=>pQ e' (lh ha) fun z=>?_
  rw[I.kJ a z] at e;cases e
 ·obtain⟨m,_,hl⟩:=I.loc
  obtain⟨u,r,l⟩:=hl i x v h1 h2 (.inr (.inl h3))
  rcases l with⟨q,_⟩ | ⟨_,c,e,z⟩
  ·have q':X.env.scope.names.lookup x=some .local:=q
   rw[h3] at q';cases q'
  ·exact⟨c,u,e,cellK x c _ e z,r⟩
 ·obtain⟨v,z⟩:=I.cell x c e
  exact⟨v,cellK x c v e z⟩
theorem GN {Q:VK} {us:List Value} {vs:List V} (I:Inv X pins σ H s) (hfn:∀x,X.fn x=true) (hD:∀a∈D,∃φ,H a=some (.ext φ)) (F:aQ X.prog X.w X.K X.mg (wide s.heap (df D H) (frs X.stack)) bj k f fd ps sp) (hr:aP k X.A)
  (hb:Binds X.K fd ps []) (r:Vals vs us) (h:sp vs (df D H) (fun v H2=>(∀b∈D,H2 b=none)→Q v (gJ D H H2)) E0):wpAny (model X.prog X.w) X.A (call (.ref f) us) (EP X pins σ Q) X.xe s:=by
 have W:=yW I hfn hD
 have hl:(us++[]).length=ps.length:=by rw[List.append_nil,←r.length];exact F.len _ _ _ _ h
 have qE:∀b u,H b=some u→(∀φ,u≠.ext φ)→df D H b=some u:=fun b u e ne=>by
  rw[gK fun z=>?_];exact e
  obtain⟨φ,q⟩:=hD b z
  rw[e] at q;cases q;exact ne φ rfl
 have uU:∀b u,df D H b=some u→b ∉ D∧H b=some u:=fun b u e=>by
  by_cases hb:b∈D
  ·rw[lh hb] at e;cases e
  ·rw[gK hb] at e;exact⟨hb,e⟩
 have O_:cC X.prog X.w (df D H) s.heap:=fun b u e=>(I.hok b u (uU b u e).2).stay (fun _ _ _ q=>q) (fun d q=>qE d _ q fun φ z=>nomatch z) fun d xs q=>qE d _ q fun φ z=>nomatch z
 have nU:∀b,H b=none→df D H b=none:=fun b n=>by
  by_cases hb:b∈D
  ·exact lh hb
  ·rw[gK hb];exact n
 have e0:pH X.prog X.w X.K X.mg (wide s.heap (df D H) (frs X.stack)) X.A X.stack s (df D H):=
  ⟨I.ok.frames,W.mod,fun b o e=>GL e,Nat.le_of_eq (BM _ _ _),funFrames_base I.stack fun b hb=>BN hb,fun b hb=>nU b (I.kJ b hb),O_,I.bare⟩
 refine wpAny_call (codeAny_mono (F.run X.A X.stack s (df D H) ⟨us,[]⟩ us vs _ _ hr e0 (by have:=hb s us I.gb hl;rwa [List.append_nil] at this) r h) fun r s' hq=>?_)
 cases r with
 | error e=>exact hq.elim
 | ok fl=>
  cases fl with
  | next=>exact False.elim hq
  | brk=>exact False.elim hq
  | cont=>exact False.elim hq
  | ret u=>
   obtain⟨v,H2,os,bare,un,hok,r,q⟩:=hq
   have inD:∀b,b∈D→∃φ o,H b=some (.ext φ)∧s.heap.get? b=some o∧s'.heap.get? b=some o∧H2 b=none:=fun b hb=>by
    obtain⟨φ,e⟩:=hD b hb
    obtain⟨p,⟨o,ho⟩,st⟩:=I.hok b _ e
    refine⟨φ,o,e,ho,un.keep b o ho (lh hb) (fun z=>?_) (by simp),un.free b o ho (lh hb) (by simp)⟩
    rw[I.kJ b z] at e;cases e
   have Nd:∀b u,H2 b=some u→b ∉ D:=fun b u e z=>by obtain⟨_,_,_,_,_,n⟩:=inD b z;rw[n] at e;cases e
   have O0:cC X.prog X.w (gJ D H H2) s'.heap:=fun b u e=>by
    by_cases hb:b∈D
    ·rw[yV hb] at e
     obtain⟨φ,o,e1,ho,ho',_⟩:=inD b hb
     rw[e1] at e;cases e
     obtain⟨p,_,st⟩:=I.hok b _ e1
     exact⟨st _ _ p fun o2 e2=>by rw[ho] at e2;cases e2;exact ho',⟨o,ho'⟩,st⟩
    ·rw[dP hb] at e
     exact(hok b u e).stay (fun _ _ _ q=>q) (fun d q=>by rw[dP (Nd d _ q)];exact q) fun d xs q=>by rw[dP (Nd d _ q)];exact q
   have To:Un (frs X.stack) [] H (gJ D H H2) s.heap s'.heap:=by
    have nD:∀b,H b=none→b ∉ D:=fun b n z=>by obtain⟨φ,e⟩:=hD b z;rw[n] at e;cases e
    refine⟨fun b o e n h1 h2=>un.keep b o e (nU b n) h1 h2,fun b o e n h1 h2=>un.slot b o e (nU b n) h1 h2,fun b o e n h2=>by rw[dP (nD b n)];exact un.free b o e (nU b n) h2,un.there,fun b xs e=>?_,fun b o u e=>?_,fun b qs e=>?_⟩
    ·have e1:=qE b _ e fun φ z=>nomatch z
     rw[dP (uU b _ e1).1];exact un.tups b xs e1
    ·have e1:=qE b _ e fun φ z=>nomatch z
     rw[dP (uU b _ e1).1];exact un.jx b o u e1
    ·have e1:=qE b _ e fun φ z=>nomatch z
     rw[dP (uU b _ e1).1];exact un.jy b qs e1
   exact I.after ⟨v,_,os,bare,To,O0,r,q fun b hb=>by obtain⟨_,_,_,_,_,n⟩:=inD b hb;exact n⟩
end
section
variable {X:Cx} {x:Str} {p pos:Pos} {e:Expr} {es:List Expr} {t:TA} {k:Nat} {f:Addr} {fd:FuncData} {ps:List Str}
def IC (X:Cx) (k:Nat) (f:Addr) (fd:FuncData) (ps:List Str) (t:TA):TE:=fun σ H Q=>t σ H fun vs H1=>∃D:List Addr,(∀a∈D,∃φ,H1 a=some (.ext φ))∧
 ∀base':Heap,Wide X σ D H1 base'→∃sp:Sp,aQ X.prog X.w X.K X.mg base' bj k f fd ps sp∧sp vs (df D H1) (fun v H2=>(∀b∈D,H2 b=none)→Q v (gJ D H1 H2)) E0
theorem wx (hfn:∀x,X.fn x=true) (hr:aP k X.A) (hg:Gl X x) (hm:X.mg x=some (.ref f)) (hk:PySem.W.keepIn X.K (.ref f)=true) (hb:Binds X.K fd ps [])
  (ha:PA X (e::es) t) (hdb:(x == ("__debug__":Str))=false:=by decide) (he:starEach (e::es) X.env=(false,eval e X.env)::starEach es X.env:=by rfl) (hpl:(backTo pos (starEach es X.env)).any (·.1)=false:=by rfl):
  PE X (.Call (.Name x p) (e::es) [] pos) (IC X k f fd ps t):=by
 intro pins s σ H Q I h
 refine wpAny_Call_Name_kw (rE I hg hm ?_ hdb)
 refine PySem.W.callWith_K (h₀:=X.base) I.ok.mod.m7 hk (aE (ha pos pins s σ H _ I h) fun us s1 ⟨vs,H1,I1,r,D,hD,q⟩=>⟨I1.gb,?_⟩) he hpl
 obtain⟨sp,F,hsp⟩:=q _ (yW I1 hfn hD)
 exact GN I1 hfn hD F hr hb r hsp
end
def oQ (ts:List Addr) (H:Hp):Prop:=(∀b,H b=none∨(∃o xs,H b=some (.iP o (.lst xs)))∨(b∈ts∧H b=some (.f' #[])))∧∀b∈ts,H b=some (.f' #[])
theorem oQ.tab {ts:List Addr} {H:Hp} {T:Addr} {L:List (Pos×Str)} (x:oQ ts H) (h:T∈ts):Tab H T L:=⟨#[],x.2 T h,trivial,fun p _=>.inl rfl⟩
theorem BO {P:Program} {w:World} {K:PySem.W.Frag} {mg mb:Str→Option Value} {CX:o6} {k:Nat} {fa a:Addr} {fd:FuncData} {x:Str} {sp:Sp} {s₁:Shared} {vs:List Value} {ns:List Int} {ts:List Addr}
  (KX:K.In s₁.heap) (hns:s₁.heap.Ns mainGlobals mg) (hb:s₁.heap.Ns builtinsNs mb) (hbb:∀x:Str,x≠"__name__"→mb x=bootBuiltins x) (hlim:s₁.heap.NoLimit) (hg:s₁.gens= #[])
  (ha:s₁.heap.get? a=some {cls:=.type "list",data:=.seq vs.toArray}) (hi:IntsAre vs ns) (hl:ns.length≤sizeLine) (hr:aP k callerA)
  (hts:∀T∈ts,(∃c,PySem.W.CodeHd s₁.heap c T)∧s₁.heap.get? T=some (PySem.W.tabObj #[])∧K.lookup T=none) (wu:dW mg s₁.heap)
  (F:∀base:Heap,K.In base→base.Ns mainGlobals mg→dW mg base→aQ P w K mg base CX k fa fd [x] sp) (hbind:∀(s:Shared) (u:Value),BindsTo s fd ⟨[u],[]⟩ [(x,u)])
  (hsp:∀H:Hp,oQ ts H→bp K H a (ns.map V.int)→sp [.ref a] H (fun v _=>v=.bl true) fun _ _ _=>False)
  (Tp:∀H e s',CX [] H s₁ (fun _ _ _=>False) e s'→False):
  codeAny (model P w) callerA (.call (.ref fa) ⟨[.ref a],[]⟩) (fun r s'=>r=.ok (.ret (.bool true))∧OldK s₁.heap s'.heap∧s'.os=s₁.os∧AllBare s'.gens) s₁:=by
 have rv:=tT hi
 have lenV:=hi.length
 have aT:a ∉ ts:=fun z=>by
  have:=(hts a z).2.1
  rw[ha] at this;cases this
 have core:∀H:Hp,oQ ts H→bp K H a (ns.map V.int)→cC P w H s₁.heap→(∀b,H b≠none→b=a∨b∈ts)→(H a≠none→K.lookup a=none)→
   codeAny (model P w) callerA (.call (.ref fa) ⟨[.ref a],[]⟩) (fun r s'=>r=.ok (.ret (.bool true))∧OldK s₁.heap s'.heap∧s'.os=s₁.os∧AllBare s'.gens) s₁:=by
  intro H hO hS hok hA hK
  have rS:∀{b:Addr} {o:Obj},s₁.heap.get? b=some o→H b=none→(jz s₁.heap H).get? b=some o:=fun e n=>vD e n
  have j0:∀{b:Addr} {o:Obj},s₁.heap.get? b=some o→o≠{cls:=.type "list",data:=.seq vs.toArray}→o≠PySem.W.tabObj #[]→H b=none:=fun {b o} e d1 d2=>by
   cases q:H b with
   | none=>rfl
   | some u=>
    rcases hA b (by rw[q];simp) with e' | e'
    ·subst e'
     rw[ha] at e;cases e
     exact absurd rfl d1
    ·have:=(hts b e').2.1
     rw[e] at this;cases this
     exact absurd rfl d2
  have Fg:∀{b:Addr} {m:Str→Option Value},s₁.heap.Ns b m→(jz s₁.heap H).Ns b m:=fun {b m} ⟨o,es,ep,e,d,r⟩=>⟨o,es,ep,rS e (j0 e (fun z=>by rw[z] at d;cases d) fun z=>by rw[z] at d;cases d),d,r⟩
  have Nf:K.In (jz s₁.heap H):=fun b o e=>rS (KX b o e) (by
   cases q:H b with
   | none=>rfl
   | some u=>
    rcases hA b (by rw[q];simp) with e' | e'
    ·subst e'
     rw[hK (by rw[q];simp)] at e;cases e
    ·rw[(hts b e').2.2] at e;cases e)
  have Tq:dW mg (jz s₁.heap H):=by
   obtain⟨bm,o,h1,h2,h3,h4,h5,h6⟩:=wu
   exact⟨bm,o,h1,h2,rS h3 (j0 h3 (fun z=>by rw[z] at h4;exact absurd (Value.type.inj h4) (by decide)) fun z=>by rw[z] at h4;cases h4),h4,h5,h6⟩
  have hM:Mod K mg (jz s₁.heap H):=⟨Nf,Fg hns,⟨mb,Fg hb,hbb⟩,let ⟨mc,h1,h2⟩:=hlim;⟨mc,Fg h1,h2⟩⟩
  have e0:pH P w K mg (jz s₁.heap H) callerA [] s₁ H:=⟨rfl,hM,fun b o e=>yx e,Nat.le_of_eq (tH _ _),trivial,fun b hb=>absurd (show b∈([]:List Addr) from hb) (by simp),hok,.of_eq hg⟩
  refine codeAny_mono ((F _ Nf (Fg hns) Tq).run callerA [] s₁ H ⟨[.ref a],[]⟩ [.ref a] [.ref a] _ _ hr e0 (hbind s₁ (.ref a)) (.cons rfl .nil) (hsp H hO hS)) fun r s' h=>?_
  cases r with
  | error e=>exact(Tp H e s' h).elim
  | ok fl=>
   cases fl with
   | next=>exact False.elim h
   | brk=>exact False.elim h
   | cont=>exact False.elim h
   | ret u=>
    obtain⟨v,H',os,bare,un,hok',r',q⟩:=h
    have q':v=.bl true:=q
    subst q'
    obtain rfl:u=Value.bool true:=r'
    refine⟨rfl,⟨fun b o e=>?_,fun b o e=>un.there b o e (by simp)⟩,os,bare⟩
    cases q:H b with
    | none=>exact .inl (un.keep b o e q (by intro z;exact absurd (show b∈([]:List Addr) from z) (by simp)) (by simp))
    | some u=>
     rcases hO.1 b with z | ⟨ob,xs,z⟩ | ⟨hb,z⟩
     ·rw[q] at z;cases z
     ·have z2:=un.jx b ob _ z
      obtain⟨e1,_⟩:=hok b _ z
      obtain⟨e2,_⟩:=hok' b _ z2
      rw[e] at e1;cases e1
      exact .inl e2
     ·obtain⟨more,z2⟩:=un.jy b _ z
      have e2:s'.heap.get? b=some (PySem.W.tabObj (#[]++more)):=hok' b _ z2
      obtain⟨⟨c,hc⟩,e3,_⟩:=hts b hb
      have e4:o=PySem.W.tabObj #[]:=by rw[e] at e3;exact Option.some.inj e3
      subst e4
      exact .inr (.inl ⟨(hc.tab e3).isCodeTable,rfl, #[],more,rfl,e2⟩)
 have WL:∀T∈ts,T≠a:=fun T hT z=>aT (z▸hT)
 cases hk:K.lookup a with
 | some o=>
  have e:=KX a o hk
  rw[ha] at e
  cases e
  refine core (fun b=>if b∈ts then some (.f' #[]) else none) ⟨fun b=>?_,fun b hb=>if_pos hb⟩ (.inr ⟨_,vs.toArray,_,hk,rfl,rfl,rfl,by rw[List.size_toArray,lenV];exact hl,by simpa using rv⟩) (fun b u z=>?_) (fun b z=>?_) fun z=>absurd (if_neg aT) z
  ·by_cases hb:b∈ts
   ·exact .inr (.inr ⟨hb,if_pos hb⟩)
   ·exact .inl (if_neg hb)
  ·by_cases hb:b∈ts
   ·have z':=(if_pos hb).symm.trans z
    cases z'
    exact(hts b hb).2.1
   ·have z':=(if_neg hb).symm.trans z
    cases z'
  ·by_cases hb:b∈ts
   ·exact .inr hb
   ·exact absurd (if_neg hb) z
 | none=>
  have eA:∀b,b=a→(if b∈ts then some (HO.f' #[]) else if b=a then some (HO.iP {cls:=.type "list",data:=.seq vs.toArray} (.lst (ns.map V.int))) else none)=some (HO.iP {cls:=.type "list",data:=.seq vs.toArray} (.lst (ns.map V.int))):=fun b hb=>by
   rw[if_neg (hb▸aT),if_pos hb]
  have eN:∀b,b ∉ ts→b≠a→(if b∈ts then some (HO.f' #[]) else if b=a then some (HO.iP {cls:=.type "list",data:=.seq vs.toArray} (.lst (ns.map V.int))) else none)=none:=fun b h1 h2=>by
   rw[if_neg h1,if_neg h2]
  refine core (fun b=>if b∈ts then some (.f' #[]) else if b=a then some (.iP {cls:=.type "list",data:=.seq vs.toArray} (.lst (ns.map V.int))) else none) ⟨fun b=>?_,fun b hb=>if_pos hb⟩ (.inl (.inr ⟨{cls:=.type "list",data:=.seq vs.toArray},eA a rfl⟩)) (fun b u z=>?_) (fun b z=>?_) fun _=>hk
  ·by_cases hb:b∈ts
   ·exact .inr (.inr ⟨hb,if_pos hb⟩)
   by_cases hb2:b=a
   ·exact .inr (.inl ⟨_,_,eA b hb2⟩)
   ·exact .inl (eN b hb hb2)
  ·by_cases hb:b∈ts
   ·have z':=(if_pos hb).symm.trans z
    cases z'
    exact(hts b hb).2.1
   by_cases hb2:b=a
   ·have z':=(eA b hb2).symm.trans z
    cases z'
    subst hb2
    exact⟨ha,by rw[List.length_map];exact hl,vs,_,rv,ha⟩
   ·have z':=(eN b hb hb2).symm.trans z
    cases z'
  ·by_cases hb:b∈ts
   ·exact .inr hb
   by_cases hb2:b=a
   ·exact .inl hb2
   ·exact absurd (eN b hb hb2) z
theorem D4 {l:PySem.W.OpenLaw} {n k:Nat} {q:Program} {loose:List Str} {XP:(Str→Option Value)→Heap→Prop} {YP:World→Heap→Prop} {d:DefRec} {K:Params→PySem.W.Frag} {sp:World→List Addr→Sp} {x:Str}
  (hn:l.most=some n) (hn2:n≤sizeLine) (hdf:d.params.defaults=[]) (hr:aP k callerA)
  (hY:∀(w:World) (h:Heap),YP w h→(K w.params).In h)
  (F:∀(w:World) (mg:Str→Option Value) (fa:Addr) (h:Heap),(K w.params).In h→h.Ns mainGlobals mg→mg d.name=some (.ref fa)→YP w h→
   ∃(fd:FuncData) (ts:List Addr),(∀T∈ts,(∃c,PySem.W.CodeHd h c T)∧h.get? T=some (PySem.W.tabObj #[])∧(K w.params).lookup T=none)∧(∀(s:Shared) (u:Value),BindsTo s fd ⟨[u],[]⟩ [(x,u)])∧
    ∀base:Heap,(K w.params).In base→base.Ns mainGlobals mg→dW mg base→aQ l.prog w (K w.params) mg base bj k fa fd [x] (sp w ts))
  (hsp:∀(w:World) (H:Hp) (a:Addr) (ns:List Int) (ts:List Addr),ns.length≤n→oQ ts H→bp (K w.params) H a (ns.map V.int)→sp w ts [.ref a] H (fun v _=>v=.bl true) fun _ _ _=>False):
  PySem.W.WalkO q loose XP YP l.row.toRowW d [] (fun f vs=>PySem.call f vs):=by
 refine M_.yg hn hdf fun w s₀ s₁ mg mb fa o pm cd doc a vs ns G Y ho hd hcd hmg hobj hints hlen hg=>?_
 have KX:=hY w _ Y
 obtain⟨fd,ts,h1,hb,hF⟩:=F w mg fa _ KX G.T.g hmg Y
 obtain⟨bm,ob,b1,b2,b3,b4⟩:=G.T.bmain
 exact BO KX G.T.g G.T.b G.T.builtins G.T.nolimit hg hobj hints (Nat.le_trans hlen hn2) hr h1 ⟨bm,ob,b1,b2,b3,b4⟩ hF hb (fun H hO hS=>hsp w H a ns ts hlen hO hS) fun H e s'=>id
theorem jg:entryFor table "dict.update.loop"=some Builtin.«dict.update.loop» :=entryFor_of_tree (by kernel_rfl)
theorem dX:plainId "dict.update.loop"=true:=by decide+kernel
section
variable {P:Program} {w:World} {A:Around} {R:Result→Shared→Prop} {I D:Addr} {fp wr:List Addr} {G:Array GenState→Array GenState→Prop} {n:Nat} {Pv:Nat→Value→Prop} {St:Nat→Shared→Prop}
def GO (P:Program) (w:World) (h:Heap) (D:Addr) (wr:List Addr) (Pv:Nat→Value→Prop) (more:List (Key×Value)):Prop:=∀i v,Pv i v→∃p k key u o m,v=.ref p∧more[i]? =some (k,u)∧(bh P w).is k key=true∧h.get? p=some o∧o.cls=.type "tuple"∧o.data=.seq #[key,u] m∧p≠D∧p ∉ wr
theorem BP (W:WalksS P w A.in1 I fp wr G n Pv St) (hDf:D ∉ fp) (more:List (Key×Value)) (hml:more.length=n) (hb:n<sizeLine):
  ∀(k i:Nat) (j:Int) (s:Shared),n-i=k→i≤n→St i s→GO P w s.heap D wr Pv more→s.heap.DictOf (bh P w) D (merged [] (more.take i))→
   (∀s',Moved (D::wr) G s s'→s'.heap.DictOf (bh P w) D (merged [] more)→R (.ok (.ret .none)) s')→
   codeAny (model P w) A (.builtin "dict.update.loop" ⟨[.ref D,.ref I,rawInt j,.none],[]⟩) R s:=by
 have hDw:D ∉ wr:=fun z=>hDf (W.sub _ z)
 have sub:∀b∈wr,b∈D::wr:=fun b z=>List.mem_cons_of_mem _ z
 intro k
 induction k with
 | zero=>
  intro i j s hk hi st hp hd hR
  have e:i=n:=by omega
  subst e
  refine codeAny_builtin jg ?_
  rw[Around.under_plainId dX]
  show wpAny (model P w) A.in1 (pyNext (.ref I) >>= _) _ _ s
  refine wpAny_bind (W.done s _ _ st fun s' mv=>?_)
  show wpAny (model P w) A.in1 (Builtin.Dict.addKeywords D [] >>= _) _ _ s'
  refine wpAny_bind (wpAny_pure ?_)
  refine wpAny_pure (hR s' (mv.mono sub) ?_)
  obtain⟨o,es,ep,ho,r⟩:=hd
  rw[List.take_of_length_le (by omega)] at r
  exact⟨o,es,ep,mv.heap D o hDw ho,r⟩
 | succ k ih=>
  intro i j s hk hi st hp hd hR
  have lt:i<n:=by omega
  refine codeAny_builtin jg ?_
  rw[Around.under_plainId dX]
  show wpAny (model P w) A.in1 (pyNext (.ref I) >>= _) _ _ s
  refine wpAny_bind (W.item i s _ _ lt st fun v s' hv st' mv=>?_)
  obtain⟨p,kk,key,u,o,m,rfl,em,hkey,ho,hc,hdat,pD,pw⟩:=hp i v hv
  have ho':=mv.heap p o pw ho
  have hd':s'.heap.DictOf (bh P w) D (merged [] (more.take i)):=by
   obtain⟨od,es,ep,hod,r⟩:=hd
   exact⟨od,es,ep,mv.heap D od hDw hod,r⟩
  have hT:s'.TypeIs (.ref p) "tuple":=⟨o,ho',hc⟩
  have hl:(merged [] (more.take i)).length≤sizeLine:=by
   have:=merged_length_le ([]:List (Key×Value)) (more.take i)
   rw[List.length_take] at this
   simp at this
   omega
  refine wpAny_bind (wpAny_holding ?_)
  refine wpAny_bind (wpAny_tryCatch ?_)
  unfold Builtin.Dict.pairItems
  refine wpAny_bind (wpAny_typeOf hT ?_)
  show wpAny _ _ (seqItems? (.ref p) >>= _) _ _ _
  refine wpAny_bind (wpAny_seqItems ho' hdat (wpAny_pure ?_))
  show wpAny _ _ (holding [key,u] (dictSet D key u)) _ _ _
  refine wpAny_holding (wpAny_dictSet_pairs (hsz:=hl) hkey hd' fun h' hd2 hs=>?_)
  refine wpAny_pure ⟨plainId_quiet dX _,ih (i+1) (j+1) _ (by omega) lt (W.frame _ s' h' _ st' (Nat.le_succ _) fun b hb o q=>(hs.2 b (fun z=>hDf (z▸hb))).trans q) (fun i2 v2 hv2=>?_) ?_ fun s2 mv2 d2=>?_⟩
  ·obtain⟨p2,k2,key2,u2,o2,m2,e1,e2,e3,e4,e5,e6,e7,e8⟩:=hp i2 v2 hv2
   exact⟨p2,k2,key2,u2,o2,m2,e1,e2,e3,(hs.2 p2 e7).trans (mv.heap p2 o2 e8 e4),e5,e6,e7,e8⟩
  ·show h'.DictOf (bh P w) D (merged [] (more.take (i+1)))
   rw[merged_take_succ [] more i (kk,u) em]
   exact hd2
  ·exact hR s2 (Moved.trans W.gtrans ((mv.mono sub).then_heap (Nat.le_succ _) fun b o hb q=>(hs.2 b (fun z=>hb (z▸List.mem_cons_self))).trans q) mv2) d2
end
theorem IE {c:TT} {tb:TS} {D:Ends} {σ:St} {H:Hp} (W:Nat→St→Hp→Prop) (h0:∃m,W m σ H)
  (hs:∀m σ H,W m σ H→c σ H fun b H1=>if b=true then tb {D with nx:=fun σ' H'=>∃m',m'<m∧W m' σ' H',ct:=fun σ' H'=>∃m',m'<m∧W m' σ' H',bk:=D.nx} σ H1 else D.nx σ H1)
  (mono:∀σ H Q Q',(∀b H1,Q b H1→Q' b H1)→c σ H Q→c σ H Q'):nh c tb D σ H:=by
 refine⟨W,h0,fun m σ H w=>mono σ H _ _ (fun b H1 q=>?_) (hs m σ H w)⟩
 cases b with
 | true=>exact⟨_,fun σ' H' p=>p,q⟩
 | false=>exact q
structure i6 (K:PySem.W.Frag) (x qual:Str) (st:Stmt) (f:Addr) (fd:FuncData) (cd:Value):Prop where
 ex:∃(oc:Value) (od:Option Addr) (dV kV doc pm:Value) (an:Option Addr) (ct:Value) (osl:Array (Option Value)),
  fd=PySem.W.fnOf x qual (aA st) (ax st) (ah st) dV kV doc pm an cd ct∧K.lookup f=some ⟨oc,od,.func fd,osl⟩∧PySem.W.codeIn K cd qual=true
 kp:PySem.W.keepIn K (.ref f)=true
section
variable {P:Program} {w:World} {K:PySem.W.Frag} {mg:Str→Option Value} {base:Heap}
theorem i6.ok {x qual:Str} {st:Stmt} {f:Addr} {fd:FuncData} {cd:Value} {N ps:List Str} {k:Nat} {sp:Sp} (F:i6 K x qual st f fd cd) (S:aO N ps (ah st)) (len:∀vs H Q E,sp vs H Q E→vs.length=ps.length)
  (hbody:∀(A:Around) (outer:List Env) (s:Shared) (H:Hp) (vs:List V) (Q:VK) (E:XK),aP k (A.deeper (envOfC qual (ah st) s.heap.objs.size f cd))→sp vs H Q E→
   ∃t,jf (i4 bj P w K mg base N qual (ah st) f cd A outer s H E).o4 (ax st) t∧t {nx:=fun _ H'=>Q .non H',rt:=Q} (start N vs) H):aQ P w K mg base bj (k+1) f fd ps sp:=by
 obtain⟨oc,od,dV,kV,doc,pm,an,ct,osl,rfl,lk,hcd⟩:=F.ex
 refine E4 lk hcd S len fun A outer s H vs Q E hr hsp=>?_
 obtain⟨t,h,q⟩:=hbody A outer s H vs Q E hr hsp
 exact⟨t,h.o4,q⟩
theorem ik {x qual:Str} {st:Stmt} {f:Addr} {oc:Value} {od an:Option Addr} {osl:Array (Option Value)} {dV kV doc pm cd ct:Value} (l:K.lookup f=some ⟨oc,od,.func (PySem.W.fnOf x qual (aA st) (ax st) (ah st) dV kV doc pm an cd ct),osl⟩)
  (c:PySem.W.codeIn K cd qual=true) (k:PySem.W.keepIn K (.ref f)=true):i6 K x qual st f (PySem.W.fnOf x qual (aA st) (ax st) (ah st) dV kV doc pm an cd ct) cd:=⟨⟨oc,od,dV,kV,doc,pm,an,ct,osl,rfl,l,c⟩,k⟩
end
section
variable {X:Cx} {pos:Pos} {params:Arguments} {body:Expr} {scope:Scope} {c T:Addr} {clos:List (Str×Addr)} {L:List (Pos×Str)}
theorem oR (hcode:X.env.code=.ref c) (hC:PySem.W.codeHdIn X.K c T=true) (hB:dW X.mg X.base) (hcl:closureFor scope X.env=pure clos) (hdef:defaultsOf params X.env=([],[])) (hL:(pos,X.env.qual++"<lambda>")∈L) (ap:Apart L) (hfs:X.ex=[]):
  PE X (.Lambda params body scope pos) (Iw X params body scope clos T L):=fun pins s σ H Q I h=>Iy hcode (PySem.W.codeHd_of_K I.ok.mod.m7 hC) hB hcl hdef hL ap hfs pins s σ H Q I h
theorem iX {K:PySem.W.Frag} {c T:Addr} {od:Option Addr} {vs:Array Value} {sl:Array (Option Value)} (lc:K.lookup c=some ⟨.type "code",od,.fields vs,sl⟩)
  (e:((match (vs[11]? :Option Value) with | some (.ref P')=>P' == T | _=>false)&&(match vs.getD 18 .none with | .str _ _=>true | _=>false)&&(match vs.getD 7 .none with | .int _ _=>true | _=>false)&&
   (match vs.getD 9 .none with | .bool _=>true | _=>false)&&(match vs.getD 10 .none with | .int _ _=>true | _=>false)&&c != T)=true):PySem.W.codeHdIn K c T=true:=by
 unfold PySem.W.codeHdIn
 rw[lc]
 exact e
end
def kvsOf {α κ:Type} (key:α→κ) (xs:List α):List (κ×V):=xs.zipIdx.map fun p=>(key p.1,V.int ((p.2:Nat):Int))
section
variable {α κ:Type} [DecidableEq κ] {key:α→κ}
theorem BQ (xs:List α):(kvsOf key xs).length=xs.length:=by unfold kvsOf;rw[List.length_map,List.length_zipIdx]
theorem qF (xs:List α) (x:α):kvsOf key (xs++[x])=kvsOf key xs++[(key x,V.int ((xs.length:Nat):Int))]:=by
 unfold kvsOf
 rw[List.zipIdx_append,List.map_append]
 simp
theorem nF:∀{kvs:List (κ×V)} {k:κ},(∀p∈kvs,p.1≠k)→aV kvs k=none
 | [],_,_=>rfl
 | p::r,k,h=>by rw[br (h p List.mem_cons_self)];exact nF fun q hq=>h q (List.mem_cons_of_mem _ hq)
theorem md (inj:∀a b,key a=key b→a=b) {xs:List α} {x:α} (h:x ∉ xs):aV (kvsOf key xs) (key x)=none:=by
 refine nF fun p hp e=>h ?_
 unfold kvsOf at hp
 obtain⟨q,hq,rfl⟩:=List.mem_map.mp hp
 obtain⟨y,i⟩:=q
 have:=(List.mem_zipIdx hq).2.2
 have e':=inj _ _ e
 rw[←e',this]
 exact List.getElem_mem ..
theorem pR {kvs more:List (κ×V)} {k:κ} (h:aV kvs k=none):aV (kvs++more) k=aV more k:=by
 induction kvs with
 | nil=>rfl
 | cons p r ih=>
  by_cases e:p.1=k
  ·rw[bJ e] at h;cases h
  ·rw[br e] at h
   show aV (p::(r++more)) k=_
   rw[br e];exact ih h
theorem pS {kvs more:List (κ×V)} {k:κ} {v:V} (h:aV kvs k=some v):aV (kvs++more) k=some v:=by
 induction kvs with
 | nil=>cases h
 | cons p r ih=>
  by_cases e:p.1=k
  ·rw[bJ e] at h
   show aV (p::(r++more)) k=_
   rw[bJ e];exact h
  ·rw[br e] at h
   show aV (p::(r++more)) k=_
   rw[br e];exact ih h
theorem qG (inj:∀a b,key a=key b→a=b):∀(n:Nat) {xs:List α} {i:Nat} {x:α},xs.length=n→xs.Nodup→xs[i]? =some x→aV (kvsOf key xs) (key x)=some (.int ((i:Nat):Int))
 | 0,xs,i,x,hl,_,h=>by
  have:=(List.getElem?_eq_some_iff.mp h).1
  omega
 | n+1,xs,i,x,hl,nd,h=>by
  rcases List.eq_nil_or_concat xs with rfl | ⟨ys,y,e⟩
  ·simp at hl
  rw[List.concat_eq_append] at e
  subst e
  rw[qF]
  have hy:y ∉ ys:=fun z=>((List.nodup_append.mp nd).2.2 y z y (List.mem_singleton.mpr rfl)) rfl
  by_cases hi:i<ys.length
  ·rw[List.getElem?_append_left hi] at h
   exact pS (qG inj n (by simpa using hl) (List.nodup_append.mp nd).1 h)
  ·have hb:=(List.getElem?_eq_some_iff.mp h).1
   rw[List.length_append] at hb
   have hi2:i=ys.length:=by simp at hb;omega
   subst hi2
   rw[List.getElem?_append_right (Nat.le_refl _),Nat.sub_self] at h
   have:=Option.some.inj h
   subst this
   rw[pR (md inj hy)]
   exact bJ rfl
end
theorem eU.mk' {ps aB:List Str} {scope:Scope} (h1:scope.kind=.function) (h2:scope.isCoroutine=false) (h3:scope.isGenerator=false) (h4:∀x∈scope.names,x.2≠.cell) (h5:∀x∈ps,scope.names.lookup x=some .local) (h6:∀x∈aB,scope.names.lookup x=some .free)
  (h7:∀p∈scope.names,p.2=.free→p.1∈aB) (h8:(ps++aB).Nodup):eU ps aB scope:=⟨h1,h2,h3,h4,h5,h6,fun x e=>h7 (x,.free) (PySem.mem_of_lookup e) rfl,h8⟩
def FnAt (P:Program) (w:World) (K:PySem.W.Frag) (mg:Str→Option Value) (base:Heap) (k:Nat) (f:Addr) (n:Nat) (sp:Sp):Prop:=
 ∃(o:Obj) (fd:FuncData) (ps:List Str),base.get? f=some o∧o.data=.func fd∧ps.length=n∧(∀us:List Value,us.length=ps.length→bindArgs fd ⟨us,[]⟩=pure (ps.zip us))∧aQ P w K mg base bj k f fd ps sp
theorem j9 {D:List Addr} {H1 H2:Hp} (s:Same (df D H1) H2):Same H1 (gJ D H1 H2):=fun b o e=>by
 by_cases hb:b∈D
 ·rw[yV hb];exact e
 ·rw[dP hb];exact s _ _ (by rw[gK hb];exact e)
theorem wy {D:List Addr} {H:Hp} {b:Addr} {o:HO} (hD:∀a∈D,∃φ,H a=some (.ext φ)) (e:H b=some o) (hn:∀φ,o≠.ext φ):df D H b=some o:=by
 rw[gK fun z=>?_]
 ·exact e
 ·obtain⟨φ,q⟩:=hD b z
  rw[e] at q
  exact hn φ (Option.some.inj q)
def qH (c:Addr) (v:V):HO:=.ext fun h=>∃u,h.IsCell c (some u)∧RelV v u
theorem D5 {P:Program} {w:World} {H:Hp} {h:Heap} {c:Addr} {v:V} {u:Value} (e:h.IsCell c (some u)) (r:RelV v u):bq P w H h c (qH c v):=
 ⟨⟨u,e,r⟩,(let ⟨o,ho,_⟩:=e;⟨o,ho⟩),fun h1 h2 ⟨u,⟨o,ho,hd⟩,r⟩ k=>⟨u,⟨o,k o ho,hd⟩,r⟩⟩
def i7 (cs:List (Addr×V)) (H:Hp):Hp:=fun b=>match cs.lookup b with
 | some v=>some (qH b v)
 | none=>H b
theorem yX {cs:List (Addr×V)} {H:Hp} {b:Addr} {v:V} (h:cs.lookup b=some v):i7 cs H b=some (qH b v):=by unfold i7;rw[h]
theorem pT {cs:List (Addr×V)} {H:Hp} {b:Addr} (h:cs.lookup b=none):i7 cs H b=H b:=by unfold i7;rw[h]
theorem ka {cs:List (Addr×V)} {H:Hp} (h:∀c v,cs.lookup c=some v→H c=none):Same H (i7 cs H):=fun b o e=>by
 cases q:cs.lookup b with
 | none=>rw[pT q];exact e
 | some v=>rw[h b v q] at e;cases e
def gW (X:Cx) (σ:St) (cs:List (Addr×V)):Prop:=∀c v,cs.lookup c=some v→∃(i:Nat) (x:Str),X.N[i]? =some x∧σ[i]? =some (some v)∧X.env.scope.names.lookup x=some .cell∧X.env.cells.lookup x=some c
section
variable {X:Cx} {pins:List (Addr×Obj)} {σ:St} {H:Hp} {s:Shared} {cs:List (Addr×V)}
theorem gW.free (C:gW X σ cs) (I:Inv X pins σ H s):∀c v,cs.lookup c=some v→H c=none:=fun c v e=>by
 obtain⟨i,x,_,_,_,h⟩:=C c v e
 exact I.fM x c h
theorem gW.hok (C:gW X σ cs) (I:Inv X pins σ H s):cC X.prog X.w (i7 cs H) s.heap:=fun b u e=>by
 have sm:=ka (C.free I)
 cases q:cs.lookup b with
 | some v=>
  rw[yX q] at e
  cases e
  obtain⟨i,x,h1,h2,h3,h4⟩:=C b v q
  obtain⟨m,_,hl⟩:=I.loc
  obtain⟨u,r,l⟩:=hl i x v h1 h2 (.inr (.inl h3))
  rcases l with⟨z,_⟩ | ⟨_,c,e,z⟩
  ·have z':X.env.scope.names.lookup x=some .local:=z
   rw[h3] at z';cases z'
  ·rw[h4] at e;cases e
   exact D5 z r
 | none=>
  rw[pT q] at e
  exact(I.hok b u e).stay (fun _ _ _ z=>z) (fun d z=>sm _ _ z) fun d xs z=>sm _ _ z
theorem gW.un (C:gW X σ cs) (I:Inv X pins σ H s) (hfn:∀x,X.fn x=true) (hex:X.ex=[]):Un X.fs [] X.H₀ (i7 cs H) X.s₀.heap s.heap:=by
 have B:=I.base
 rw[hex] at B
 have sm:=ka (C.free I)
 refine⟨B.keep,B.slot,fun b o e n hx=>?_,B.there,fun b xs e=>sm _ _ (B.tups b xs e),fun b o xs e=>sm _ _ (B.jx b o xs e),fun b ps e=>?_⟩
 ·cases q:cs.lookup b with
  | none=>rw[pT q];exact B.free b o e n hx
  | some v=>
   obtain⟨i,x,_,_,_,h4⟩:=C b v q
   exact absurd (Nat.lt_of_lt_of_le (Heap.lt_size e) (I.ok.cab x b (hfn x) h4)) (Nat.lt_irrefl _)
 ·obtain⟨m,z⟩:=B.jy b ps e
  exact⟨m,sm _ _ z⟩
end
abbrev TB:=(St→V→Hp→Prop)→St→Hp→Prop
def Ts (X:Cx) (pins:List (Addr×Obj)) (R:St→V→Hp→Prop) (f:Flow) (s':Shared):Prop:=
 match f with
 | .ret u=>∃v σ' H',Inv X pins σ' H' s'∧RelV v u∧R σ' v H'
 | _=>False
def me (X:Cx) (st:List Stmt) (t:TB):Prop:=
 ∀(pins:List (Addr×Obj)) (s:Shared) (σ:St) (H:Hp) (R:St→V→Hp→Prop),Inv X pins σ H s→t R σ H→wpAny (model X.prog X.w) X.A (execs st X.env) (Ts X pins R) X.xe s
section
variable {X:Cx} {st:Stmt} {rest:List Stmt} {t:TS} {u:TB} {e:Expr} {te:TE} {pos:Pos}
theorem BR (he:PE X e te):me X [.Return (some e) pos] (fun R σ H=>te σ H (R σ)):=by
 intro pins s σ H R I h
 refine wpAny_execs_cons (wpAny_Return_some (aE (he pins s σ H _ I h) fun v s1 ⟨x,H1,I1,r1,q1⟩=>?_))
 exact⟨x,σ,H1,I1,r1,q1⟩
theorem jt (h1:PS X st t) (h2:me X rest u):me X (st::rest) (fun R σ H=>t {nx:=u R,rt:=fun _ _=>False} σ H):=by
 intro pins s σ H R I h
 refine wpAny_execs_cons (aE (h1 pins s σ H {nx:=u R,rt:=fun _ _=>False} I h) fun f s1 q=>?_)
 cases f with
 | next=>
  obtain⟨σ',H',I',q⟩:=q
  exact h2 pins s1 σ' H' R I' q
 | ret v=>obtain⟨_,_,_,_,_,z⟩:=q;exact z.elim
 | brk=>obtain⟨_,_,_,z⟩:=q;exact z.elim
 | cont=>obtain⟨_,_,_,z⟩:=q;exact z.elim
theorem me.o4 {st:List Stmt} (h:me X.o4 st u):me X st u:=fun pins s σ H R I hw=>
 wpAny_mono (h pins s σ H R (I.wish _) hw) (fun f s' q=>by
  cases f with
  | ret v=>obtain⟨x,σ',H',J,r,z⟩:=q;exact⟨x,σ',H',J.g0,r,z⟩
  | next=>exact q
  | brk=>exact q
  | cont=>exact q) fun _ _ z=>False.elim z
end
theorem i6.okR {P:Program} {w:World} {K:PySem.W.Frag} {mg:Str→Option Value} {base:Heap} {x qual:Str} {st:Stmt} {f:Addr} {fd:FuncData} {cd:Value} {N ps:List Str} {k:Nat} {sp:Sp} (F:i6 K x qual st f fd cd) (S:aO N ps (ah st)) (len:∀vs H Q E,sp vs H Q E→vs.length=ps.length)
  (hbody:∀(A:Around) (outer:List Env) (s:Shared) (H:Hp) (vs:List V) (Q:VK) (E:XK),(∀x y c,(envOfC qual (ah st) s.heap.objs.size f cd).cells.lookup x=some c→(envOfC qual (ah st) s.heap.objs.size f cd).cells.lookup y=some c→x=y)→aP k (A.deeper (envOfC qual (ah st) s.heap.objs.size f cd))→sp vs H Q E→
   ∃t,me (i4 bj P w K mg base N qual (ah st) f cd A outer s H E).o4 (ax st) t∧t (fun σ v H2=>∃cs,gW (i4 bj P w K mg base N qual (ah st) f cd A outer s H E) σ cs∧((∀c v,cs.lookup c=some v→H2 c=none)→Q v (i7 cs H2))) (start N vs) H):aQ P w K mg base bj (k+1) f fd ps sp:=by
 obtain⟨oc,od,dV,kV,doc,pm,an,ct,osl,rfl,lk,hcd⟩:=F.ex
 refine⟨len,fun A outer s H args us vs Q E hr e0 hb r hsp=>?_⟩
 have hl:=len _ _ _ _ hsp
 have KX:K.In s.heap:=e0.mod.m7.keeps fun b o e=>(e0.bs b o e).1
 have lim:s.heap.NoLimit:=e0.mod.nolimit.keeps fun b o e=>(e0.bs b o e).1
 have hkind:∀y∈ps.zip us,(ah st).names.lookup y.1=some .local∨((ah st).names.lookup y.1=some .cell∧((cellsFrom (s.heap.objs.size+1) (ah st).names []).lookup y.1).isSome=true):=fun⟨n,v⟩ hy=>by
  rcases S.par n (List.of_mem_zip hy).1 with q | q
  ·exact .inl q
  ·exact .inr ⟨q,PySem.W.cellsFrom_some _ _ _ (.inl q)⟩
 refine codeAny_call_function hr.depth (KX _ _ lk) rfl S.co S.gen rfl (PySem.W.codeRec_of KX hcd) (hb _ _ _ _ ?_)
 refine wpAny_newFunctionEnv_cells S.kind hkind fun env he s1 x=>?_
 subst he
 refine⟨lim.keeps x.toInCall.keep,codeAny_func ?_⟩
 have I:Inv (i4 bj P w K mg base N qual (ah st) f cd A outer s H E) [] (start N vs) H s1:=tS S hr.hd e0 hl r x
 obtain⟨t,ht,hq⟩:=hbody A outer s H vs Q E I.ok.inj (hr.deeper _) hsp
 refine wpAny_mono (ht.o4 [] s1 (start N vs) H _ I hq) (fun fl s' hs=>?_) fun e s' hs=>hs
 cases fl with
 | ret u=>
  obtain⟨v,σ',H',J,rv,cs,C,q⟩:=hs
  exact⟨v,i7 cs H',J.os,J.bare,C.un J (fun _=>rfl) rfl,C.hok J,rv,q (C.free J)⟩
 | next=>exact False.elim hs
 | brk=>exact False.elim hs
 | cont=>exact False.elim hs
structure Ac (K:PySem.W.Frag) (mg:Str→Option Value) (base:Heap) (D:List Addr) (H:Hp) (base':Heap):Prop where
 sub:∀b o,base.get? b=some o→base'.get? b=some o
 mod:Mod K mg base'
 ext:∀a φ,a∈D→H a=some (.ext φ)→φ base'
theorem Wide.b {X:Cx} {σ:St} {D:List Addr} {H:Hp} {base':Heap} (W:Wide X σ D H base'):Ac X.K X.mg X.base D H base':=⟨W.sub,W.mod,W.ext⟩
def gL (P:Program) (w:World) (K:PySem.W.Frag) (mg:Str→Option Value) (base:Heap) (H:Hp) (D:List Addr) (k:Nat) (f:Addr) (n:Nat) (sp:Sp):Prop:=∀base',Ac K mg base D H base'→FnAt P w K mg base' k f n sp
theorem gL.same {P:Program} {w:World} {K:PySem.W.Frag} {mg:Str→Option Value} {base:Heap} {H H':Hp} {D:List Addr} {k:Nat} {f:Addr} {n:Nat} {sp:Sp} (F:gL P w K mg base H D k f n sp) (k':∀b φ,b∈D→H b=some (.ext φ)→H' b=some (.ext φ)):gL P w K mg base H' D k f n sp:=
 fun base' W=>F base' ⟨W.sub,W.mod,fun a φ ha e=>W.ext a φ ha (k' a φ ha e)⟩
theorem gL.lam {X:Cx} {D:List Addr} {H:Hp} {params:Arguments} {body:Expr} {scope:Scope} {clos:List (Str×Addr)} {c' f:Addr} {ctv:Value} {ps aB:List Str} {fvs:List V} {k:Nat} {sp:Sp}
  (hf:H f=some (j7 f (lamO X params body scope clos c' ctv))) (IG:f∈D) (hc:H c'=some (j8 c' (X.env.qual++"<lambda>"))) (hcD:c'∈D) (S:eU ps aB scope) (O1:∀x y c,X.env.cells.lookup x=some c→X.env.cells.lookup y=some c→x=y) (sub:∀p∈clos,X.env.cells.lookup p.1=some p.2∧p.1∈aB)
  (vals:Paired (fun(x:Str) (v:V)=>∃c,clos.lookup x=X.env.cells.lookup x∧X.env.cells.lookup x=some c∧c∈D∧H c=some (qH c v)) aB fvs)
  (hb:∀(us:List Value),us.length=ps.length→bindArgs (PySem.W.kla_fn "<lambda>" (X.env.qual++"<lambda>") params body scope clos ((X.mg "__name__").getD .none) (.ref c') ctv) ⟨us,[]⟩=pure (ps.zip us)) (len:∀vs H Q E,sp vs H Q E→vs.length=ps.length)
  (hbody:∀(base':Heap),Ac X.K X.mg X.base D H base'→∀(A:Around) (outer:List Env) (s:Shared) (H:Hp) (vs:List V) (Q:VK) (E:XK),aP k (A.deeper (PySem.W.envX (X.env.qual++"<lambda>") scope s.heap.objs.size f (.ref c') clos))→sp vs H Q E→
   ∃t,PE (BI X.prog X.w X.K X.mg base' (ps++aB) (X.env.qual++"<lambda>") scope f (.ref c') clos A outer s H) body t∧t (vs.map some++fvs.map some) H Q):gL X.prog X.w X.K X.mg X.base H D (k+1) f ps.length sp:=fun base' W=>by
 have ho:base'.get? f=some (lamO X params body scope clos c' ctv):=W.ext f _ IG hf
 have wt:base'.CodeRec (.ref c') (X.env.qual++"<lambda>"):=W.ext c' _ hcD hc
 have vals':Paired (fun(x:Str) (v:V)=>∃c u,clos.lookup x=some c∧base'.IsCell c (some u)∧RelV v u) aB fvs:=Paired.lJ vals fun x v ⟨c,h0,h1,h2,h3⟩=>by
  obtain⟨u,e,r⟩:=W.ext c _ h2 h3
  exact⟨c,u,h0.trans h1,e,r⟩
 have sub':∀x c,clos.lookup x=some c→X.env.cells.lookup x=some c∧x∈aB:=fun x c e=>sub (x,c) (PySem.mem_of_lookup e)
 have C:ij base' clos aB fvs:=by
  refine⟨fun x y c h1 h2=>O1 x y c (sub' x c h1).1 (sub' y c h2).1,fun x c h=>?_,vals'⟩
  obtain⟨i,hi⟩:=List.getElem?_of_mem (sub' x c h).2
  obtain⟨v,_,c2,u,h1,h2,_⟩:=eV vals' hi
  rw[h] at h1;cases h1
  exact⟨_,h2⟩
 exact⟨_,_,ps,ho,rfl,rfl,hb,Iu ho wt S C len (hbody base' W)⟩
theorem wz {α β:Type} [BEq α] [LawfulBEq α]:∀{l:List (α×β)} {a:α} {b:β},l.lookup a=some b→(a,b)∈l
 | (x,y)::l,a,b,h=>by
  rw[List.lookup_cons] at h
  by_cases e:a=x
  ·subst e
   rw[beq_self_eq_true] at h
   cases h
   exact List.mem_cons_self
  ·rw[show(a == x)=false from beq_false_of_ne e] at h
   exact List.mem_cons_of_mem _ (wz h)
structure uf (X:Cx) (σ:St) (l:List (Nat×Str×Addr×V)):Prop where
 at':∀q∈l,X.N[q.1]? =some q.2.1∧σ[q.1]? =some (some q.2.2.2)∧X.env.scope.names.lookup q.2.1=some .cell∧X.env.cells.lookup q.2.1=some q.2.2.1
 nd:(l.map (·.2.1)).Nodup
def kD (l:List (Nat×Str×Addr×V)):List (Addr×V):=l.map fun q=>(q.2.2.1,q.2.2.2)
theorem uf.cells {X:Cx} {σ:St} {l:List (Nat×Str×Addr×V)} (C:uf X σ l):gW X σ (kD l):=fun c v h=>by
 obtain⟨q,hq,e⟩:=List.mem_map.mp (show(c,v)∈kD l from wz h)
 cases e
 obtain⟨h1,h2,h3,h4⟩:=C.at' q hq
 exact⟨q.1,q.2.1,h1,h2,h3,h4⟩
theorem lj {α β:Type} [BEq α] [LawfulBEq α]:∀{l:List (α×β)} {a:α} {b:β},(a,b)∈l→∃b',l.lookup a=some b'
 | (x,y)::l,a,b,h=>by
  rw[List.lookup_cons]
  by_cases e:a=x
  ·subst e;rw[beq_self_eq_true];exact⟨y,rfl⟩
  ·rw[show(a == x)=false from beq_false_of_ne e]
   rcases List.mem_cons.mp h with z | z
   ·cases z;exact absurd rfl e
   ·exact lj z
theorem yY:∀{l:List (Nat×Str×Addr×V)},(l.map (·.2.1)).Nodup→∀q∈l,∀p∈l,q.2.1=p.2.1→q=p
 | [],_=>fun _ h=>by cases h
 | x::l,nd=>fun q hq p hp e=>by
  rw[List.map_cons,List.nodup_cons] at nd
  rcases List.mem_cons.mp hq with z | z
  ·rcases List.mem_cons.mp hp with y | y
   ·rw[z,y]
   ·exact absurd (List.mem_map.mpr ⟨p,y,by rw[←e,z]⟩) nd.1
  ·rcases List.mem_cons.mp hp with y | y
   ·exact absurd (List.mem_map.mpr ⟨q,z,by rw[e,y]⟩) nd.1
   ·exact yY nd.2 q z p y e
theorem uf.look {X:Cx} {σ:St} {l:List (Nat×Str×Addr×V)} (C:uf X σ l) (inj:∀x y c,X.env.cells.lookup x=some c→X.env.cells.lookup y=some c→x=y) {q:Nat×Str×Addr×V} (hq:q∈l):(kD l).lookup q.2.2.1=some q.2.2.2:=by
 obtain⟨v,hv⟩:=lj (l:=kD l) (List.mem_map.mpr ⟨q,hq,rfl⟩)
 obtain⟨p,hp,e⟩:=List.mem_map.mp (show(q.2.2.1,v)∈kD l from wz hv)
 injection e with e1 e2
 have:=yY C.nd q hq p hp (inj _ _ _ (C.at' q hq).2.2.2 (by rw[←e1];exact(C.at' p hp).2.2.2))
 rw[hv,←e2,this]
theorem uf.got {X:Cx} {σ:St} {l:List (Nat×Str×Addr×V)} (C:uf X σ l) (inj:∀x y c,X.env.cells.lookup x=some c→X.env.cells.lookup y=some c→x=y) (H:Hp) {q:Nat×Str×Addr×V} (hq:q∈l):i7 (kD l) H q.2.2.1=some (qH q.2.2.1 q.2.2.2):=yX (C.look inj hq)
theorem apart1 (p:Pos×Str):Apart [p]:=fun a ha b hb _ _=>by rw[List.mem_singleton.mp ha,List.mem_singleton.mp hb]
abbrev cw (h:Heap) (z TI TO:Addr) (f0:Value) (fl:Bool):Prop:=h.get? z=some {cls:=.type "zip",dict:=none,data:=.fields #[f0,.bool fl,.bool false,.ref TI,.ref TO],slots:= #[]}
section
variable {prog:Program} {w:World} {A:Around} {E:Value→Shared→Prop} {s:Shared}
theorem ug {z TI TO i1 i2 l1 l2:Addr} {k:Nat} {f0:Value} {fl:Bool} {xs ys:Array Value} {x y a b:Value} {Q:Value→Shared→Prop} (D:ZipApart z TI TO i1 i2 l1 l2) (gz:cw s.heap z TI TO f0 fl) (hfree:∀Q':Bool→Shared→Prop,Q' true s→wpAny (model prog w) A (Builtin.SmallTypes.ownedTupleIsFree (.ref z)) Q' E s) (gI:IsPair s.heap TI (.ref i1) (.ref i2)) (gO:IsPair s.heap TO a b)
  (g1:s.heap.IsTupleIter i1 l1 k) (g2:s.heap.IsTupleIter i2 l2 k) (m1:s.heap.IsTuple l1 xs) (m2:s.heap.IsTuple l2 ys) (ex:xs[k]? =some x) (ey:ys[k]? =some y)
  (q:∀h',IsZip h' z TI TO (rawInt s.heap.objs.size)→IsPair h' TO x y→h'.IsTupleIter i1 l1 (k+1)→h'.IsTupleIter i2 l2 (k+1)→IsPair h' s.heap.objs.size x y→h'.objs.size=s.heap.objs.size+1→
   (∀c o,c≠z→c≠TO→c≠i1→c≠i2→s.heap.get? c=some o→h'.get? c=some o)→Q (.ref s.heap.objs.size) {s with heap:=h'}):
  wpAny (model prog w) A (Builtin.«zip.__next__» ⟨[.ref z],[]⟩) (fun fin s'=>∃v,fin=.done (.ret v)∧Q v s') E s:=by
 show wpAny _ _ (field (.ref z) 2 >>= _) _ _ _;refine wpAny_bind (wpAny_field gz rfl (x:=.bool false) rfl ?_)
 show wpAny _ _ (field (.ref z) 3 >>= _) _ _ _;refine wpAny_bind (wpAny_field gz rfl (x:=.ref TI) rfl ?_);refine wpAny_bind (wpAny_seqItems gI rfl ?_)
 show wpAny _ _ (Builtin.SmallTypes.ownedTupleIsFree (.ref z) >>= _) _ _ _;refine wpAny_bind (hfree _ ?_);simp only[if_true];refine wpAny_bind (wpAny_rule ?_)
 refine wpAny_bind (wpAny_field gz rfl (x:=.ref TO) rfl ?_);refine wpAny_bind (wpAny_setField_rec gz (by simp) fun h1 z1 s1=>?_)
 replace z1:cw h1 z TI TO .ellipsis fl:=z1
 refine wpAny_bind ?_;simp only[List.zipIdx_cons,List.zipIdx_nil,List.forIn_cons,List.forIn_nil];refine wpAny_bind (wpAny_bind (wpAny_onRaise ?_))
 show wpAny _ _ (Builtin.SmallTypes.nextOf (.ref i1) >>= _) _ _ _;refine wpAny_bind (gi (aW g1 s1.extBut D.i1z) (cF m1 s1.extBut D.l1z) ex fun h2 BS s2=>wpAny_pure ?_)
 have O2:IsPair h2 TO a b:=s2.extBut _ _ D.TOi1 (s1.extBut _ _ D.TOz gO)
 refine wpAny_bind (wpAny_seqItems O2 rfl ?_);refine wpAny_bind (wpAny_updateSeq_pair O2 fun h3 O3 s3=>?_)
 replace O3:IsPair h3 TO x b:=O3
 refine wpAny_bind (wpAny_letGo (wpAny_pure ?_));refine wpAny_bind (wpAny_bind (wpAny_onRaise ?_))
 show wpAny _ _ (Builtin.SmallTypes.nextOf (.ref i2) >>= _) _ _ _;refine wpAny_bind (gi (aW (aW (aW g2 s1.extBut D.i2z) s2.extBut D.i12.symm) s3.extBut D.TOi2.symm) (cF (cF (cF m2 s1.extBut D.l2z) s2.extBut D.l2i1) s3.extBut D.l2TO) ey fun h4 IH s4=>wpAny_pure ?_)
 have O4:IsPair h4 TO x b:=s4.extBut _ _ D.TOi2 O3
 refine wpAny_bind (wpAny_seqItems O4 rfl ?_);refine wpAny_bind (wpAny_updateSeq_pair O4 fun h5 O5 s5=>?_)
 replace O5:IsPair h5 TO x y:=O5
 refine wpAny_bind (wpAny_letGo (wpAny_pure (wpAny_pure ?_)));refine wpAny_bind (wpAny_seqItems O5 rfl ?_);refine wpAny_bind (wpAny_newTuple ?_)
 have sz:h5.objs.size=s.heap.objs.size:=by rw[s5.1,s4.1,s3.1,s2.1,s1.1]
 have z5:cw h5 z TI TO .ellipsis fl:=s5.extBut _ _ D.TOz.symm (s4.extBut _ _ D.i2z.symm (s3.extBut _ _ D.TOz.symm (s2.extBut _ _ D.i1z.symm z1)))
 have k5:∀c o,c≠z→c≠TO→c≠i1→c≠i2→s.heap.get? c=some o→h5.get? c=some o:=fun c o c1 c2 c3 c4 e=>s5.extBut _ _ c2 (s4.extBut _ _ c4 (s3.extBut _ _ c2 (s2.extBut _ _ c3 (s1.extBut _ _ c1 e))))
 have a5:h5.IsTupleIter i1 l1 (k+1):=aW (aW (aW BS s3.extBut D.TOi1.symm) s4.extBut D.i12) s5.extBut D.TOi1.symm
 have b5:h5.IsTupleIter i2 l2 (k+1):=aW IH s5.extBut D.TOi2.symm
 have BU:z<h5.objs.size:=Heap.lt_size z5
 show wpAny _ _ (Builtin.SmallTypes.ownedTupleHandOut (.ref z) (.ref h5.objs.size) >>= _) _ _ _
 refine wpAny_bind ?_;unfold Builtin.SmallTypes.ownedTupleHandOut
 have z6:cw (h5.push {cls:=.type "tuple",data:=.seq #[x,y]}) z TI TO .ellipsis fl:=Heap.get?_push_of_some _ z5
 refine wpAny_bind (wpAny_setField_rec z6 (by simp) fun h7 z7 s7=>?_)
 replace z7:cw h7 z TI TO (rawInt h5.objs.size) fl:=z7
 refine wpAny_setField_rec z7 (by simp) fun h8 z8 s8=>?_
 replace z8:IsZip h8 z TI TO (rawInt h5.objs.size):=z8
 have up:∀c o,c≠z→h5.get? c=some o→h8.get? c=some o:=fun c o c1 e=>s8.extBut _ _ c1 (s7.extBut _ _ c1 (Heap.get?_push_of_some _ e))
 have T8:IsPair h8 h5.objs.size x y:=s8.extBut _ _ (Nat.ne_of_gt BU) (s7.extBut _ _ (Nat.ne_of_gt BU) (Heap.get?_push_size _ rfl))
 have e8:h8.objs.size=h5.objs.size+1:=by rw[s8.1,s7.1,Heap.size_push]
 rw[sz] at z8 T8 e8
 refine wpAny_pure ⟨_,rfl,?_⟩;show Q (.ref h5.objs.size) _;rw[sz]
 exact q h8 z8 (up _ _ D.TOz O5) (let ⟨o,ho,r⟩:=a5;⟨o,up _ _ D.i1z ho,r⟩) (let ⟨o,ho,r⟩:=b5;⟨o,up _ _ D.i2z ho,r⟩) T8 e8 fun c o c1 c2 c3 c4 e=>up c o c1 (k5 c o c1 c2 c3 c4 e)
theorem qI {z TI TO i1 i2 l1 l2:Addr} {k:Nat} {f0:Value} {fl:Bool} {xs ys:Array Value} {a b:Value} {Q:Fin→Shared→Prop} (hh:A.handled=none) (D:ZipApart z TI TO i1 i2 l1 l2) (gz:cw s.heap z TI TO f0 fl) (hfree:∀Q':Bool→Shared→Prop,Q' true s→wpAny (model prog w) A (Builtin.SmallTypes.ownedTupleIsFree (.ref z)) Q' E s) (gI:IsPair s.heap TI (.ref i1) (.ref i2)) (gO:IsPair s.heap TO a b)
  (g1:s.heap.IsTupleIter i1 l1 k) (g2:s.heap.IsTupleIter i2 l2 k) (m1:s.heap.IsTuple l1 xs) (m2:s.heap.IsTuple l2 ys) (ex:xs[k]? =none)
  (q:∀h' e,(∀c o,c≠z→c≠TO→c≠i1→c≠i2→s.heap.get? c=some o→h'.get? c=some o)→(∃o,h'.get? e=some o∧o.cls=.type "StopIteration")→E (.ref e) {s with heap:=h'}):
  wpAny (model prog w) A (Builtin.«zip.__next__» ⟨[.ref z],[]⟩) Q E s:=by
 show wpAny _ _ (field (.ref z) 2 >>= _) _ _ _;refine wpAny_bind (wpAny_field gz rfl (x:=.bool false) rfl ?_)
 show wpAny _ _ (field (.ref z) 3 >>= _) _ _ _;refine wpAny_bind (wpAny_field gz rfl (x:=.ref TI) rfl ?_);refine wpAny_bind (wpAny_seqItems gI rfl ?_)
 show wpAny _ _ (Builtin.SmallTypes.ownedTupleIsFree (.ref z) >>= _) _ _ _;refine wpAny_bind (hfree _ ?_);simp only[if_true];refine wpAny_bind (wpAny_rule ?_)
 refine wpAny_bind (wpAny_field gz rfl (x:=.ref TO) rfl ?_);refine wpAny_bind (wpAny_setField_rec gz (by simp) fun h1 z1 s1=>?_)
 replace z1:cw h1 z TI TO .ellipsis fl:=z1
 refine wpAny_bind ?_;simp only[List.zipIdx_cons,List.zipIdx_nil,List.forIn_cons,List.forIn_nil];refine wpAny_bind (wpAny_bind (wpAny_onRaise ?_))
 show wpAny _ _ (Builtin.SmallTypes.nextOf (.ref i1) >>= _) _ _ _;refine wpAny_bind (kz hh (aW g1 s1.extBut D.i1z) (cF m1 s1.extBut D.l1z) ex fun h2 e s2 he=>?_)
 obtain⟨oe,hoe,hce⟩:=he
 have z2:cw h2 z TI TO .ellipsis fl:=s2 _ _ D.i1z.symm z1
 have II:e≠z:=fun x=>by subst x;rw[z2] at hoe;cases hoe;simp at hce
 refine wpAny_setField_rec z2 (by simp) fun h3 _ s3=>q h3 e (fun c o c1 _ c3 _ x=>s3.extBut _ _ c1 (s2 _ _ c3 (s1.extBut _ _ c1 x))) ⟨oe,s3.extBut _ _ II hoe,hce⟩
theorem wA {z TI TO p:Addr} {fl:Bool} {op:Obj} (gz:cw s.heap z TI TO (rawInt p) fl) (gp:s.heap.get? p=some op):
  wpAny (model prog w) A (Builtin.SmallTypes.ownedTupleIsFree (.ref z)) (fun r s'=>r=false∧∃h0,s'={s with heap:=h0}∧cw h0 z TI TO (rawInt p) true∧Heap.SameBut z s.heap h0) E s:=by
 unfold Builtin.SmallTypes.ownedTupleIsFree
 refine wpAny_bind (wpAny_field gz rfl (x:=rawInt p) rfl ?_)
 show wpAny _ _ (loadIfAlive ((p:Int).toNat) >>= _) _ _ _
 rw[Int.toNat_natCast]
 refine wpAny_bind (PySem.W.kdx_alive gp ?_)
 simp only[Option.isNone_some,Bool.false_eq_true,if_false]
 refine wpAny_bind (wpAny_field gz rfl (x:=.bool fl) rfl ?_)
 cases fl with
 | true=>
  rw[if_neg (show ¬((Value.bool true != Value.bool true)=true) from Bool.false_ne_true)]
  exact wpAny_pure ⟨rfl,s.heap,rfl,gz,Heap.SameBut.refl _ _⟩
 | false=>
  rw[if_pos (show(Value.bool false != Value.bool true)=true from rfl)]
  refine wpAny_bind (wpAny_setField_rec gz (by simp) fun h₃ he₃ hs₃=>?_)
  exact wpAny_pure ⟨rfl,h₃,rfl,he₃,hs₃⟩
theorem wB {z TI TO p:Addr} {fl:Bool} (gz:cw s.heap z TI TO (rawInt p) fl) (gp:s.heap.get? p=none) (Q':Bool→Shared→Prop) (h:Q' true s):wpAny (model prog w) A (Builtin.SmallTypes.ownedTupleIsFree (.ref z)) Q' E s:=by
 unfold Builtin.SmallTypes.ownedTupleIsFree
 refine wpAny_bind (wpAny_field gz rfl (x:=rawInt p) rfl ?_)
 show wpAny _ _ (loadIfAlive ((p:Int).toNat) >>= _) _ _ _
 rw[Int.toNat_natCast]
 refine wpAny_bind ?_
 have al:∀Q:Option Obj→Shared→Prop,Q none s→wpAny (model prog w) A (loadIfAlive p) Q E s:=fun Q h=>by
  have h':Q (s.heap.get? p) s:=by rw[gp];exact h
  exact fun _ _ _=>h'
 refine al _ ?_
 exact wpAny_pure h
theorem wC {z TI TO:Addr} {fl:Bool} (gz:cw s.heap z TI TO .none fl) (Q':Bool→Shared→Prop) (h:Q' true s):wpAny (model prog w) A (Builtin.SmallTypes.ownedTupleIsFree (.ref z)) Q' E s:=by
 unfold Builtin.SmallTypes.ownedTupleIsFree
 refine wpAny_bind (wpAny_field gz rfl (x:=.none) rfl (wpAny_pure h))
theorem BV {z TI TO i1 i2 l1 l2 p:Addr} {k:Nat} {fl:Bool} {op:Obj} {xs ys:Array Value} {x y a b:Value} {Q:Value→Shared→Prop} (D:ZipApart z TI TO i1 i2 l1 l2) (gz:cw s.heap z TI TO (rawInt p) fl) (gp:s.heap.get? p=some op) (gI:IsPair s.heap TI (.ref i1) (.ref i2)) (gO:IsPair s.heap TO a b)
  (g1:s.heap.IsTupleIter i1 l1 k) (g2:s.heap.IsTupleIter i2 l2 k) (m1:s.heap.IsTuple l1 xs) (m2:s.heap.IsTuple l2 ys) (ex:xs[k]? =some x) (ey:ys[k]? =some y)
  (q:∀h',cw h' z TI TO (rawInt p) true→IsPair h' TO a b→h'.IsTupleIter i1 l1 (k+1)→h'.IsTupleIter i2 l2 (k+1)→IsPair h' s.heap.objs.size x y→h'.objs.size=s.heap.objs.size+1→
   (∀c o,c≠z→c≠TO→c≠i1→c≠i2→s.heap.get? c=some o→h'.get? c=some o)→Q (.ref s.heap.objs.size) {s with heap:=h'}):
  wpAny (model prog w) A (Builtin.«zip.__next__» ⟨[.ref z],[]⟩) (fun fin s'=>∃v,fin=.done (.ret v)∧Q v s') E s:=by
 show wpAny _ _ (field (.ref z) 2 >>= _) _ _ _;refine wpAny_bind (wpAny_field gz rfl (x:=.bool false) rfl ?_)
 show wpAny _ _ (field (.ref z) 3 >>= _) _ _ _;refine wpAny_bind (wpAny_field gz rfl (x:=.ref TI) rfl ?_);refine wpAny_bind (wpAny_seqItems gI rfl ?_)
 show wpAny _ _ (Builtin.SmallTypes.ownedTupleIsFree (.ref z) >>= _) _ _ _
 refine wpAny_bind (wpAny_mono (wA gz gp) (fun r s' h=>?_) fun _ _ h=>h)
 obtain⟨rfl,h0,rfl,z0,sb⟩:=h
 simp only[Bool.false_eq_true,if_false,List.forIn_toArray,List.forIn_cons,List.forIn_nil]
 refine wpAny_bind (wpAny_bind (wpAny_bind (wpAny_holding ?_)))
 show wpAny _ _ (Builtin.SmallTypes.nextOf (.ref i1) >>= _) _ _ _
 refine wpAny_bind (gi (aW g1 sb.extBut D.i1z) (cF m1 sb.extBut D.l1z) ex fun h2 BS s2=>wpAny_pure (wpAny_pure ?_))
 refine wpAny_bind (wpAny_bind (wpAny_holding ?_))
 show wpAny _ _ (Builtin.SmallTypes.nextOf (.ref i2) >>= _) _ _ _
 refine wpAny_bind (gi (aW (aW g2 sb.extBut D.i2z) s2.extBut D.i12.symm) (cF (cF m2 sb.extBut D.l2z) s2.extBut D.l2i1) ey fun h3 Tt s3=>wpAny_pure (wpAny_pure (wpAny_pure ?_)))
 show wpAny _ _ (newTuple [x,y] >>= _) _ _ _
 refine wpAny_bind (wpAny_newTuple ?_)
 have sz:h3.objs.size=s.heap.objs.size:=by rw[s3.1,s2.1,sb.1]
 refine wpAny_pure ⟨_,rfl,?_⟩
 have up:∀c o,h3.get? c=some o→(h3.push {cls:=.type "tuple",data:=.seq #[x,y]}).get? c=some o:=fun c o e=>Heap.get?_push_of_some _ e
 show Q (.ref h3.objs.size) _
 have T8:IsPair (h3.push {cls:=.type "tuple",data:=.seq #[x,y]}) h3.objs.size x y:=Heap.get?_push_size _ rfl
 have a3:h3.IsTupleIter i1 l1 (k+1):=aW BS s3.extBut D.i12
 rw[sz] at T8 ⊢
 exact q _ (up _ _ (s3.extBut _ _ D.i2z.symm (s2.extBut _ _ D.i1z.symm z0))) (up _ _ (s3.extBut _ _ D.TOi2 (s2.extBut _ _ D.TOi1 (sb.extBut _ _ D.TOz gO)))) (let ⟨o,ho,r⟩:=a3;⟨o,up _ _ ho,r⟩) (let ⟨o,ho,r⟩:=Tt;⟨o,up _ _ ho,r⟩) T8 (by rw[Heap.size_push,sz]) fun c o c1 c2 c3 c4 e=>up _ _ (s3.extBut _ _ c4 (s2.extBut _ _ c3 (sb.extBut _ _ c1 e)))
theorem Ad {z TI TO i1 i2 l1 l2 p:Addr} {k:Nat} {fl:Bool} {op:Obj} {xs ys:Array Value} {a b:Value} {Q:Fin→Shared→Prop} (hh:A.handled=none) (D:ZipApart z TI TO i1 i2 l1 l2) (gz:cw s.heap z TI TO (rawInt p) fl) (gp:s.heap.get? p=some op) (gI:IsPair s.heap TI (.ref i1) (.ref i2))
  (g1:s.heap.IsTupleIter i1 l1 k) (m1:s.heap.IsTuple l1 xs) (ex:xs[k]? =none)
  (q:∀h' e,(∀c o,c≠z→c≠TO→c≠i1→c≠i2→s.heap.get? c=some o→h'.get? c=some o)→(∃o,h'.get? e=some o∧o.cls=.type "StopIteration")→E (.ref e) {s with heap:=h'}):
  wpAny (model prog w) A (Builtin.«zip.__next__» ⟨[.ref z],[]⟩) Q E s:=by
 show wpAny _ _ (field (.ref z) 2 >>= _) _ _ _;refine wpAny_bind (wpAny_field gz rfl (x:=.bool false) rfl ?_)
 show wpAny _ _ (field (.ref z) 3 >>= _) _ _ _;refine wpAny_bind (wpAny_field gz rfl (x:=.ref TI) rfl ?_);refine wpAny_bind (wpAny_seqItems gI rfl ?_)
 show wpAny _ _ (Builtin.SmallTypes.ownedTupleIsFree (.ref z) >>= _) _ _ _
 refine wpAny_bind (wpAny_mono (wA gz gp) (fun r s' h=>?_) fun _ _ h=>h)
 obtain⟨rfl,h0,rfl,z0,sb⟩:=h
 simp only[Bool.false_eq_true,if_false,List.forIn_toArray,List.forIn_cons,List.forIn_nil]
 refine wpAny_bind (wpAny_bind (wpAny_bind (wpAny_holding ?_)))
 show wpAny _ _ (Builtin.SmallTypes.nextOf (.ref i1) >>= _) _ _ _
 exact wpAny_bind (kz hh (aW g1 sb.extBut D.i1z) (cF m1 sb.extBut D.l1z) ex fun h2 e s2 he=>q h2 e (fun c o c1 _ c3 _ x=>s2 _ _ c3 (sb.extBut _ _ c1 x)) he)
theorem BW {z TI TO i1 i2 l1 l2:Addr} {k:Nat} {f0:Value} {fl:Bool} {xs ys:Array Value} {x y a b:Value} {Q:Option Value→Shared→Prop} (D:ZipApart z TI TO i1 i2 l1 l2) (gz:cw s.heap z TI TO f0 fl) (hf:f0=.none∨∃p:Nat,f0=rawInt p) (gI:IsPair s.heap TI (.ref i1) (.ref i2)) (gO:IsPair s.heap TO a b)
  (g1:s.heap.IsTupleIter i1 l1 k) (g2:s.heap.IsTupleIter i2 l2 k) (m1:s.heap.IsTuple l1 xs) (m2:s.heap.IsTuple l2 ys) (ex:xs[k]? =some x) (ey:ys[k]? =some y)
  (q:∀h' f0' IJ a' b',cw h' z TI TO f0' IJ→(∃p:Nat,f0'=rawInt p)→(f0=.none→f0'=rawInt s.heap.objs.size∧IJ=false)→IsPair h' TO a' b'→h'.IsTupleIter i1 l1 (k+1)→h'.IsTupleIter i2 l2 (k+1)→IsPair h' s.heap.objs.size x y→h'.objs.size=s.heap.objs.size+1→
   (∀c o,c≠z→c≠TO→c≠i1→c≠i2→s.heap.get? c=some o→h'.get? c=some o)→Q (some (.ref s.heap.objs.size)) {s with heap:=h'}):wpAny (model prog w) A (pyNext (.ref z)) Q E s:=by
 have ty:s.TypeIs (.ref z) "zip":=⟨_,gz,rfl⟩
 unfold pyNext
 refine wpAny_bind (wpAny_attempt (wpAny_callSpecial?_slot (name:=Str.ofString "__next__") ty PySem.F.slot_zip_next (wpAny_call_entry PySem.F.slot_zip_next ty PySem.F.entry_zip_next ?_ (PySem.F.args_zip_next_1 _))))
 rcases hf with rfl | ⟨p,rfl⟩
 ·exact ug D gz (wC gz) gI gO g1 g2 m1 m2 ex ey fun h' a1 a2 a3 a4 a5 a6 a7=>wpAny_pure (q h' _ _ _ _ a1 ⟨_,rfl⟩ (fun _=>⟨rfl,rfl⟩) a2 a3 a4 a5 a6 a7)
 ·cases gp:s.heap.get? p with
  | none=>exact ug D gz (wB gz gp) gI gO g1 g2 m1 m2 ex ey fun h' a1 a2 a3 a4 a5 a6 a7=>wpAny_pure (q h' _ _ _ _ a1 ⟨_,rfl⟩ (fun z=>nomatch z) a2 a3 a4 a5 a6 a7)
  | some op=>exact BV D gz gp gI gO g1 g2 m1 m2 ex ey fun h' a1 a2 a3 a4 a5 a6 a7=>wpAny_pure (q h' _ _ _ _ a1 ⟨_,rfl⟩ (fun z=>nomatch z) a2 a3 a4 a5 a6 a7)
theorem Ae {z TI TO i1 i2 l1 l2:Addr} {k:Nat} {f0:Value} {fl:Bool} {xs ys:Array Value} {a b:Value} {Q:Option Value→Shared→Prop} (hh:A.handled=none) (D:ZipApart z TI TO i1 i2 l1 l2) (gz:cw s.heap z TI TO f0 fl) (hf:f0=.none∨∃p:Nat,f0=rawInt p) (gI:IsPair s.heap TI (.ref i1) (.ref i2)) (gO:IsPair s.heap TO a b)
  (g1:s.heap.IsTupleIter i1 l1 k) (g2:s.heap.IsTupleIter i2 l2 k) (m1:s.heap.IsTuple l1 xs) (m2:s.heap.IsTuple l2 ys) (ex:xs[k]? =none)
  (q:∀h',(∀c o,c≠z→c≠TO→c≠i1→c≠i2→s.heap.get? c=some o→h'.get? c=some o)→Q none {s with heap:=h'}):wpAny (model prog w) A (pyNext (.ref z)) Q E s:=by
 have ty:s.TypeIs (.ref z) "zip":=⟨_,gz,rfl⟩
 unfold pyNext
 refine wpAny_bind (wpAny_attempt (wpAny_callSpecial?_slot (name:=Str.ofString "__next__") ty PySem.F.slot_zip_next (wpAny_call_entry PySem.F.slot_zip_next ty PySem.F.entry_zip_next ?_ (PySem.F.args_zip_next_1 _))))
 rcases hf with rfl | ⟨p,rfl⟩
 ·exact qI hh D gz (wC gz) gI gO g1 g2 m1 m2 ex fun h' e hk he=>(by
   obtain⟨o,ho,hc⟩:=he
   exact wpAny_bind (wpAny_isInstance (T:="StopIteration") (b:=true) ⟨o,ho,hc⟩ isSubtype_stop (wpAny_pure (q _ hk))))
 ·cases gp:s.heap.get? p with
  | none=>exact qI hh D gz (wB gz gp) gI gO g1 g2 m1 m2 ex fun h' e hk he=>(by
    obtain⟨o,ho,hc⟩:=he
    exact wpAny_bind (wpAny_isInstance (T:="StopIteration") (b:=true) ⟨o,ho,hc⟩ isSubtype_stop (wpAny_pure (q _ hk))))
  | some op=>exact Ad (ys:=ys) (a:=a) (b:=b) hh D gz gp gI g1 m1 ex fun h' e hk he=>(by
    obtain⟨o,ho,hc⟩:=he
    exact wpAny_bind (wpAny_isInstance (T:="StopIteration") (b:=true) ⟨o,ho,hc⟩ isSubtype_stop (wpAny_pure (q _ hk))))
abbrev BX (h:Heap) (l1 l2:Addr):Heap:=(h.push (nE l1)).push (nE l2)
abbrev Fh (h:Heap) (l1 l2:Addr):Heap:=(BX h l1 l2).push {cls:=.type "tuple",data:=.seq #[.ref h.objs.size,.ref (h.push (nE l1)).objs.size]}
abbrev BZ (h:Heap) (l1 l2:Addr):Heap:=(Fh h l1 l2).push {cls:=.type "tuple",data:=.seq #[.none,.none]}
abbrev uh (h:Heap) (l1 l2:Addr):Heap:=(BZ h l1 l2).push {cls:=.type "zip",data:=.fields #[.none,.bool false,.bool false,.ref (BX h l1 l2).objs.size,.ref (Fh h l1 l2).objs.size]}
theorem Af (l1 l2:Addr) (xs ys:Array Value):Meets (Builtin.«zip.__new__» ⟨[.type "zip",.ref l1,.ref l2],[]⟩) (fun _ R s=>s.heap.IsTuple l1 xs∧s.heap.IsTuple l2 ys∧R (.ok (.ret (.ref (BZ s.heap l1 l2).objs.size))) {s with heap:=uh s.heap l1 l2}):=
 .of_wp fun prog w A R s h=>by
  obtain⟨hp,g,d,tk,os⟩:=s;obtain⟨m1,m2,h⟩:=h
  have hsub:=PySem.sub_zip
  have L1:Heap.IsTuple (Shared.heap ⟨hp,g,d,tk,os⟩) l1 xs:=m1
  have L2:Heap.IsTuple (Shared.heap ⟨hp.push (nE l1),g,d,tk,os⟩) l2 ys:=let ⟨o,ho,r⟩:=m2;⟨o,Heap.get?_push_of_some _ ho,r⟩
  wp_walk using wpAny_pyIter_tuple L1,wpAny_pyIter_tuple L2
  exact⟨_,rfl,h⟩
theorem B_ {l1 l2:Addr} {xs ys:Array Value} {Q:Value→Shared→Prop} (m1:s.heap.IsTuple l1 xs) (m2:s.heap.IsTuple l2 ys)
  (q:∀h',IsZip h' (s.heap.objs.size+4) (s.heap.objs.size+2) (s.heap.objs.size+3) .none→IsPair h' (s.heap.objs.size+2) (.ref s.heap.objs.size) (.ref (s.heap.objs.size+1))→
   IsPair h' (s.heap.objs.size+3) .none .none→h'.IsTupleIter s.heap.objs.size l1 0→h'.IsTupleIter (s.heap.objs.size+1) l2 0→
   (∀c o,s.heap.get? c=some o→h'.get? c=some o)→Q (.ref (s.heap.objs.size+4)) {s with heap:=h'}):wpAny (model prog w) A (call (.type "zip") [.ref l1,.ref l2]) Q E s:=by
 refine callType_new PySem.F.called_zip (by decide) (PySem.F.typeCall_zip_2 _ _) (PySem.F.newCall_zip_2 _ _) (fun obj=>PySem.F.args_object_init_3 obj _ _) PySem.F.entry_zip_new (Af l1 l2 xs ys) ⟨m1,m2,?_⟩
 have e1:(s.heap.push (nE l1)).objs.size=s.heap.objs.size+1:=Heap.size_push ..
 have e2:(BX s.heap l1 l2).objs.size=s.heap.objs.size+2:=by rw[Heap.size_push,e1]
 have e3:(Fh s.heap l1 l2).objs.size=s.heap.objs.size+3:=by rw[Heap.size_push,e2]
 have e4:(BZ s.heap l1 l2).objs.size=s.heap.objs.size+4:=by rw[Heap.size_push,e3]
 have p5:(uh s.heap l1 l2).get? (BZ s.heap l1 l2).objs.size=some _:=Heap.get?_push_size _ rfl
 have up:∀{c:Addr} {o:Obj},(BZ s.heap l1 l2).get? c=some o→(uh s.heap l1 l2).get? c=some o:=fun x=>Heap.get?_push_of_some _ x
 have p4:(uh s.heap l1 l2).get? (Fh s.heap l1 l2).objs.size=some _:=up (Heap.get?_push_size _ rfl)
 have p3:(uh s.heap l1 l2).get? (BX s.heap l1 l2).objs.size=some _:=up (Heap.get?_push_of_some _ (Heap.get?_push_size _ rfl))
 have wD:∀{c:Addr} {o:Obj},(BX s.heap l1 l2).get? c=some o→(uh s.heap l1 l2).get? c=some o:=fun x=>up (Heap.get?_push_of_some _ (Heap.get?_push_of_some _ x))
 have p2:(uh s.heap l1 l2).get? (s.heap.push (nE l1)).objs.size=some _:=wD (Heap.get?_push_size _ rfl)
 have p1:(uh s.heap l1 l2).get? s.heap.objs.size=some _:=wD (Heap.get?_push_of_some _ (Heap.get?_push_size _ rfl))
 show _∧_
 rw[e2,e3,e4] at p5
 rw[e1,e2] at p3
 rw[e3] at p4
 rw[e1] at p2
 rw[e4]
 exact⟨⟨_,p5,rfl⟩,q _ p5 p3 p4 ⟨_,p1,rfl,rfl⟩ ⟨_,p2,rfl,rfl⟩ fun c o x=>wD (Heap.get?_push_of_some _ (Heap.get?_push_of_some _ x))⟩
end
def D6 (K:PySem.W.Frag) (a b:Addr):It:=
 ⟨fun i H=>∃xs ys x y,aU K H a xs∧aU K H b ys∧xs[i]? =some x∧ys[i]? =some y,
  fun i H v H'=>∃x y p,(∀xs,aU K H a xs→xs[i]? =some x)∧(∀ys,aU K H b ys→ys[i]? =some y)∧H p=none∧v=.ref p∧H'=upd H p (.tup [x,y]),
  fun i H=>∃xs ys,aU K H a xs∧aU K H b ys∧xs.length≤i⟩
theorem B0 {P:Program} {w:World} {K:PySem.W.Frag} {elts:List Expr} {x1} {tpos:Pos} (a b z TI TO i1 i2:Addr) (D:ZipApart z TI TO i1 i2 a b):
  Turn P w K (.Tuple elts x1 tpos) (D6 K a b) [z,TO,i1,i2,TI] z (fun i h=>IsZip h z TI TO .none∧IsPair h TI (.ref i1) (.ref i2)∧(∃x y,IsPair h TO x y)∧h.IsTupleIter i1 a i∧h.IsTupleIter i2 b i) where
 mem:=by simp
 obj:=fun i h st c hc=>by
  obtain⟨hz,hTI,⟨x,y,hTO⟩,h1,h2⟩:=st
  have hc':c=z∨c=TO∨c=i1∨c=i2∨c=TI:=by simpa using hc
  rcases hc' with q | q | q | q | q
  ·subst q;exact⟨_,hz,fun v e=>nomatch e⟩
  ·subst q;exact⟨_,hTO,fun v e=>nomatch e⟩
  ·subst q
   obtain⟨o,e,_,d⟩:=h1
   exact⟨o,e,fun v q=>by rw[d] at q;cases q⟩
  ·subst q
   obtain⟨o,e,_,d⟩:=h2
   exact⟨o,e,fun v q=>by rw[d] at q;cases q⟩
  ·subst q;exact⟨_,hTI,fun v e=>nomatch e⟩
 keep:=fun i h h' st k=>by
  obtain⟨hz,hTI,⟨x,y,hTO⟩,h1,h2⟩:=st
  exact⟨k z (by simp) _ hz,k TI (by simp) _ hTI,⟨x,y,k TO (by simp) _ hTO⟩,let ⟨o,ho,r⟩:=h1;⟨o,k i1 (by simp) o ho,r⟩,let ⟨o,ho,r⟩:=h2;⟨o,k i2 (by simp) o ho,r⟩⟩
 item:=by
  intro X hP hw hK hc i pins s σ H E I hf st hg
  subst hP hw hK
  obtain⟨hz,hTI,⟨u1,u2,hTO⟩,h1,h2⟩:=st
  obtain⟨xs,ys,x,y,hq,hq2,hx,hy⟩:=hg
  obtain⟨its,rv,p,_⟩:=I.tuple hq
  obtain⟨its2,j4,p2,_⟩:=I.tuple hq2
  obtain⟨u,hu,ru⟩:=rv.get hx
  obtain⟨v,hv,rv'⟩:=j4.get hy
  refine BW D hz (.inl rfl) hTI hTO h1 h2 (show s.heap.IsTuple a its.toArray from p) (show s.heap.IsTuple b its2.toArray from p2) (x:=u) (y:=v) (by simpa using hu) (by simpa using hv) fun h1' f0' IJ a' b' a1 _ aw a2 a3 a4 a5 a6 kk=>?_
  obtain⟨rfl,rfl⟩:=aw rfl
  have nn:H s.heap.objs.size=none:=I.hok.fresh (Nat.le_refl _)
  have nz:∀c∈[z,TO,i1,i2],ft X pins H c:=fun c hc=>hf c (by
   have hc':c=z∨c=TO∨c=i1∨c=i2:=by simpa using hc
   rcases hc' with q | q | q | q<;>simp[q])
  have I1:Inv X pins σ (upd H s.heap.objs.size (.tup [x,y])) {s with heap:=h1',toks:=s.toks}:=
   I.lU (ch:=[z,TO,i1,i2]) nz (fun c o hc q=>kk c o (fun e=>hc (by simp[e])) (fun e=>hc (by simp[e])) (fun e=>hc (by simp[e])) (fun e=>hc (by simp[e])) q) (Nat.le_refl _)
    ⟨⟨by show 2≤sizeLine;decide,_,a5,rfl⟩,[u,v],.cons ru (.cons rv' .nil),⟨_,a5,rfl,_,rfl⟩⟩
  have lz:z<s.heap.objs.size:=Heap.lt_size hz
  have Bu:TI<s.heap.objs.size:=Heap.lt_size hTI
  have Bv:TO<s.heap.objs.size:=Heap.lt_size hTO
  have l1:i1<s.heap.objs.size:=by obtain⟨o,q,_⟩:=id h1;exact Heap.lt_size q
  have l2:i2<s.heap.objs.size:=by obtain⟨o,q,_⟩:=id h2;exact Heap.lt_size q
  refine⟨_,rfl,wpAny_letOwnedTupleGo_zip a1 fun h2' e2 sb=>?_⟩
  obtain⟨f0,f1,f2,f3,f4,f5⟩:=hf z (by simp)
  have I2:=I1.turned (h':=h2') (t':=s.toks) (it:=z) (fun c o hc q=>(sb.2 c hc).trans q) (by rw[ak (Nat.ne_of_lt lz)];exact f0) f1 f3 f4 f5
  refine⟨.ref s.heap.objs.size,_,I2,rfl,⟨x,y,s.heap.objs.size,fun zs hy=>by rw[I.iQ hy hq];exact hx,fun zs hz'=>by rw[I.iQ hz' hq2];exact hy,nn,rfl,rfl⟩,
   ⟨e2,(sb.2 TI D.TIz).trans (kk _ _ D.TIz D.TITO D.TIi1 D.TIi2 hTI),⟨_,_,(sb.2 TO D.TOz).trans a2⟩,let ⟨o,ho,r⟩:=a3;⟨o,(sb.2 i1 D.i1z).trans ho,r⟩,let ⟨o,ho,r⟩:=a4;⟨o,(sb.2 i2 D.i2z).trans ho,r⟩⟩,fun c hc=>?_⟩
  have hlt:c<s.heap.objs.size:=by
   have hc':c=z∨c=TO∨c=i1∨c=i2∨c=TI:=by simpa using hc
   rcases hc' with q | q | q | q | q
   ·rw[q];exact lz
   ·rw[q];exact Bv
   ·rw[q];exact l1
   ·rw[q];exact l2
   ·rw[q];exact Bu
  rw[ak (Nat.ne_of_lt hlt)]
  exact(hf c hc).1
 done:=by
  intro X hP hw hK hc i pins s σ H E I hf st hg
  subst hP hw hK
  obtain⟨hz,hTI,⟨u1,u2,hTO⟩,h1,h2⟩:=st
  obtain⟨xs,ys,hq,hq2,hx⟩:=hg
  obtain⟨its,rv,p,_⟩:=I.tuple hq
  obtain⟨its2,j4,p2,_⟩:=I.tuple hq2
  have hl:=rv.length
  have nz:∀c∈[z,TO,i1,i2],ft X pins H c:=fun c hc=>hf c (by
   have hc':c=z∨c=TO∨c=i1∨c=i2:=by simpa using hc
   rcases hc' with q | q | q | q<;>simp[q])
  exact Ae (I.ok.hd hc) D hz (.inl rfl) hTI hTO h1 h2 (show s.heap.IsTuple a its.toArray from p) (show s.heap.IsTuple b its2.toArray from p2) (by simp;omega) fun h' kk=>
   ⟨rfl,I.rP (t':=s.toks) (ch:=[z,TO,i1,i2]) nz (fun c o hc q=>kk c o (fun e=>hc (by simp[e])) (fun e=>hc (by simp[e])) (fun e=>hc (by simp[e])) (fun e=>hc (by simp[e])) q)⟩
 self:=fun _ _ _ _ _ st h=>wpAny_pyIter_zip st.1 h
def Fi (K:PySem.W.Frag) (ta:TA):TI:=fun σ H R=>ta σ H fun vs H1=>∃a b,vs=[.ref a,.ref b]∧(∃xs,aU K H1 a xs)∧(∃ys,aU K H1 b ys)∧R (D6 K a b) H1
theorem GP {X:Cx} {elts:List Expr} {x1} {tpos:Pos} {a b:Expr} {ta:TA} {p pos:Pos} (hg:Gl X "zip") (hm:X.mg "zip"=none) (ha:PA X [a,b] ta)
  (hs:starEach [a,b] X.env=[(false,eval a X.env),(false,eval b X.env)]:=by rfl) (hs2:starEach [b] X.env=[(false,eval b X.env)]:=by rfl):
  PI X (.Tuple elts x1 tpos) (.Call (.Name "zip" p) [a,b] [] pos) (Fi X.K ta):=by
 intro pins s σ H R I h
 refine Call_ (gc I hg hm boot_zip (PyProof.Rows.callWith_type1 (aE (ha pos pins s σ H _ I h) fun us s1 ⟨vs,H1,I1,r1,q1⟩=>?_) (by rw[hs,hs2]) (by rw[hs2];rfl)))
 obtain⟨l1,l2,e,⟨xs,hq⟩,⟨ys,hq2⟩,q⟩:=q1
 subst e
 cases r1 with
 | cons r rr=>
  cases rr with
  | cons r' rr=>
   cases rr
   cases r
   cases r'
   obtain⟨its,rv,pl,_⟩:=I1.tuple hq
   obtain⟨its2,j4,t7,_⟩:=I1.tuple hq2
   have a1:l1<s1.heap.objs.size:=by obtain⟨_,e,_⟩:=(show s1.heap.IsTuple l1 its.toArray from pl);exact Heap.lt_size e
   have a2:l2<s1.heap.objs.size:=by obtain⟨_,e,_⟩:=(show s1.heap.IsTuple l2 its2.toArray from t7);exact Heap.lt_size e
   refine B_ (show s1.heap.IsTuple l1 its.toArray from pl) (show s1.heap.IsTuple l2 its2.toArray from t7) fun h' hz hTI hTO hi1 hi2 kk=>?_
   have I2:Inv X pins σ H1 {s1 with heap:=h'}:=I1.kept (t':=s1.toks) kk
   refine wpAny_pyIter_zip hz ?_
   refine⟨s1.heap.objs.size+4,[s1.heap.objs.size+4,s1.heap.objs.size+3,s1.heap.objs.size,s1.heap.objs.size+1,s1.heap.objs.size+2],_,_,H1,rfl,I2,B0 l1 l2 _ _ _ _ _ (zipApart_new a1 a2),⟨hz,hTI,⟨_,_,hTO⟩,hi1,hi2⟩,fun c hc=>?_,q⟩
   have hle:s1.heap.objs.size≤c:=by
    have hc':c=s1.heap.objs.size+4∨c=s1.heap.objs.size+3∨c=s1.heap.objs.size∨c=s1.heap.objs.size+1∨c=s1.heap.objs.size+2:=by simpa using hc
    rcases hc' with q | q | q | q | q<;>(rw[q];first | exact Nat.le_add_right _ _ | exact Nat.le_refl _)
   exact I1.jB hle (I1.hok.fresh hle)
theorem B1 {K:PySem.W.Frag} {a b:Addr} {xs ys:List V} {g:TG} {tt:TT} {te:TE} {D:Addr} {σ:St} {H:Hp} {R:Hp→Prop} (Pv:Nat→St→Hp→Prop) (hlen:xs.length=ys.length) (h0:Pv 0 σ H) (hl:∀i σ H,i≤xs.length→Pv i σ H→aU K H a xs∧aU K H b ys)
  (hs:∀i x y p σ H,xs[i]? =some x→ys[i]? =some y→Pv i σ H→H p=none→g (.ref p) σ (upd H p (.tup [x,y])) fun σ2 H2=>tt σ2 H2 fun b H3=>if b=true then te σ2 H3 fun y H4=>∃ys,H4 D=some (.lst ys)∧ys.length<sizeLine∧Pv (i+1) σ2 (upd H4 D (.lst (ys++[y]))) else Pv (i+1) σ2 H3)
  (hd:∀σ H,Pv xs.length σ H→R H):j3 (D6 K a b) g tt te D σ H R:=by
 refine⟨fun i m σ H=>m=xs.length-i∧i≤xs.length∧Pv i σ H,⟨xs.length,by simp,Nat.zero_le _,h0⟩,?_⟩
 rintro i m σ H ⟨rfl,hi,p⟩
 obtain⟨q1,q2⟩:=hl i σ H hi p
 by_cases hlt:i<xs.length
 ·refine .inr ⟨⟨xs,ys,xs[i],ys[i]'(by omega),q1,q2,by simp[hlt],by simp[hlen▸hlt]⟩,Pv (i+1),fun σ' H' p'=>⟨xs.length-(i+1),by omega,rfl,hlt,p'⟩,fun v H' y=>?_⟩
  obtain⟨x,y,p',e1,e2,e3,rfl,rfl⟩:=y
  exact hs i x y p' σ H (e1 xs q1) (e2 ys q2) p e3
 ·have e:i=xs.length:=by omega
  subst e
  exact .inl ⟨⟨xs,ys,q1,q2,Nat.le_refl _⟩,hd σ H p⟩
theorem aX {t u:TS} {D:Ends} {σ:St} {H:Hp} (h:∀R:St→Hp→Prop,R=u D→t {D with nx:=R} σ H):pG t u D σ H:=h _ rfl
theorem nG {t u:TS} {D:Ends} {σ:St} {H:Hp} (Pv:St→Hp→Prop) (h1:∀σ H,Pv σ H→u D σ H) (h2:∀R:St→Hp→Prop,(∀σ H,Pv σ H→R σ H)→t {D with nx:=R} σ H):pG t u D σ H:=h2 _ h1
def Fj (J:It) (g:TG) (tb:TS) (D:Ends) (σ:St) (H:Hp):Prop:=∃W:Nat→Nat→St→Hp→Prop,(∃m,W 0 m σ H)∧∀i m σ H,W i m σ H→
 (J.stop i H∧D.nx σ H)∨(J.go i H∧∃N:St→Hp→Prop,(∀σ' H',N σ' H'→∃m',m'<m∧W (i+1) m' σ' H')∧∀x H',J.ql i H x H'→g x σ H' fun σ2 H2=>tb {D with nx:=N,ct:=N,bk:=D.nx} σ2 H2)
theorem D7 {K:PySem.W.Frag} {a:Addr} {xs:List V} {g:TG} {tb:TS} {D:Ends} {σ:St} {H:Hp} (Pv:Nat→St→Hp→Prop) (h0:Pv 0 σ H) (hl:∀i σ H,i≤xs.length→Pv i σ H→aU K H a xs)
  (hs:∀i x σ H (N:St→Hp→Prop),(∀σ H,Pv (i+1) σ H→N σ H)→xs[i]? =some x→Pv i σ H→g x σ H fun σ2 H2=>tb {D with nx:=N,ct:=N,bk:=D.nx} σ2 H2) (hd:∀σ H,Pv xs.length σ H→D.nx σ H):Fj (vL K a) g tb D σ H:=
 yC Pv h0 hl (fun i x σ H e p=>hs i x σ H _ (fun _ _ z=>z) e p) hd
theorem qJ {lo:Int} {n:Nat} {g:TG} {tb:TS} {D:Ends} {σ:St} {H:Hp} (Pv:Nat→St→Hp→Prop) (h0:Pv 0 σ H)
  (hs:∀i σ H (N:St→Hp→Prop),(∀σ H,Pv (i+1) σ H→N σ H)→i<n→Pv i σ H→g (.int (lo+i)) σ H fun σ2 H2=>tb {D with nx:=N,ct:=N,bk:=D.nx} σ2 H2) (hd:∀σ H,Pv n σ H→D.nx σ H):Fj (tM lo n) g tb D σ H:=
 j_ (lo:=lo) Pv h0 (fun i σ H e p=>hs i σ H _ (fun _ _ z=>z) e p) hd
theorem yZ {c:TT} {tb:TS} {D:Ends} {σ:St} {H:Hp} (W:Nat→St→Hp→Prop) (h0:∃m,W m σ H)
  (hs:∀m σ H (N:St→Hp→Prop),(∀σ' H' m',m'<m→W m' σ' H'→N σ' H')→W m σ H→c σ H fun b H1=>if b=true then tb {D with nx:=N,ct:=N,bk:=D.nx} σ H1 else D.nx σ H1)
  (mono:∀σ H Q Q',(∀b H1,Q b H1→Q' b H1)→c σ H Q→c σ H Q'):nh c tb D σ H:=IE W h0 (fun m σ H w=>hs m σ H _ (fun _ _ m' h w'=>⟨m',h,w'⟩) w) mono
section
variable {X:Cx} {pins:List (Addr×Obj)} {σ:St} {H:Hp} {s:Shared}
theorem D8 (I:Inv X pins σ H s) {T:Addr} {ps:Array Value} {L:List (Pos×Str)} {q:Pos×Str} (hT:H T=some (.f' ps)) (ht:TriplesOk ps.toList) (htab:∀p∈L,codeAmong p.1 ps.toList=none∨∃c,codeAmong p.1 ps.toList=some (.ref c)∧H c=some (j8 c p.2)) (hL:q∈L) (ap:Apart L)
  {c':Addr} {h':Heap} {tk:Tok} (o:Obj) (ho:o.isFreed=false) (hx:Heap.ExtBut T s.heap h') (hge:s.heap.objs.size≤c') (hlt:c'<h'.objs.size) (hrec:h'.CodeRec (.ref c') q.2) (htb:h'.get? T=some (PySem.W.tabObj (ps++ #[rawInt q.1.line,rawInt q.1.col,.ref c']))):
  ∃H',Inv X pins σ H' {s with heap:=h'.push o,toks:=tk}∧H h'.objs.size=none∧H' h'.objs.size=some (j7 h'.objs.size o)∧H' c'=some (j8 c' q.2)∧Tab H' T L∧KB T H H':=by
 have nc:H c'=none:=I.hok.fresh hge
 have BL:s.heap.objs.size≤h'.objs.size:=Nat.le_of_lt (Nat.lt_of_le_of_lt hge hlt)
 have nf:H h'.objs.size=none:=I.hok.fresh BL
 have fc:h'.objs.size≠c':=Nat.ne_of_gt hlt
 have Tc:T≠c':=aj hT nc
 have Tf:T≠h'.objs.size:=aj hT nf
 have keep:∀b u,b≠T→s.heap.get? b=some u→(h'.push o).get? b=some u:=fun b u hb e=>Heap.get?_push_of_some _ (hx b u hb e)
 obtain⟨H',hH⟩:∃H':Hp,H'=upd (upd (upd H T (.f' (ps++ #[rawInt q.1.line,rawInt q.1.col,.ref c']))) c' (j8 c' q.2)) h'.objs.size (j7 h'.objs.size o):=⟨_,rfl⟩
 have eT:H' T=some (.f' (ps++ #[rawInt q.1.line,rawInt q.1.col,.ref c'])):=by rw[hH,ak Tf,ak Tc,af]
 have ec:H' c'=some (j8 c' q.2):=by rw[hH,ak fc.symm,af]
 have ef:H' h'.objs.size=some (j7 h'.objs.size o):=by rw[hH,af]
 have eo:∀b,b≠T→b≠c'→b≠h'.objs.size→H' b=H b:=fun b h1 h2 h3=>by rw[hH,ak h3,ak h2,ak h1]
 have kb:KB T H H':=fun b u e hb=>by rw[eo b hb (aj e nc) (aj e nf)];exact e
 have hnew:∀b u,s.heap.get? b=some u→b≠c'∧b≠h'.objs.size:=fun b u e=>⟨Nat.ne_of_lt (Nat.lt_of_lt_of_le (Heap.lt_size e) hge),Nat.ne_of_lt (Nat.lt_of_lt_of_le (Heap.lt_size e) BL)⟩
 have D9:=Tab.grown (H:=H) (H':=H') hL ap ht htab eT ec fun b φ e=>kb b _ e fun z=>by rw[z,hT] at e;cases e
 have hok':cC X.prog X.w H' (h'.push o):=fun b u e=>by
  by_cases b1:b=T
  ·subst b1
   rw[eT] at e;cases e
   exact Heap.get?_push_of_some _ htb
  by_cases b2:b=c'
  ·subst b2
   rw[ec] at e;cases e
   exact BJ (hrec.push _)
  by_cases b3:b=h'.objs.size
  ·subst b3
   rw[ef] at e;cases e
   exact qC (Heap.get?_push_size _ ho)
  rw[eo b b1 b2 b3] at e
  refine(I.hok b u e).stay (fun d v hd z=>keep d v ?_ z) (fun d z=>kb d _ z ?_) fun d xs z=>kb d _ z ?_
  ·rintro rfl
   rcases hd with z' | z'
   ·exact b1 z'.symm
   ·rw[hT] at z';cases z'
  ·rintro rfl;rw[hT] at z;cases z
  ·rintro rfl;rw[hT] at z;cases z
 have neT:∀b,H b=none→b≠T:=fun b n z=>by rw[z,hT] at n;cases n
 refine⟨H',I.un ⟨fun b u e n _ _=>keep b u (neT b n) e,fun b u e n _ _=>⟨u.slots,keep b u (neT b n) e⟩,fun b u e n _=>by rw[eo b (neT b n) (hnew b u e).1 (hnew b u e).2];exact n,fun b u e _=>?_,fun b xs e=>kb b _ e fun z=>?_,fun b u v e=>kb b _ e fun z=>?_,fun b qs e=>?_⟩ hok',nf,ef,ec,D9,kb⟩
 ·by_cases hb:b=T
  ·subst hb;exact⟨_,Heap.get?_push_of_some _ htb⟩
  ·exact⟨u,keep b u hb e⟩
 ·rw[z,hT] at e;cases e
 ·rw[z,hT] at e;cases e
 ·by_cases hb:b=T
  ·subst hb
   rw[hT] at e;cases e
   exact⟨_,eT⟩
  ·exact⟨#[],by rw[kb b _ e hb];simp⟩
end
section
variable {X:Cx} {pos:Pos} {name:Str} {params:Arguments} {body:List Stmt} {scope:Scope} {c T:Addr} {clos:List (Str×Addr)} {L:List (Pos×Str)}
abbrev pU (X:Cx) (name:Str) (params:Arguments) (body:List Stmt) (scope:Scope) (clos:List (Str×Addr)) (doc:Value) (c':Addr) (ctv:Value):Obj:=PySem.W.fnMade name (qualnameIn X.env name name) params body scope clos doc ((X.mg "__name__").getD .none) c' ctv
def IK (X:Cx) (name:Str) (params:Arguments) (body:List Stmt) (scope:Scope) (clos:List (Str×Addr)) (T:Addr) (L:List (Pos×Str)) (i:Nat):TS:=fun D σ H=>
 Tab H T L∧∀f c' ctv doc H',H f=none→H' f=some (j7 f (pU X name params body scope clos doc c' ctv))→H' c'=some (j8 c' (qualnameIn X.env name name))→Tab H' T L→KB T H H'→D.nx (σ.set i (some (.ref f))) H'
theorem IL {i:Nat} (hN:X.N.Nodup) (hi:X.N[i]? =some name) (hx:Loc X.env.scope name) (hcode:X.env.code=.ref c) (C:PySem.W.CodeHd X.base c T) (hB:dW X.mg X.base) (hcl:closureFor scope X.env=pure clos) (hd0:params.defaults=[]) (hk0:params.kw_defaults=[]) (ha:annTrees params none X.env=[])
  (hL:(pos,qualnameIn X.env name name)∈L) (ap:Apart L) (hf:X.fn name=true∨X.env.scope.names.lookup name=some .local:=by first | exact .inl rfl | exact .inr rfl | assumption):
  PS X (.FunctionDef name params body [] none [] scope none name pos) (IK X name params body scope clos T L i):=by
 intro pins s σ H D I ⟨⟨ps,hT,ht,htab⟩,h⟩
 refine PySem.W.nestDef_K hd0 hk0 ha ?_
 have qD:s.heap.get? T=some (PySem.W.tabObj ps):=I.hok T _ hT
 have hg:s.heap.Ns mainGlobals X.mg:=I.ok.mod.glob.keeps I.bk
 have Iz:mainGlobals≠T:=fun q=>by
  obtain⟨o,es,ep,e,hd,_⟩:=hg
  rw[q,qD] at e;cases e;cases hd
 have wu:s.heap.BuiltinsAt X.mg T:=by
  obtain⟨bm,o,h1,h2,h3,h4,h5,h6⟩:=hB
  refine⟨bm,o,h1,h2,fun q=>?_,fun q=>?_,I.bk _ _ h3,h4,h5,h6⟩
  ·obtain⟨o',es,ep,e,hd,_⟩:=I.ok.mod.glob
   rw[q,e] at h3;cases h3;rw[hd] at h6;cases h6
  ·have:=I.bk _ _ h3
   rw[q,qD] at this;cases this;cases h4
 have BK:=C.keeps I.bk
 rcases htab _ hL with hn | ⟨c',hc',IA⟩
 ·refine PySem.W.makeFunction_K (mg:=X.mg) hcl I.ok.glob hg hcode BK qD ht hn Iz wu fun c' ctv doc h' tk hx' hge hlt hrec htb=>?_
  obtain⟨H',I',nf,ef,ec,D9,kb⟩:=D8 (tk:=tk) I hT ht htab hL ap (pU X name params body scope clos doc c' ctv) rfl hx' hge hlt hrec htb
  exact lK I' hN hi hx (v:=.ref h'.objs.size) rfl (fun s' IM=>⟨_,H',IM,h _ _ _ _ _ nf ef ec D9 kb⟩) hf
 ·refine PySem.W.makeFunction_hit (mg:=X.mg) hcl I.ok.glob hg hcode BK qD ht hc' wu fun ctv doc h' tk hk hsz=>?_
  have nf:H h'.objs.size=none:=I.hok.fresh hsz
  have keep:∀b o,s.heap.get? b=some o→(h'.push (pU X name params body scope clos doc c' ctv)).get? b=some o:=fun b o e=>Heap.get?_push_of_some _ (hk b o e)
  have kb:Same H (upd H h'.objs.size (j7 h'.objs.size (pU X name params body scope clos doc c' ctv))):=fun b o e=>by rw[ak (aj e nf)];exact e
  have I':=I.laid (t':=tk) keep hsz (qC (P:=X.prog) (w:=X.w) (H:=upd H h'.objs.size (j7 h'.objs.size (pU X name params body scope clos doc c' ctv))) (Heap.get?_push_size _ rfl))
  exact lK I' hN hi hx (v:=.ref h'.objs.size) rfl (fun s' IM=>⟨_,_,IM,h _ c' ctv doc _ nf af (kb _ _ IA) (Tab.same ⟨ps,hT,ht,htab⟩ kb) fun b o e _=>kb b o e⟩) hf
end
def Mg (K:PySem.W.Frag) (ta:TA):TI:=fun σ H R=>Ig K ta σ H R∨Fi K ta σ H R
theorem GQ {X:Cx} {elts:List Expr} {x1} {tpos:Pos} {a b:Expr} {ta:TA} {p pos:Pos} (hg:Gl X "zip") (hm:X.mg "zip"=none) (ha:PA X [a,b] ta)
  (hs:starEach [a,b] X.env=[(false,eval a X.env),(false,eval b X.env)]:=by rfl) (hs2:starEach [b] X.env=[(false,eval b X.env)]:=by rfl):
  PI X (.Tuple elts x1 tpos) (.Call (.Name "zip" p) [a,b] [] pos) (Mg X.K ta):=by
 intro pins s σ H R I h
 rcases h with h | h
 ·exact Bw hg hm ha hs hs2 pins s σ H R I h
 ·exact GP hg hm ha hs hs2 pins s σ H R I h
theorem wF {K:PySem.W.Frag} {a b:Addr} {xs ys:List V} {g:TG} {tt:TT} {te:TE} {D:Addr} {σ:St} {H:Hp} {R:Hp→Prop} (Pv:Nat→St→Hp→Prop) (hlen:xs.length=ys.length) (h0:Pv 0 σ H) (hl:∀i σ H,i≤xs.length→Pv i σ H→bp K H a xs∧bp K H b ys)
  (hs:∀i x y p σ H,xs[i]? =some x→ys[i]? =some y→Pv i σ H→H p=none→g (.ref p) σ (upd H p (.tup [x,y])) fun σ2 H2=>tt σ2 H2 fun b H3=>if b=true then te σ2 H3 fun y H4=>∃ys,H4 D=some (.lst ys)∧ys.length<sizeLine∧Pv (i+1) σ2 (upd H4 D (.lst (ys++[y]))) else Pv (i+1) σ2 H3)
  (hd:∀σ H,Pv xs.length σ H→R H):j3 (Ie K a b) g tt te D σ H R:=by
 refine⟨fun i m σ H=>m=xs.length-i∧i≤xs.length∧Pv i σ H,⟨xs.length,by simp,Nat.zero_le _,h0⟩,?_⟩
 rintro i m σ H ⟨rfl,hi,p⟩
 obtain⟨q1,q2⟩:=hl i σ H hi p
 by_cases hlt:i<xs.length
 ·refine .inr ⟨⟨xs,ys,xs[i],ys[i]'(by omega),q1,q2,by simp[hlt],by simp[hlen▸hlt]⟩,Pv (i+1),fun σ' H' p'=>⟨xs.length-(i+1),by omega,rfl,hlt,p'⟩,fun v H' y=>?_⟩
  obtain⟨x,y,p',e1,e2,e3,rfl,rfl⟩:=y
  exact hs i x y p' σ H (e1 xs q1) (e2 ys q2) p e3
 ·have e:i=xs.length:=by omega
  subst e
  exact .inl ⟨⟨xs,ys,q1,q2,.inl (Nat.le_refl _)⟩,hd σ H p⟩
theorem gX:∀(names:List (Str×NameKind)) (n:Nat) (acc:List (Str×Addr)),cellsFrom n names acc=cellsFrom n names []++acc
 | [],_,_=>rfl
 | (name,kind)::r,n,acc=>by
  unfold cellsFrom
  split
  ·rw[gX r (n+1) ((name,n)::acc),gX r (n+1) [(name,n)],List.append_assoc];rfl
  ·exact gX r n acc
theorem nH:∀{names:List (Str×NameKind)} {n:Nat} {acc:List (Str×Addr)} {x:Str} {c:Addr},(x,c)∈cellsFrom n names acc→(x,NameKind.cell)∈names∨(x,c)∈acc
 | [],_,_,_,_,h=>.inr h
 | (name,kind)::r,n,acc,x,c,h=>by
  unfold cellsFrom at h
  split at h
  ·rename_i hk
   rcases nH h with z | z
   ·exact .inl (List.mem_cons_of_mem _ z)
   ·rcases List.mem_cons.mp z with z | z
    ·cases z
     refine .inl ?_
     rw[show kind=NameKind.cell by simpa using hk]
     exact List.mem_cons_self
    ·exact .inr z
  ·rcases nH h with z | z
   ·exact .inl (List.mem_cons_of_mem _ z)
   ·exact .inr z
theorem GR {M:Model} {A:Around} {E:Value→Shared→Prop} {s:Shared} {scope:Scope} {globals:Addr} {closure:List (Str×Addr)} {binds:List (Str×Value)} {qual:Str} {func:Option Addr} {code:Value} {builtins:Addr} {Q:Env→Shared→Prop}
  (hl:∀x∈binds,scope.names.lookup x.1=some .local)
  (hQ:∀h',h'.Ns s.heap.objs.size (fun x=>binds.reverse.lookup x)→Heap.SameBut s.heap.objs.size (pushCells (s.heap.push {cls:=.type "frame",data:=.dict #[]}) scope.names) h'→
   Q (newEnv scope s.heap.objs.size globals (cellsFrom (s.heap.objs.size+1) scope.names closure) qual func code none builtins) {s with heap:=h',toks:=s.toks+binds.length})
  (hk:scope.kind=.function):wpAny M A (newFunctionEnv scope globals closure binds qual func code none builtins) Q E s:=by
 simp only[newFunctionEnv,Option.isSome_none,Bool.false_eq_true,if_false]
 refine wpAny_bind (wpAny_alloc ?_)
 refine wpAny_bind (wpAny_layCells _ (fun name kind cells=>by cases hkc:kind == NameKind.cell<;>simp[hkc]) _ _ _ _ ?_)
 rw[show({s with heap:=s.heap.push {cls:=.type "frame",data:=.dict #[]}}:Shared).heap.objs.size=s.heap.objs.size+1 from Heap.size_push ..]
 generalize hcs:cellsFrom (s.heap.objs.size+1) scope.names closure=cs at hQ ⊢
 refine wpAny_bind ?_
 refine wpAny_forIn_list _
  (fun rest _ s'=>∃done h',binds=done++rest∧s'={s with heap:=h',toks:=s.toks+done.length}∧h'.Ns s.heap.objs.size (fun x=>done.reverse.lookup x)∧Heap.SameBut s.heap.objs.size (pushCells (s.heap.push {cls:=.type "frame",data:=.dict #[]}) scope.names) h') _ ?_ ?_ binds _
  ⟨[],_,rfl,rfl,(Heap.Ns.new s.heap (.type "frame")).keeps (pushCells_keeps _ _),Heap.SameBut.refl ..⟩
 ·rintro⟨name,v⟩ rest _ s' ⟨done,h',hb,rfl,hns,hsb⟩
  have hk':Env.kindOf {scope,locals:=s.heap.objs.size,globals,cells:=cs,qual,func,code,frame:=some s.heap.objs.size,builtins} name=some .local:=hl (name,v) (by rw[hb];simp)
  have hp:(({scope,locals:=s.heap.objs.size,globals,cells:=cs,qual,func,code,frame:=some s.heap.objs.size,builtins}:Env).scope.kind == .class||(({scope,locals:=s.heap.objs.size,globals,cells:=cs,qual,func,code,frame:=some s.heap.objs.size,builtins}:Env).scope.kind == .module&&
    ({scope,locals:=s.heap.objs.size,globals,cells:=cs,qual,func,code,frame:=some s.heap.objs.size,builtins}:Env).locals != ({scope,locals:=s.heap.objs.size,globals,cells:=cs,qual,func,code,frame:=some s.heap.objs.size,builtins}:Env).globals))=false:=by
   show(scope.kind == .class||(scope.kind == .module&&_))=false
   rw[hk];rfl
  simp only[storeName_local hk' hp]
  refine wpAny_bind (wpAny_nsSet hns fun h'' hns' hsb'=>wpAny_pure ⟨done++[(name,v)],h'',by simp[hb],?_,?_,hsb.trans hsb'⟩)
  ·simp[Nat.add_assoc]
  ·rw[lookup_reverse_snoc];exact hns'
 ·rintro _ s' ⟨done,h',hb,rfl,hns,hsb⟩
  rw[List.append_nil] at hb;subst hb
  exact wpAny_pure (hQ h' hns hsb)
structure nI (ps aB:List Str) (scope:Scope):Prop where
 kind:scope.kind=.function
 co:scope.isCoroutine=false
 gen:scope.isGenerator=false
 par:∀x∈ps,scope.names.lookup x=some .local
 free:∀x∈aB,scope.names.lookup x=some .free
 only:∀p∈scope.names,p.2=.free→p.1∈aB
 O6:∀p∈scope.names,p.2=.cell→p.1 ∉ aB
 nd:(ps++aB).Nodup
def rV (scope:Scope) (x:Str):Bool:=match scope.names.lookup x with | some .cell=>true | _=>false
def B2 (P:Program) (w:World) (K:PySem.W.Frag) (mg:Str→Option Value) (base:Heap) (N:List Str) (qual:Str) (scope:Scope) (f:Addr) (cd:Value) (cl:List (Str×Addr)) (A:Around) (outer:List Env) (s:Shared) (H:Hp):Cx where
 prog:=P
 w:=w
 K:=K
 mg:=mg
 base:=base
 A:=A.deeper (PySem.W.envX qual scope s.heap.objs.size f cd (cellsFrom (s.heap.objs.size+1) scope.names cl))
 N:=N
 s₀:=s
 H₀:=H
 env:=PySem.W.envX qual scope s.heap.objs.size f cd (cellsFrom (s.heap.objs.size+1) scope.names cl)
 outer:=outer
 stack:=PySem.W.envX qual scope s.heap.objs.size f cd (cellsFrom (s.heap.objs.size+1) scope.names cl)::outer
 ex:=[]
 calm:=true
 fn:=rV scope
 pn:=[]
 xe:=fun _ _=>False
theorem g9 {n:Nat} {names:List (Str×NameKind)} {cl:List (Str×Addr)} {x:Str} {c:Addr} (h:(cellsFrom n names cl).lookup x=some c):(cellsFrom n names []).lookup x=some c∨((cellsFrom n names []).lookup x=none∧cl.lookup x=some c):=by
 rw[gX,List.lookup_append] at h
 cases e:(cellsFrom n names []).lookup x with
 | none=>rw[e] at h;exact .inr ⟨rfl,h⟩
 | some d=>rw[e] at h;exact .inl h
theorem inv_def {P:Program} {w:World} {K:PySem.W.Frag} {mg:Str→Option Value} {base:Heap} {ps aB:List Str} (ls:List Str) {qual:Str} {scope:Scope} {f:Addr} {cd:Value} {cl:List (Str×Addr)} {A:Around} {outer:List Env} {s:Shared} {H:Hp} {us:List Value} {vs fvs:List V} {h1:Heap} {tk:Nat}
  (S:nI ps aB scope) (hd:A.handled=none) (e0:pH P w K mg base A outer s H) (hl:vs.length=ps.length) (r:Vals vs us) (C:ij base cl aB fvs)
  (hns:h1.Ns s.heap.objs.size fun x=>(ps.zip us).reverse.lookup x) (hsb:Heap.SameBut s.heap.objs.size (pushCells (s.heap.push {cls:=.type "frame",data:=.dict #[]}) scope.names) h1):
  Inv (B2 P w K mg base (ps++aB++ls) qual scope f cd cl A outer s H) [] (vs.map some++fvs.map some++ls.map fun _=>none) H {s with heap:=h1,toks:=tk}:=by
 have hk:∀b o,s.heap.get? b=some o→h1.get? b=some o:=fun b o e=>hsb.extBut b o (Nat.ne_of_lt (Heap.lt_size e)) (pushCells_keeps _ _ b o (Heap.get?_push_of_some _ e))
 have hkb:∀b o,base.get? b=some o→h1.get? b=some o:=fun b o e=>hk b o (e0.bs b o e).1
 have j0:∀b:Addr,b ∉ (B2 P w K mg base (ps++aB++ls) qual scope f cd cl A outer s H).ex:=fun b z=>absurd (show b∈([]:List Addr) from z) (by simp)
 have lf:aB.length=fvs.length:=Paired.length C.vals
 have ok:=cellsFrom_ok scope.names (s.heap.push {cls:=.type "frame",data:=.dict #[]}) (s.heap.objs.size+1) [] ⟨fun _ _ hm=>(nomatch hm),List.Pairwise.nil⟩ (by rw[Heap.size_push];exact Nat.le_refl _)
 rw[Heap.size_push] at ok
 have own:∀{x:Str} {c:Addr},(cellsFrom (s.heap.objs.size+1) scope.names []).lookup x=some c→h1.IsCell c none∧s.heap.objs.size<c:=fun {x c} e=>by
  obtain⟨i1,i2⟩:=ok.empty x c (PySem.mem_of_lookup e)
  exact⟨i1.sameBut hsb (Nat.ne_of_gt i2),i2⟩
 have old:∀{x:Str} {c:Addr},cl.lookup x=some c→c<s.heap.objs.size:=fun {x c} e=>by
  obtain⟨v,o,ho,_⟩:=C.cell x c e
  exact Heap.lt_size (e0.bs _ _ ho).1
 refine⟨⟨e0.mod,S.kind,rfl,rfl,Nat.le_refl _,fun y z c h1' h2'=>?_,fun y hy=>?_,fun y c hf h=>?_,fun _=>hd,Around.frames_deeper e0.frames,.inr ⟨rfl,rfl⟩,fun b z=>absurd z (j0 b),e0.bs,e0.m8,fun b _ _=>j0 b,fun b z=>absurd z (j0 b),e0.g_,e0.tI⟩,
  rfl,e0.bare,Un.kept hk,⟨_,hns,fun i y v h1' h2 h3=>?_⟩,fun y c h=>?_,e0.hok.fresh (Nat.le_refl _),fun y c h=>?_,fun p hp=>absurd (show p∈([]:List (Addr×Obj)) from hp) (by simp),e0.hok.kept hk,?_⟩
 ·rcases g9 h1' with a1 | ⟨_,a1⟩<;>rcases g9 h2' with a2 | ⟨_,a2⟩
  ·exact name_of_addr ok.apart (PySem.mem_of_lookup a1) (PySem.mem_of_lookup a2)
  ·exact absurd (own a1).2 (Nat.not_lt.mpr (Nat.le_of_lt (old a2)))
  ·exact absurd (own a2).2 (Nat.not_lt.mpr (Nat.le_of_lt (old a1)))
  ·exact C.inj y z c a1 a2
 ·have hy:scope.names.lookup y=some .cell∨scope.names.lookup y=some .free:=hy
  show ∃c,(cellsFrom (s.heap.objs.size+1) scope.names cl).lookup y=some c
  rw[gX,List.lookup_append]
  cases e:(cellsFrom (s.heap.objs.size+1) scope.names []).lookup y with
  | some c=>exact⟨c,rfl⟩
  | none=>
   rcases hy with hy | hy
   ·obtain⟨c,q⟩:=fz (n:=s.heap.objs.size+1) hy
    rw[e] at q;cases q
   ·have hm:=S.only _ (PySem.mem_of_lookup hy) rfl
    obtain⟨i,hi⟩:=List.getElem?_of_mem hm
    obtain⟨v,_,c,u,hc,_⟩:=eV C.vals hi
    exact⟨c,hc⟩
 ·have hf':rV scope y=true:=hf
  have hy:scope.names.lookup y=some .cell:=by
   unfold rV at hf'
   split at hf'
   ·assumption
   ·cases hf'
  obtain⟨c',q⟩:=fz (n:=s.heap.objs.size+1) hy
  rcases g9 (show(cellsFrom (s.heap.objs.size+1) scope.names cl).lookup y=some c from h) with a1 | ⟨a0,_⟩
  ·exact Nat.le_of_lt (own a1).2
  ·rw[a0] at q;cases q
 ·have g8:(ps++aB++ls)[i]? =some y:=h1'
  have h2':(vs.map some++fvs.map some++ls.map fun _=>(none:Option V))[i]? =some (some v):=h2
  by_cases hi2:i<(ps++aB).length
  ·rw[List.getElem?_append_left hi2] at g8
   rw[List.getElem?_append_left (by rw[List.length_append,List.length_map,List.length_map,hl,←lf];rw[List.length_append] at hi2;exact hi2)] at h2'
   by_cases hi:i<ps.length
   ·rw[List.getElem?_append_left hi] at g8
    rw[List.getElem?_append_left (by rw[List.length_map];omega),List.getElem?_map] at h2'
    obtain⟨v',hv',e⟩:=Option.map_eq_some_iff.mp h2'
    have e':v'=v:=Option.some.inj e
    subst e'
    obtain⟨u,hu,rv⟩:=r.get hv'
    have yG:ps.Nodup:=(List.nodup_append.mp S.nd).1
    exact⟨u,rv,.inl ⟨S.par y (List.mem_of_getElem? g8),yU yG (by rw[←hl,r.length];exact Nat.le_refl _) g8 hu⟩⟩
   ·rw[List.getElem?_append_right (by omega)] at g8
    rw[List.getElem?_append_right (by rw[List.length_map];omega),List.length_map,hl,List.getElem?_map] at h2'
    obtain⟨v',hv',e⟩:=Option.map_eq_some_iff.mp h2'
    have e':v'=v:=Option.some.inj e
    subst e'
    obtain⟨v2,hv2,c,u,hc,⟨o,ho,hd'⟩,rv⟩:=eV C.vals g8
    rw[hv'] at hv2
    cases hv2
    have hm:=List.mem_of_getElem? g8
    refine⟨u,rv,.inr ⟨.inr (S.free y hm),c,?_,o,hkb _ _ ho,hd'⟩⟩
    show(cellsFrom (s.heap.objs.size+1) scope.names cl).lookup y=some c
    rw[gX,List.lookup_append]
    cases e:(cellsFrom (s.heap.objs.size+1) scope.names []).lookup y with
    | none=>exact hc
    | some d=>
     rcases nH (PySem.mem_of_lookup e) with z | z
     ·exact absurd hm (S.O6 _ z rfl)
     ·cases z
  ·rw[List.getElem?_append_right (by rw[List.length_append,List.length_map,List.length_map,hl,←lf];rw[List.length_append] at hi2;omega),List.getElem?_map] at h2'
   obtain⟨_,_,e⟩:=Option.map_eq_some_iff.mp h2'
   cases e
 ·rcases g9 (show(cellsFrom (s.heap.objs.size+1) scope.names cl).lookup y=some c from h) with a1 | ⟨_,a1⟩
  ·exact⟨_,(own a1).1⟩
  ·obtain⟨v,o,ho,hd'⟩:=C.cell y c a1
   exact⟨v,o,hkb _ _ ho,hd'⟩
 ·rcases g9 (show(cellsFrom (s.heap.objs.size+1) scope.names cl).lookup y=some c from h) with a1 | ⟨_,a1⟩
  ·exact e0.hok.fresh (Nat.le_of_lt (own a1).2)
  ·obtain⟨v,o,ho,hd'⟩:=C.cell y c a1
   exact(e0.bs c o ho).2
 ·show _=(ps++aB++ls).length
  rw[List.length_append,List.length_append,List.length_map,List.length_map,List.length_map,List.length_append,List.length_append,hl,lf]
theorem GS {P:Program} {w:World} {K:PySem.W.Frag} {mg:Str→Option Value} {base:Heap} {k:Nat} {f c':Addr} {name qual:Str} {params:Arguments} {body:List Stmt} {scope:Scope} {cl:List (Str×Addr)} {doc pm ctv:Value} {ps aB ls:List Str} {fvs:List V} {sp:Sp}
  (ho:base.get? f=some (PySem.W.fnMade name qual params body scope cl doc pm c' ctv)) (wt:base.CodeRec (.ref c') qual) (S:nI ps aB scope) (C:ij base cl aB fvs) (len:∀vs H Q E,sp vs H Q E→vs.length=ps.length)
  (hbody:∀(A:Around) (outer:List Env) (s:Shared) (H:Hp) (vs:List V) (Q:VK) (E:XK),aP k (A.deeper (PySem.W.envX qual scope s.heap.objs.size f (.ref c') (cellsFrom (s.heap.objs.size+1) scope.names cl)))→sp vs H Q E→
   ∃t,jf (B2 P w K mg base (ps++aB++ls) qual scope f (.ref c') cl A outer s H) body t∧t {nx:=fun _ H'=>Q .non H',rt:=Q} (vs.map some++fvs.map some++ls.map fun _=>none) H):
  aQ P w K mg base bj (k+1) f (PySem.W.fnX name qual params body scope cl .none .none doc pm none (.ref c') ctv) ps sp:=by
 refine⟨len,fun A outer s H args us vs Q E hr e0 hb r hsp=>?_⟩
 have hl:=len _ _ _ _ hsp
 have lim:s.heap.NoLimit:=e0.mod.nolimit.keeps fun b o e=>(e0.bs b o e).1
 have D_:s.heap.CodeRec (.ref c') qual:=by
  obtain⟨c,oc,vs',tq,hc,hoc,hdc,hq⟩:=wt
  exact⟨c,oc,vs',tq,hc,(e0.bs _ _ hoc).1,hdc,hq⟩
 refine codeAny_call_function hr.depth (e0.bs _ _ ho).1 rfl S.co S.gen rfl D_ (hb _ _ _ _ ?_)
 have hloc:∀y∈ps.zip us,scope.names.lookup y.1=some .local:=fun⟨n,v⟩ hy=>S.par n (List.of_mem_zip hy).1
 refine GR hloc (fun h₁ hns hsb=>?_) S.kind
 have hk:∀b o,s.heap.get? b=some o→h₁.get? b=some o:=fun b o e=>hsb.extBut b o (Nat.ne_of_lt (Heap.lt_size e)) (pushCells_keeps _ _ b o (Heap.get?_push_of_some _ e))
 refine⟨lim.keeps hk,?_⟩
 obtain⟨t,ht,hq⟩:=hbody A outer s H vs Q E (hr.deeper _) hsp
 have I:=inv_def (tk:=s.toks+(ps.zip us).length) (qual:=qual) (f:=f) (cd:=.ref c') ls S hr.hd e0 hl r C hns hsb
 refine codeAny_func (wpAny_mono (ht [] _ _ H _ I hq) (fun fl s' hs=>?_) fun e s' hs=>hs.elim)
 have fin:∀{σ':St} {H':Hp} {v:V} {u:Value},Inv (B2 P w K mg base (ps++aB++ls) qual scope f (.ref c') cl A outer s H) [] σ' H' s'→RelV v u→Q v H'→CE outer P w H s Q u s':=
  fun {σ' H' v u} J rv q=>⟨v,H',J.os,J.bare,J.base,J.hok,rv,q⟩
 cases fl with
 | ret u=>
  obtain⟨v,σ',H',J,rv,q⟩:=hs
  exact fin J rv q
 | next=>
  obtain⟨σ',H',J,q⟩:=hs
  exact fin (v:=V.non) (u:=Value.none) J rfl q
 | brk=>
  obtain⟨_,_,_,q⟩:=hs
  exact False.elim q
 | cont=>
  obtain⟨_,_,_,q⟩:=hs
  exact False.elim q
theorem FnAt.Mh {X:Cx} {σ:St} {D:List Addr} {H:Hp} {base':Heap} {name:Str} {params:Arguments} {body:List Stmt} {scope:Scope} {clos:List (Str×Addr)} {c' f:Addr} {doc ctv:Value} {ps aB ls:List Str} {fvs:List V} {k:Nat} {sp:Sp} (W:Wide X σ D H base')
  (hf:H f=some (j7 f (pU X name params body scope clos doc c' ctv))) (IG:f∈D) (hc:H c'=some (j8 c' (qualnameIn X.env name name))) (hcD:c'∈D) (S:nI ps aB scope) (sub:∀p∈clos,X.env.cells.lookup p.1=some p.2)
  (vals:Paired (fun(x:Str) (v:V)=>∃i:Nat,X.N[i]? =some x∧σ[i]? =some (some v)∧X.env.scope.names.lookup x=some .cell∧clos.lookup x=X.env.cells.lookup x) aB fvs)
  (hb:∀(us:List Value),us.length=ps.length→bindArgs (PySem.W.fnX name (qualnameIn X.env name name) params body scope clos .none .none doc ((X.mg "__name__").getD .none) none (.ref c') ctv) ⟨us,[]⟩=pure (ps.zip us)) (len:∀vs H Q E,sp vs H Q E→vs.length=ps.length)
  (hbody:∀(A:Around) (outer:List Env) (s:Shared) (H:Hp) (vs:List V) (Q:VK) (E:XK),aP k (A.deeper (PySem.W.envX (qualnameIn X.env name name) scope s.heap.objs.size f (.ref c') (cellsFrom (s.heap.objs.size+1) scope.names clos)))→sp vs H Q E→
   ∃t,jf (B2 X.prog X.w X.K X.mg base' (ps++aB++ls) (qualnameIn X.env name name) scope f (.ref c') clos A outer s H) body t∧t {nx:=fun _ H'=>Q .non H',rt:=Q} (vs.map some++fvs.map some++ls.map fun _=>none) H):FnAt X.prog X.w X.K X.mg base' (k+1) f ps.length sp:=by
 have ho:base'.get? f=some (pU X name params body scope clos doc c' ctv):=W.ext f _ IG hf
 have wt:base'.CodeRec (.ref c') (qualnameIn X.env name name):=W.ext c' _ hcD hc
 have sub':∀x c,clos.lookup x=some c→X.env.cells.lookup x=some c:=fun x c e=>sub (x,c) (PySem.mem_of_lookup e)
 have C:ij base' clos aB fvs:=by
  refine⟨fun x y c h1 h2=>W.inj x y c (sub' x c h1) (sub' y c h2),fun x c h=>W.cell x c (sub' x c h),Paired.lJ vals fun x v ⟨i,h1,h2,h3,h4⟩=>?_⟩
  obtain⟨c,u,e1,e2,e3⟩:=W.val i x v h1 h2 h3
  exact⟨c,u,h4.trans e1,e2,e3⟩
 exact⟨_,_,ps,ho,rfl,rfl,hb,GS ho wt S C len hbody⟩
def wG (P:Program) (w:World) (H:Hp) (a:Addr) (y:V) (o:Option V):Prop:=∀(X:Cx) (pins:List (Addr×Obj)) (σ:St) (s:Shared) (u:Value),X.prog=P→X.w=w→Inv X pins σ H s→RelV y u→s.TypeIs (.ref a) "dict"∧
 ∀(A:Around) (E:Value→Shared→Prop),A.units+1<cLine→
  (∀(v:V) (Q:Value→Shared→Prop),o=some v→(∀w' s',Inv X pins σ H s'→RelV v w'→Q w' s')→wpAny (model X.prog X.w) A (getItem (.ref a) u) Q E s)∧
  (∀Q:Value→Shared→Prop,(∀s',Inv X pins σ H s'→Q (.bool o.isSome) s')→wpAny (model X.prog X.w) A (compareOp .In u (.ref a)) Q E s)∧
  ∀Q:Value→Shared→Prop,(∀s',Inv X pins σ H s'→Q (.bool (!o.isSome)) s')→wpAny (model X.prog X.w) A (compareOp .NotIn u (.ref a)) Q E s
def D' (P:Program) (w:World) (H:Hp) (a:Addr) (y v:V) (H':Hp):Prop:=∀(X:Cx) (pins:List (Addr×Obj)) (σ:St) (s:Shared) (u r:Value),X.prog=P→X.w=w→Inv X pins σ H s→RelV y u→RelV v r→
 ∀(A:Around) (E:Value→Shared→Prop) (Q:Unit→Shared→Prop),A.units+1<cLine→(∀s',Inv X pins σ H' s'→Q () s')→wpAny (model X.prog X.w) A (setItem (.ref a) u r) Q E s
def Mi (P:Program) (w:World) (td ty:TE):TE:=fun σ H Q=>td σ H fun x H1=>ty σ H1 fun y H2=>∃a v,x=.ref a∧wG P w H2 a y (some v)∧Q v H2
def GU (P:Program) (w:World) (ty td:TE):TE:=fun σ H Q=>ty σ H fun y H1=>td σ H1 fun x H2=>∃a o,x=.ref a∧wG P w H2 a y o∧Q (.bl (!o.isSome)) H2
def Mj (P:Program) (w:World) (td ty tv:TE):TS:=fun D σ H=>tv σ H fun v H1=>td σ H1 fun x H2=>ty σ H2 fun y H3=>∃a H4,x=.ref a∧D' P w H3 a y v H4∧D.nx σ H4
section
variable {X:Cx} {P:Program} {w:World} {o i e value:Expr} {pos pos' tpos:Pos} {td ty tv:TE}
theorem y_ (hu:X.A.units+1<cLine) (ho:PE X o td) (hi:PE X i ty) (hs:DC i) (hP:X.prog=P:=by rfl) (hw:X.w=w:=by rfl):PE X (.Subscript o i pos) (Mi P w td ty):=by
 intro pins s σ H Q I h
 refine yL PySem.F.slot_dict_getitem.lookup hs (aE (ho pins s σ H _ I h) fun u s1 ⟨x,H1,I1,rx,q1⟩=>aE (hi pins s1 σ H1 _ I1 q1) fun iv s2 ⟨y,H2,I2,ry,a,v,ex,g,q2⟩=>?_)
 subst ex
 obtain rfl:u=Value.ref a:=rx
 obtain⟨t1,g1⟩:=g X pins σ s2 iv hP hw I2 ry
 exact⟨t1,(g1 _ _ hu).1 v _ rfl fun w' s3 I3 jE=>⟨v,H2,I3,jE,q2⟩⟩
theorem ui (hu:X.A.units+1<cLine) (hi:PE X i ty) (ho:PE X o td) (hP:X.prog=P:=by rfl) (hw:X.w=w:=by rfl):PC X .NotIn i o (GU P w ty td):=by
 intro pins s σ H Q I h
 refine aE (hi pins s σ H _ I h) fun iv s1 ⟨y,H1,I1,ry,q1⟩=>aE (ho pins s1 σ H1 _ I1 q1) fun u s2 ⟨x,H2,I2,rx,a,ov,ex,g,q2⟩=>?_
 subst ex
 obtain rfl:u=Value.ref a:=rx
 obtain⟨t1,g1⟩:=g X pins σ s2 iv hP hw I2 ry
 exact(g1 _ _ hu).2.2 _ fun s3 I3=>⟨.bl (!ov.isSome),H2,I3,rfl,q2⟩
theorem y6 (hu:X.A.units+1<cLine) (ho:PE X o td) (hi:PE X i ty) (hv:PE X value tv) (hs:swapsWith value (some (.Subscript o i pos')) pos.line X.env=pure false) (hP:X.prog=P:=by rfl) (hw:X.w=w:=by rfl):
  PS X (.Assign [.Subscript o i pos'] value pos) (Mj P w td ty tv):=by
 intro pins s σ H D I h
 refine wpAny_Assign_Subscript (aE (hv pins s σ H _ I h) fun r s1 ⟨v,H1,I1,rv,q1⟩=>aE (ho pins s1 σ H1 _ I1 q1) fun u s2 ⟨x,H2,I2,rx,q2⟩=>aE (hi pins s2 σ H2 _ I2 q2) fun iv s3 ⟨y,H3,I3,ry,a,H4,ex,g,q3⟩=>?_) hs
 subst ex
 obtain rfl:u=Value.ref a:=rx
 exact g X pins σ s3 iv r hP hw I3 ry rv _ _ _ hu fun s4 I4=>⟨σ,H4,I4,q3⟩
end
structure jk (P:Program) (w:World) (α:Type) where
 Rep:α→V→Hp→Prop
 Num:Hp→Addr→List α→Prop
 same:∀{x:α} {v:V} {H H':Hp},Rep x v H→aZ H H'→Rep x v H'
 keep:∀{H H':Hp} {D:Addr} {xs:List α},Num H D xs→H' D=H D→Num H' D xs
 isD:∀{H:Hp} {D:Addr} {xs:List α},Num H D xs→∃o,H D=some o∧(∀l,o≠.lst l)∧(∀l,o≠.tup l)
 there:∀{H:Hp} {D:Addr} {xs:List α} {i:Nat} {x:α} {v:V},Num H D xs→Rep x v H→xs.Nodup→xs[i]? =some x→wG P w H D v (some (.int ((i:Nat):Int)))
 miss:∀{H:Hp} {D:Addr} {xs:List α} {x:α} {v:V},Num H D xs→Rep x v H→x ∉ xs→wG P w H D v none
 put:∀{H:Hp} {D:Addr} {xs:List α} {x:α} {v:V},Num H D xs→Rep x v H→x ∉ xs→xs.length<sizeLine→∃H',D' P w H D v (.int ((xs.length:Nat):Int)) H'∧KB D H H'∧Num H' D (xs++[x])
 Ea:∀{X:Cx} {pos kpos cpos:Pos} {x:Str} {i j:Nat},X.A.units+1<cLine→PE X (.Name x kpos) (Du i)→PE X (.Constant (.int 0) j cpos) (tC (.int 0))→X.prog=P→X.w=w→PE X (.Dict [some (.Name x kpos)] [.Constant (.int 0) j cpos] pos)
  (fun σ H Q=>∃y v,σ[i]? =some (some v)∧Rep y v H∧∀D H',H D=none→Same H H'→Num H' D [y]→Q (.ref D) H')
def Fl:Option Int→Value→Bool
 | none,.none=>true
 | some i,v=>Value.isInt i v
 | _,_=>false
theorem dF {k:Option Int} {v:Value} (h:Fl k v=true):(k=none∧v=Value.none)∨∃i t,k=some i∧v=Value.int i t:=by
 cases k with
 | none=>
  cases v with
  | none=>exact .inl ⟨rfl,rfl⟩
  | _=>exact absurd h (by simp[Fl])
 | some i=>
  obtain⟨t,e⟩:=Value.isInt_shape (k:=i) (v:=v) (by simpa[Fl] using h)
  exact .inr ⟨i,t,rfl,e⟩
def oH (w:World):Option Int→Int
 | none=>PySem.W.hashW w.params .none
 | some i=>hashInt i
def Ag (prog:Program) (w:World):PySem.KeyKind prog w (Option Int) where
 is:=Fl
 hash:=oH w
 inj:=fun v a b ha hb=>by
  rcases dF ha with⟨rfl,rfl⟩ | ⟨i,t,rfl,rfl⟩
  ·rcases dF hb with⟨rfl,_⟩ | ⟨j,u,_,e⟩
   ·rfl
   ·exact nomatch e
  ·rcases dF hb with⟨_,e⟩ | ⟨j,u,rfl,e⟩
   ·exact nomatch e
   ·injection e with e1 _;rw[e1]
 byValue:=fun k v h=>by
  rcases dF h with⟨rfl,rfl⟩ | ⟨i,t,rfl,rfl⟩<;>rfl
 pyHash:=fun hv h=>by
  rcases dF hv with⟨rfl,rfl⟩ | ⟨i,t,rfl,rfl⟩
  ·exact PySem.W.pyHash_slot (T:="NoneType") rfl PySem.F.slot_NoneType_hash PySem.F.entry_NoneType_hash (PySem.F.args_NoneType_hash_1 _) (beq_builtin_none _) (.inl rfl) (wpAny_bind (wpAny_pure (wpAny_bind (wpAny_mkInt (wpAny_pure ⟨_,_,rfl,h⟩)))))
  ·exact wpAny_pyHash_int h
 eqBool:=fun {A E s a b u v Q} hu hv h=>by
  rcases dF hu with⟨rfl,rfl⟩ | ⟨i,t,rfl,rfl⟩
  ·rcases dF hv with⟨rfl,rfl⟩ | ⟨j,u,rfl,rfl⟩
   ·exact SeqAt.EqAt.same _ _ _ _ _ (by simpa using h)
   ·exact SeqAt.EqAt.none_int j u _ _ _ _ (by simpa using h)
  ·rcases dF hv with⟨rfl,rfl⟩ | ⟨j,u,rfl,rfl⟩
   ·exact SeqAt.EqAt.int_none i t _ _ _ _ (by simpa using h)
   ·refine wpAny_eqBool_int ?_
    have e:decide ((some i:Option Int)=some j)=(i == j):=by
     by_cases z:i=j
     ·subst z;simp
     ·rw[decide_eq_false (fun y=>z (Option.some.inj y))];exact(beq_eq_false_iff_ne.mpr z).symm
    rw[←e];exact h
 «strs» :=fun k x t v h=>by
  rcases dF h with⟨_,e⟩ | ⟨_,_,_,e⟩<;>exact nomatch e
def oV:Option Int→V
 | none=>.non
 | some i=>.int i
theorem qK {P:Program} {w:World} {k:Option Int} {u:Value} (r:RelV (oV k) u):(Ag P w).is k u=true:=by
 cases k with
 | none=>cases(show u=Value.none from r);rfl
 | some i=>obtain⟨t,rfl⟩:=(show ∃t,u=Value.int i t from r);show Value.isInt i (.int i t)=true;simp[Value.isInt]
def dO (P:Program) (w:World) (a:Addr) (kvs:List (Option Int×V)):Heap→Prop:=fun h=>kvs.length≤sizeLine∧(a == sysModules)=false∧∃vs,KV kvs vs∧h.DictOf (Ag P w) a vs
theorem wH {P:Program} {w:World} {H:Hp} {h:Heap} {a:Addr} {kvs:List (Option Int×V)} (d:dO P w a kvs h):bq P w H h a (.ext (dO P w a kvs)):=
 ⟨d,let ⟨_,_,_,_,o,_,_,e,_⟩:=d;⟨o,e⟩,fun _ _ ⟨z,y,vs,r,o,es,ep,e,t⟩ k=>⟨z,y,vs,r,o,es,ep,k o e,t⟩⟩
section
variable {X:Cx} {pins:List (Addr×Obj)} {σ:St} {H:Hp} {s:Shared} {a:Addr} {kvs:List (Option Int×V)}
theorem Ah (I:Inv X pins σ H s) (e:H a=some (.ext (dO X.prog X.w a kvs))):dO X.prog X.w a kvs s.heap:=(show bq X.prog X.w H s.heap a (.ext (dO X.prog X.w a kvs)) from I.hok a _ e).1
end
theorem IP {P:Program} {w:World} {H:Hp} {a:Addr} {kvs:List (Option Int×V)} {k:Option Int} (e:H a=some (.ext (dO P w a kvs))):wG P w H a (oV k) (aV kvs k):=by
 intro X pins σ s u hP hw I ry
 subst hP hw
 obtain⟨z,hd,vs,rel,dd⟩:=Ah I e
 refine⟨dd.typeIs,fun A E hu=>⟨fun v Q l h=>?_,fun Q h=>?_,fun Q h=>?_⟩⟩
 ·obtain⟨w',hw,jE⟩:=fw.some_of (v:=v) (o:=valueAt vs k) (by rw[←l];exact rel.val k)
  exact wpAny_getItem_of (qK ry) dd.mapOf hw (h w' _ (I.tok _) jE)
 ·refine wpAny_in_of (qK ry) hd dd.mapOf ?_
  rw[←(rel.val k).iV]
  exact h _ (I.tok _)
 ·refine wpAny_notIn_of (qK ry) hd dd.mapOf ?_
  rw[←(rel.val k).iV]
  exact h _ (I.tok _)
theorem O7 {P:Program} {w:World} {H:Hp} {a:Addr} {kvs:List (Option Int×V)} {k:Option Int} {v:V} (e:H a=some (.ext (dO P w a kvs))) (l:kvs.length<sizeLine):D' P w H a (oV k) v (upd H a (.ext (dO P w a (putK kvs k v)))):=by
 intro X pins σ s u r hP hw I ry rv A E Q hu h
 subst hP hw
 obtain⟨z,hd,vs,rel,dd⟩:=Ah I e
 have hz:vs.length≤sizeLine:=by rw[←rel.length];exact z
 have hl:(putK kvs k v).length≤sizeLine:=by have:=gf kvs k v;omega
 refine wpAny_setItem_pairs (hsz:=hz) (qK ry) dd fun h' kQ hs=>h _ ?_
 have he:∃q,h'.get? a=some q:=let ⟨q,_,_,hq,_⟩:=kQ;⟨q,hq⟩
 exact kP I (by rw[e];exact True.intro) hs he (wH ⟨hl,hd,_,rel.put k rv,kQ⟩)
theorem Eb {P:Program} {w:World} {H:Hp} (h:Heap) (hb:sysModules<h.objs.size):bq P w H (h.push {cls:=.type "dict",data:=.dict #[]}) h.objs.size (.ext (dO P w h.objs.size [])):=
 wH ⟨Nat.zero_le _,beq_eq_false_iff_ne.mpr (Ne.symm (Nat.ne_of_lt hb)),[],.nil,Heap.DictOf.new h⟩
def IQ (P:Program) (w:World) (tk tv:TE):TE:=fun σ H Q=>∀p,H p=none→tk σ (upd H p (.ext (dO P w p []))) fun x H1=>tv σ H1 fun y H2=>H2 p=some (.ext (dO P w p []))∧∃k,x=oV k∧Q (.ref p) (upd H2 p (.ext (dO P w p [(k,y)])))
theorem Ec {X:Cx} {P:Program} {w:World} {pos:Pos} {k v:Expr} {tk tv:TE} (hk:PE X k tk) (hv:PE X v tv) (hP:X.prog=P) (hw:X.w=w):PE X (.Dict [some k] [v] pos) (IQ P w tk tv):=by
 subst hP hw
 intro pins s σ H Q I q
 have hn:=I.hok.fresh (Nat.le_refl s.heap.objs.size)
 have I1:=I.laid (a:=s.heap.objs.size) (o:=.ext (dO X.prog X.w s.heap.objs.size [])) (h':=s.heap.push {cls:=.type "dict",data:=.dict #[]}) (t':=s.toks) (fun _ _ q=>Heap.get?_push_of_some _ q) (Nat.le_refl _) (Eb s.heap I.big)
 have hp:Bk X pos [some k] [v] [(tk,tv)]:=lT hk hv yM
 refine wpAny_Dict_walk (knd:=Ag X.prog X.w) rfl rfl (fun z=>nomatch z) (show 1≤15 by decide) (aE (hp pins _ σ _ (fun ps H2=>match ps with | [(x,y)]=>H2 s.heap.objs.size=some (.ext (dO X.prog X.w s.heap.objs.size []))∧∃k,x=oV k∧Q (.ref s.heap.objs.size) (upd H2 s.heap.objs.size (.ext (dO X.prog X.w s.heap.objs.size [(k,y)]))) | _=>False) I1 (q _ hn)) fun ws s2 ⟨ps,H2,I2,rel,q2⟩=>?_)
 cases rel with
 | nil=>exact False.elim q2
 | @cons p0 w0 ps' ws' r0 rt=>
  cases rt with
  | cons r1 WM=>exact False.elim q2
  | nil=>
   obtain⟨x0,y0⟩:=p0
   obtain⟨kv,vv⟩:=w0
   obtain⟨e,kk,ek,q3⟩:=q2
   subst ek
   obtain⟨z,hd,SR,rx,dd⟩:=Ah I2 e
   cases rx
   refine⟨[(kk,vv)],⟨qK r0.1,rfl,True.intro⟩,dd,fun h' kQ hs=>⟨.ref s.heap.objs.size,_,?_,rfl,q3⟩⟩
   have he:∃q,h'.get? s.heap.objs.size=some q:=let ⟨q,_,_,hq,_⟩:=kQ;⟨q,hq⟩
   exact kP I2 (by rw[e];exact True.intro) hs he (wH ⟨by show 1≤sizeLine;decide,hd,_,.cons ⟨rfl,r0.2⟩ .nil,kQ⟩)
theorem wI {α:Type} (a b:α) (h:id a=id b):a=b:=h
def pV (P:Program) (w:World):jk P w (Option Int) where
 Rep:=fun x v _=>v=oV x
 Num:=fun H D xs=>H D=some (.ext (dO P w D (kvsOf id xs)))
 same:=fun h _=>h
 keep:=fun h e=>e.trans h
 isD:=fun h=>⟨_,h,(fun l z=>by cases z),(fun l z=>by cases z)⟩
 there:=fun {H D xs i x v} h r nd e=>by
  subst r
  have:=IP (k:=x) h
  rw[show aV (kvsOf id xs) x=some (.int ((i:Nat):Int)) from qG wI _ rfl nd e] at this
  exact this
 miss:=fun {H D xs x v} h r n=>by
  subst r
  have:=IP (k:=x) h
  rw[show aV (kvsOf id xs) x=none from md wI n] at this
  exact this
 put:=fun {H D xs x v} h r n hl=>by
  subst r
  refine⟨_,O7 (k:=x) h (by rw[BQ];exact hl),KB.write,?_⟩
  rw[af,lO _ (show aV (kvsOf id xs) x=none from md wI n),qF]
  rfl
 Ea:=fun {X pos kpos cpos x i j} hu h1 h2 hP hw pins s σ H Q I q=>by
  obtain⟨y,v,hv,rfl,q⟩:=q
  refine Ec h1 h2 hP hw pins s σ H Q I fun p hp=>⟨_,hv,?_⟩
  refine⟨af,y,rfl,q p _ hp ((Same.new hp).kbn hp KB.write) ?_⟩
  rw[af];rfl
theorem kc:typeLookup (.type "tuple") "keys"=pure none:=by rw[typeLookup_type,builtinLookup_eq_fast];kernel_rfl
section
variable {P:Program} {w:World} {A:Around} {E:Value→Shared→Prop} {s:Shared}
theorem uH {a:Addr} {xs:Array Value} {k:Nat} {sl:Array (Option Value)} {Q:Option Value→Shared→Prop} (hx:s.heap.get? a=some ⟨.type "tuple",none,.seq xs k,sl⟩) (hA:A.handled=none)
  (h:∀h' tk,(∀b o,s.heap.get? b=some o→h'.get? b=some o)→Q none {s with heap:=h',toks:=tk}):wpAny (model P w) A (getAttr? (.ref a) "keys") Q E s:=by
 obtain⟨hp,g,d,tk,os⟩:=s
 have hT:∀tk',(⟨hp,g,d,tk',os⟩:Shared).TypeIs (.ref a) "tuple":=fun _=>⟨_,hx,rfl⟩
 have f1:=sub_AttributeError
 have f3:=F.slot_tuple_getattribute.lookup
 have f4:=F.slot_tuple_getattribute.bind (.ref a)
 have f5:=am_tuple_getattr_none
 have f6:=kc
 unfold getAttr? getAttrBy? getAttrBy
 repeat (any_goals (first | assumption | exact hT _ | ((with_reducible show wpAny _ _ (call (Value.builtin "tuple.__getattribute__") _ _) _ _ _);refine call_meets F.slot_tuple_getattribute (hT _) am_entry_tuple_getattribute (F.args_tuple_getattribute_2 _ _) (meets_getattribute_miss_tuple a xs k sl "keys" _ kc (by decide+kernel) (by size_fits)) ⟨hx,hA,fun h' tk' e hx'=>?_⟩) | wp_step))
 obtain⟨t',u',he⟩:=hx'.there
 show wpAny _ _ (getattributeRaised _ _ _ _ _ _ _) _ _ _
 unfold getattributeRaised
 repeat (any_goals (first | assumption | wp_step))
 exact h _ _ hx'.keeps
theorem rW {l:Addr} {its:Array Value} {nl:Nat} {sl:Array (Option Value)} {more:List (Key×Value)} {Q:Value→Shared→Prop} (hh:A.handled=none) (hl:s.heap.get? l=some ⟨.type "tuple",none,.seq its nl,sl⟩)
  (hp:∀(i:Nat) (v:Value),its[i]? =some v→∃p k key u o m,v=.ref p∧more[i]? =some (k,u)∧(bh P w).is k key=true∧s.heap.get? p=some o∧o.cls=.type "tuple"∧o.data=.seq #[key,u] m) (hml:more.length=its.size) (hb:its.size<sizeLine)
  (h:∀h' tk,h'.DictOf (bh P w) s.heap.objs.size (merged [] more)→(∀b o,s.heap.get? b=some o→h'.get? b=some o)→Q (.ref s.heap.objs.size) {s with heap:=h',toks:=tk}):
  wpAny (model P w) A (call (.type "dict") [.ref l]) Q E s:=by
 refine callType_codes (Q₁:=fun obj s₁=>obj=.ref s.heap.objs.size∧s₁={s with heap:=s.heap.push {cls:=.type "dict",data:=.dict #[]}}) F.kt_called_dict (F.kt_typeCall_dict_1 _) F.entry_dict_init (kt_code_dict_new _ ⟨rfl,rfl⟩) ?_
 rintro obj s₁ ⟨rfl,rfl⟩
 have hnew:(s.heap.push {cls:=.type "dict",data:=.dict #[]}).DictOf (bh P w) s.heap.objs.size []:=Heap.DictOf.new s.heap
 have hl1:(s.heap.push {cls:=.type "dict",data:=.dict #[]}).get? l=some ⟨.type "tuple",none,.seq its nl,sl⟩:=Heap.get?_push_of_some _ hl
 have lS:l<s.heap.objs.size:=Heap.lt_size hl
 refine⟨hnew.typeIs,F.args_dict_init_2 _ _,?_⟩
 unfold Builtin.«dict.__init__»
 refine wpAny_bind ?_
 unfold Builtin.Dict.selfAndRest
 refine wpAny_bind (wpAny_notOrdered_dict hnew.typeIs ?_)
 show wpAny _ _ (pure (s.heap.objs.size,[Value.ref l])) _ _ _
 refine wpAny_pure ?_
 show wpAny _ _ (Builtin.Dict.updateFrom "dict.__init__" s.heap.objs.size (.ref l) [] .none) _ _ _
 unfold Builtin.Dict.updateFrom
 refine wpAny_bind (wpAny_typeOf (show Shared.TypeIs {s with heap:=s.heap.push {cls:=.type "dict",data:=.dict #[]}} (.ref l) "tuple" from⟨_,hl1,rfl⟩) ?_)
 rw[if_pos (by decide)]
 refine wpAny_bind (uH hl1 (by simp[hh]) fun h1 tk1 k1=>?_)
 rw[show(none:Option Value).isNone=true from rfl,if_pos rfl]
 refine wpAny_bind (wpAny_rule ?_)
 have hl2:h1.IsTuple l its:=⟨_,k1 _ _ hl1,rfl,nl,rfl⟩
 refine wpAny_bind (wpAny_pyIter_tuple hl2 ?_)
 refine wpAny_pure ⟨plainId_quiet dX _,?_⟩
 have Tv:l<h1.objs.size:=Heap.lt_size (k1 _ _ hl1)
 have yR:l≠h1.objs.size:=Nat.ne_of_lt Tv
 have IT:s.heap.objs.size<h1.objs.size:=by
  obtain⟨o,es,ep,ho,_⟩:=hnew
  exact Heap.lt_size (k1 _ _ ho)
 have nf:s.heap.objs.size ∉ [h1.objs.size,l]:=by
  simp only[List.mem_cons,List.not_mem_nil,or_false,not_or]
  exact⟨Nat.ne_of_lt IT,Nat.ne_of_gt lS⟩
 have hh3:A.in1.in1.handled=none:=by simp[hh]
 refine BP ((Walks.tuple hh3 _ l yR its).toS) nf more hml hb (its.size-0) 0 0 _ (by omega) (Nat.zero_le _) ⟨⟨_,Heap.get?_push_size _ rfl,rfl,rfl⟩,hl2.push _⟩ (fun i v hv=>?_) ?_ fun s' mv hd=>?_
 ·obtain⟨p,k,key,u,o,m,e1,e2,e3,e4,e5,e6⟩:=hp i v hv
  have lp:=Heap.lt_size e4
  refine⟨p,k,key,u,o,m,e1,e2,e3,Heap.get?_push_of_some _ (k1 _ _ (Heap.get?_push_of_some _ e4)),e5,e6,Nat.ne_of_lt lp,fun z=>?_⟩
  have e9:p=h1.objs.size:=List.mem_singleton.mp z
  rw[e9] at lp
  exact absurd (Nat.lt_trans lp IT) (Nat.lt_irrefl _)
 ·show Heap.DictOf _ _ _ (merged [] (more.take 0))
  obtain⟨o,es,ep,ho,r⟩:=hnew
  exact⟨o,es,ep,Heap.get?_push_of_some _ (k1 _ _ ho),r⟩
 ·obtain⟨h',g',d',tk',os'⟩:=s'
  have eg:g'=s.gens:=mv.gens
  have ed:d'=s.drawn:=mv.drawn
  have eo:os'=s.os:=mv.os
  subst eg ed eo
  refine⟨rfl,h h' tk' hd fun b o e=>mv.heap b o (fun z=>?_) (Heap.get?_push_of_some _ (k1 _ _ (Heap.get?_push_of_some _ e)))⟩
  have lb:=Heap.lt_size e
  simp only[List.mem_cons,List.not_mem_nil,or_false] at z
  rcases z with z | z
  ·rw[z] at lb;exact Nat.lt_irrefl _ lb
  ·rw[z] at lb;exact Nat.lt_irrefl _ (Nat.lt_trans lb IT)
end
section
variable {X:Cx}
def IU:List V→Hp→VK→Prop:=fun vs H Q=>∃(l:Addr) (ps:List Addr) (kvs:List (Key×V)),vs=[.ref l]∧H l=some (.tup (ps.map V.ref))∧Paired (fun(p:Addr) (q:Key×V)=>H p=some (.tup [kV q.1,q.2])) ps kvs∧kvs.length<sizeLine∧∀D,H D=none→Q (.ref D) (upd H D (.dK (bQ [] kvs)))
theorem jm (hA:X.A.handled=none):dm X (.type "dict") IU:=by
 intro pins s σ H xs us Q I r h
 obtain⟨l,ps,kvs,rfl,hl,hp,hb,q⟩:=h
 obtain⟨u,rfl,ru⟩:=vals1 r
 cases ru
 obtain⟨⟨z,o0,Ng,hd0⟩,its,rv,⟨o1,ho1,hc1,n,hd1⟩⟩:=I.hok l _ hl
 rw[Ng] at ho1
 cases ho1
 obtain⟨Wy,WN,Ws,Nh⟩:=o0
 simp only at hc1 hd1 hd0
 subst hc1 hd1 hd0
 have e:=Ng
 have key:∀(ps:List Addr) (kvs:List (Key×V)) (its:List Value),Paired (fun(p:Addr) (q:Key×V)=>H p=some (.tup [kV q.1,q.2])) ps kvs→Vals (ps.map V.ref) its→
   ∃more:List (Key×Value),KV kvs more∧∀(i:Nat) (v:Value),its[i]? =some v→∃p k key u o m,v=.ref p∧more[i]? =some (k,u)∧(bh X.prog X.w).is k key=true∧s.heap.get? p=some o∧o.cls=.type "tuple"∧o.data=.seq #[key,u] m:=by
  intro ps kvs its a
  induction a generalizing its with
  | nil=>intro b;cases b;exact⟨[],.nil,fun i v hv=>by simp at hv⟩
  | @cons p q ps kvs h t ih=>
   intro b
   cases b with
   | cons rp rt=>
    obtain⟨more,m1,m2⟩:=ih _ rt
    obtain⟨z2,its2,j4,o,ho,hc,m,hd⟩:=I.hok p _ h
    cases j4 with
    | cons r1 r2=>
     cases r2 with
     | cons r2 r3=>
      cases r3
      cases(show _=Value.ref p from rp)
      refine⟨(q.1,_)::more,.cons ⟨rfl,r2⟩ m1,fun i v hv=>?_⟩
      cases i with
      | zero=>
       have e:Value.ref p=v:=by simpa using hv
       exact⟨p,q.1,_,_,o,m,e.symm,rfl,lP r1,ho,hc,hd⟩
      | succ i=>exact m2 i v (by simpa using hv)
 obtain⟨more,m1,m2⟩:=key ps kvs its hp rv
 have len1:more.length=its.length:=by rw[←Paired.length m1,←Paired.length hp,←rv.length,List.length_map]
 have len2:its.length=kvs.length:=by rw[←len1,←Paired.length m1]
 refine rW (nl:=n) (its:=its.toArray) (more:=more) hA e (fun i v hv=>m2 i v (by simpa using hv)) (by simpa using len1) (by rw[List.size_toArray,len2];exact hb) fun h' tk dd kp=>?_
 have bg:(s.heap.objs.size == sysModules)=false:=beq_eq_false_iff_ne.mpr (Ne.symm (Nat.ne_of_lt I.big))
 have hz:(bQ [] kvs).length≤sizeLine:=by
  have h1:=i5 kvs []
  rw[List.length_nil] at h1
  omega
 exact⟨.ref s.heap.objs.size,_,I.laid (a:=s.heap.objs.size) (o:=.dK (bQ [] kvs)) (t':=tk) kp (Nat.le_refl _) ⟨hz,bg,_,m1.merge .nil,dd⟩,rfl,q _ (I.hok.fresh (Nat.le_refl _))⟩
end
section
variable {prog:Program} {w:World} {A:Around} {E:Value→Shared→Prop} {s:Shared}
theorem B3 {z TI TO i1 i2 l1 l2:Addr} {k:Nat} {xs ys:Array Value} {x y a b:Value} {Q:Value→Shared→Prop} (D:ZipApart z TI TO i1 i2 l1 l2) (gz:IsZip s.heap z TI TO .none) (gI:IsPair s.heap TI (.ref i1) (.ref i2)) (gO:IsPair s.heap TO a b)
  (g1:s.heap.IsTupleIter i1 l1 k) (g2:s.heap.IsListIter i2 l2 k) (m1:s.heap.IsTuple l1 xs) (m2:s.heap.IsList l2 ys) (ex:xs[k]? =some x) (ey:ys[k]? =some y)
  (q:∀h',IsZip h' z TI TO (rawInt s.heap.objs.size)→IsPair h' TO x y→h'.IsTupleIter i1 l1 (k+1)→h'.IsListIter i2 l2 (k+1)→IsPair h' s.heap.objs.size x y→h'.objs.size=s.heap.objs.size+1→
   (∀c o,c≠z→c≠TO→c≠i1→c≠i2→s.heap.get? c=some o→h'.get? c=some o)→Q (.ref s.heap.objs.size) {s with heap:=h'}):
  wpAny (model prog w) A (Builtin.«zip.__next__» ⟨[.ref z],[]⟩) (fun fin s'=>∃v,fin=.done (.ret v)∧Q v s') E s:=by
 show wpAny _ _ (field (.ref z) 2 >>= _) _ _ _;refine wpAny_bind (wpAny_field gz rfl (x:=.bool false) rfl ?_)
 show wpAny _ _ (field (.ref z) 3 >>= _) _ _ _;refine wpAny_bind (wpAny_field gz rfl (x:=.ref TI) rfl ?_);refine wpAny_bind (wpAny_seqItems gI rfl ?_)
 show wpAny _ _ (Builtin.SmallTypes.ownedTupleIsFree (.ref z) >>= _) _ _ _;refine wpAny_bind ?_;unfold Builtin.SmallTypes.ownedTupleIsFree
 refine wpAny_bind (wpAny_field gz rfl (x:=.none) rfl (wpAny_pure ?_));simp only[if_true];refine wpAny_bind (wpAny_rule ?_)
 refine wpAny_bind (wpAny_field gz rfl (x:=.ref TO) rfl ?_);refine wpAny_bind (wpAny_setField_rec gz (by simp) fun h1 z1 s1=>?_)
 replace z1:IsZip h1 z TI TO .ellipsis:=z1
 refine wpAny_bind ?_;simp only[List.zipIdx_cons,List.zipIdx_nil,List.forIn_cons,List.forIn_nil];refine wpAny_bind (wpAny_bind (wpAny_onRaise ?_))
 show wpAny _ _ (Builtin.SmallTypes.nextOf (.ref i1) >>= _) _ _ _;refine wpAny_bind (gi (aW g1 s1.extBut D.i1z) (cF m1 s1.extBut D.l1z) ex fun h2 BS s2=>wpAny_pure ?_)
 have O2:IsPair h2 TO a b:=s2.extBut _ _ D.TOi1 (s1.extBut _ _ D.TOz gO)
 refine wpAny_bind (wpAny_seqItems O2 rfl ?_);refine wpAny_bind (wpAny_updateSeq_pair O2 fun h3 O3 s3=>?_)
 replace O3:IsPair h3 TO x b:=O3
 refine wpAny_bind (wpAny_letGo (wpAny_pure ?_));refine wpAny_bind (wpAny_bind (wpAny_onRaise ?_))
 show wpAny _ _ (Builtin.SmallTypes.nextOf (.ref i2) >>= _) _ _ _;refine wpAny_bind (wpAny_nextOf_list_item (((g2.extBut s1.extBut D.i2z).extBut s2.extBut D.i12.symm).extBut s3.extBut D.TOi2.symm) (((m2.extBut s1.extBut D.l2z).extBut s2.extBut D.l2i1).extBut s3.extBut D.l2TO) ey fun h4 IH s4=>wpAny_pure ?_)
 have O4:IsPair h4 TO x b:=s4.extBut _ _ D.TOi2 O3
 refine wpAny_bind (wpAny_seqItems O4 rfl ?_);refine wpAny_bind (wpAny_updateSeq_pair O4 fun h5 O5 s5=>?_)
 replace O5:IsPair h5 TO x y:=O5
 refine wpAny_bind (wpAny_letGo (wpAny_pure (wpAny_pure ?_)));refine wpAny_bind (wpAny_seqItems O5 rfl ?_);refine wpAny_bind (wpAny_newTuple ?_)
 have sz:h5.objs.size=s.heap.objs.size:=by rw[s5.1,s4.1,s3.1,s2.1,s1.1]
 have z5:IsZip h5 z TI TO .ellipsis:=s5.extBut _ _ D.TOz.symm (s4.extBut _ _ D.i2z.symm (s3.extBut _ _ D.TOz.symm (s2.extBut _ _ D.i1z.symm z1)))
 have k5:∀c o,c≠z→c≠TO→c≠i1→c≠i2→s.heap.get? c=some o→h5.get? c=some o:=fun c o c1 c2 c3 c4 e=>s5.extBut _ _ c2 (s4.extBut _ _ c4 (s3.extBut _ _ c2 (s2.extBut _ _ c3 (s1.extBut _ _ c1 e))))
 have a5:h5.IsTupleIter i1 l1 (k+1):=aW (aW (aW BS s3.extBut D.TOi1.symm) s4.extBut D.i12) s5.extBut D.TOi1.symm
 have b5:h5.IsListIter i2 l2 (k+1):=IH.extBut s5.extBut D.TOi2.symm
 have BU:z<h5.objs.size:=Heap.lt_size z5
 show wpAny _ _ (Builtin.SmallTypes.ownedTupleHandOut (.ref z) (.ref h5.objs.size) >>= _) _ _ _
 refine wpAny_bind ?_;unfold Builtin.SmallTypes.ownedTupleHandOut
 have z6:IsZip (h5.push {cls:=.type "tuple",data:=.seq #[x,y]}) z TI TO .ellipsis:=Heap.get?_push_of_some _ z5
 refine wpAny_bind (wpAny_setField_rec z6 (by simp) fun h7 z7 s7=>?_)
 replace z7:IsZip h7 z TI TO (rawInt h5.objs.size):=z7
 refine wpAny_setField_rec z7 (by simp) fun h8 z8 s8=>?_
 replace z8:IsZip h8 z TI TO (rawInt h5.objs.size):=z8
 have up:∀c o,c≠z→h5.get? c=some o→h8.get? c=some o:=fun c o c1 e=>s8.extBut _ _ c1 (s7.extBut _ _ c1 (Heap.get?_push_of_some _ e))
 have T8:IsPair h8 h5.objs.size x y:=s8.extBut _ _ (Nat.ne_of_gt BU) (s7.extBut _ _ (Nat.ne_of_gt BU) (Heap.get?_push_size _ rfl))
 have e8:h8.objs.size=h5.objs.size+1:=by rw[s8.1,s7.1,Heap.size_push]
 rw[sz] at z8 T8 e8
 refine wpAny_pure ⟨_,rfl,?_⟩;show Q (.ref h5.objs.size) _;rw[sz]
 exact q h8 z8 (up _ _ D.TOz O5) (let ⟨o,ho,r⟩:=a5;⟨o,up _ _ D.i1z ho,r⟩) (b5.at fun o e=>up _ o D.i2z e) T8 e8 fun c o c1 c2 c3 c4 e=>up c o c1 (k5 c o c1 c2 c3 c4 e)
theorem Ed {z TI TO i1 i2 l1 l2:Addr} {k:Nat} {xs ys:Array Value} {a b:Value} {Q:Fin→Shared→Prop} (hh:A.handled=none) (D:ZipApart z TI TO i1 i2 l1 l2) (gz:IsZip s.heap z TI TO .none) (gI:IsPair s.heap TI (.ref i1) (.ref i2)) (gO:IsPair s.heap TO a b)
  (g1:s.heap.IsTupleIter i1 l1 k) (g2:s.heap.IsListIter i2 l2 k) (m1:s.heap.IsTuple l1 xs) (m2:s.heap.IsList l2 ys) (ex:xs[k]? =none)
  (q:∀h' e,(∀c o,c≠z→c≠TO→c≠i1→c≠i2→s.heap.get? c=some o→h'.get? c=some o)→(∃o,h'.get? e=some o∧o.cls=.type "StopIteration")→E (.ref e) {s with heap:=h'}):
  wpAny (model prog w) A (Builtin.«zip.__next__» ⟨[.ref z],[]⟩) Q E s:=by
 show wpAny _ _ (field (.ref z) 2 >>= _) _ _ _;refine wpAny_bind (wpAny_field gz rfl (x:=.bool false) rfl ?_)
 show wpAny _ _ (field (.ref z) 3 >>= _) _ _ _;refine wpAny_bind (wpAny_field gz rfl (x:=.ref TI) rfl ?_);refine wpAny_bind (wpAny_seqItems gI rfl ?_)
 show wpAny _ _ (Builtin.SmallTypes.ownedTupleIsFree (.ref z) >>= _) _ _ _;refine wpAny_bind ?_;unfold Builtin.SmallTypes.ownedTupleIsFree
 refine wpAny_bind (wpAny_field gz rfl (x:=.none) rfl (wpAny_pure ?_));simp only[if_true];refine wpAny_bind (wpAny_rule ?_)
 refine wpAny_bind (wpAny_field gz rfl (x:=.ref TO) rfl ?_);refine wpAny_bind (wpAny_setField_rec gz (by simp) fun h1 z1 s1=>?_)
 replace z1:IsZip h1 z TI TO .ellipsis:=z1
 refine wpAny_bind ?_;simp only[List.zipIdx_cons,List.zipIdx_nil,List.forIn_cons,List.forIn_nil];refine wpAny_bind (wpAny_bind (wpAny_onRaise ?_))
 show wpAny _ _ (Builtin.SmallTypes.nextOf (.ref i1) >>= _) _ _ _;refine wpAny_bind (kz hh (aW g1 s1.extBut D.i1z) (cF m1 s1.extBut D.l1z) ex fun h2 e s2 he=>?_)
 obtain⟨oe,hoe,hce⟩:=he
 have z2:IsZip h2 z TI TO .ellipsis:=s2 _ _ D.i1z.symm z1
 have II:e≠z:=fun x=>by subst x;rw[z2] at hoe;cases hoe;simp at hce
 refine wpAny_setField_rec z2 (by simp) fun h3 _ s3=>q h3 e (fun c o c1 _ c3 _ x=>s3.extBut _ _ c1 (s2 _ _ c3 (s1.extBut _ _ c1 x))) ⟨oe,s3.extBut _ _ II hoe,hce⟩
theorem B4 {z TI TO i1 i2 l1 l2:Addr} {k:Nat} {xs ys:Array Value} {x y a b:Value} {Q:Option Value→Shared→Prop} (D:ZipApart z TI TO i1 i2 l1 l2) (gz:IsZip s.heap z TI TO .none) (gI:IsPair s.heap TI (.ref i1) (.ref i2)) (gO:IsPair s.heap TO a b)
  (g1:s.heap.IsTupleIter i1 l1 k) (g2:s.heap.IsListIter i2 l2 k) (m1:s.heap.IsTuple l1 xs) (m2:s.heap.IsList l2 ys) (ex:xs[k]? =some x) (ey:ys[k]? =some y)
  (q:∀h',IsZip h' z TI TO (rawInt s.heap.objs.size)→IsPair h' TO x y→h'.IsTupleIter i1 l1 (k+1)→h'.IsListIter i2 l2 (k+1)→IsPair h' s.heap.objs.size x y→h'.objs.size=s.heap.objs.size+1→
   (∀c o,c≠z→c≠TO→c≠i1→c≠i2→s.heap.get? c=some o→h'.get? c=some o)→Q (some (.ref s.heap.objs.size)) {s with heap:=h'}):wpAny (model prog w) A (pyNext (.ref z)) Q E s:=by
 have ty:s.TypeIs (.ref z) "zip":=⟨_,gz,rfl⟩
 unfold pyNext
 exact wpAny_bind (wpAny_attempt (wpAny_callSpecial?_slot (name:=Str.ofString "__next__") ty PySem.F.slot_zip_next (wpAny_call_entry PySem.F.slot_zip_next ty PySem.F.entry_zip_next (B3 D gz gI gO g1 g2 m1 m2 ex ey fun h' a1 a2 a3 a4 a5 a6 a7=>wpAny_pure (q h' a1 a2 a3 a4 a5 a6 a7)) (PySem.F.args_zip_next_1 _))))
theorem Ai {z TI TO i1 i2 l1 l2:Addr} {k:Nat} {xs ys:Array Value} {a b:Value} {Q:Option Value→Shared→Prop} (hh:A.handled=none) (D:ZipApart z TI TO i1 i2 l1 l2) (gz:IsZip s.heap z TI TO .none) (gI:IsPair s.heap TI (.ref i1) (.ref i2)) (gO:IsPair s.heap TO a b)
  (g1:s.heap.IsTupleIter i1 l1 k) (g2:s.heap.IsListIter i2 l2 k) (m1:s.heap.IsTuple l1 xs) (m2:s.heap.IsList l2 ys) (ex:xs[k]? =none)
  (q:∀h',(∀c o,c≠z→c≠TO→c≠i1→c≠i2→s.heap.get? c=some o→h'.get? c=some o)→Q none {s with heap:=h'}):wpAny (model prog w) A (pyNext (.ref z)) Q E s:=by
 have ty:s.TypeIs (.ref z) "zip":=⟨_,gz,rfl⟩
 unfold pyNext
 refine wpAny_bind (wpAny_attempt (wpAny_callSpecial?_slot (name:=Str.ofString "__next__") ty PySem.F.slot_zip_next (wpAny_call_entry PySem.F.slot_zip_next ty PySem.F.entry_zip_next (Ed hh D gz gI gO g1 g2 m1 m2 ex fun h' e hk he=>?_) (PySem.F.args_zip_next_1 _))))
 obtain⟨o,ho,hc⟩:=he
 exact wpAny_bind (wpAny_isInstance (T:="StopIteration") (b:=true) ⟨o,ho,hc⟩ isSubtype_stop (wpAny_pure (q _ hk)))
abbrev B5 (h:Heap) (l1 l2:Addr):Heap:=(h.push (nE l1)).push (Tj l2)
abbrev Fm (h:Heap) (l1 l2:Addr):Heap:=(B5 h l1 l2).push {cls:=.type "tuple",data:=.seq #[.ref h.objs.size,.ref (h.push (nE l1)).objs.size]}
abbrev B6 (h:Heap) (l1 l2:Addr):Heap:=(Fm h l1 l2).push {cls:=.type "tuple",data:=.seq #[.none,.none]}
abbrev uj (h:Heap) (l1 l2:Addr):Heap:=(B6 h l1 l2).push {cls:=.type "zip",data:=.fields #[.none,.bool false,.bool false,.ref (B5 h l1 l2).objs.size,.ref (Fm h l1 l2).objs.size]}
theorem Aj (l1 l2:Addr) (xs ys:Array Value):Meets (Builtin.«zip.__new__» ⟨[.type "zip",.ref l1,.ref l2],[]⟩) (fun _ R s=>s.heap.IsTuple l1 xs∧s.heap.IsList l2 ys∧R (.ok (.ret (.ref (B6 s.heap l1 l2).objs.size))) {s with heap:=uj s.heap l1 l2}):=
 .of_wp fun prog w A R s h=>by
  obtain⟨hp,g,d,tk,os⟩:=s;obtain⟨m1,m2,h⟩:=h
  have hsub:=PySem.sub_zip
  have L1:Heap.IsTuple (Shared.heap ⟨hp,g,d,tk,os⟩) l1 xs:=m1
  have L2:Heap.IsList (Shared.heap ⟨hp.push (nE l1),g,d,tk,os⟩) l2 ys:=let ⟨o,ho,r⟩:=m2;⟨o,Heap.get?_push_of_some _ ho,r⟩
  wp_walk using wpAny_pyIter_tuple L1,wpAny_pyIter_list L2
  exact⟨_,rfl,h⟩
theorem B7 {l1 l2:Addr} {xs ys:Array Value} {Q:Value→Shared→Prop} (m1:s.heap.IsTuple l1 xs) (m2:s.heap.IsList l2 ys)
  (q:∀h',IsZip h' (s.heap.objs.size+4) (s.heap.objs.size+2) (s.heap.objs.size+3) .none→IsPair h' (s.heap.objs.size+2) (.ref s.heap.objs.size) (.ref (s.heap.objs.size+1))→
   IsPair h' (s.heap.objs.size+3) .none .none→h'.IsTupleIter s.heap.objs.size l1 0→h'.IsListIter (s.heap.objs.size+1) l2 0→
   (∀c o,s.heap.get? c=some o→h'.get? c=some o)→Q (.ref (s.heap.objs.size+4)) {s with heap:=h'}):wpAny (model prog w) A (call (.type "zip") [.ref l1,.ref l2]) Q E s:=by
 refine callType_new PySem.F.called_zip (by decide) (PySem.F.typeCall_zip_2 _ _) (PySem.F.newCall_zip_2 _ _) (fun obj=>PySem.F.args_object_init_3 obj _ _) PySem.F.entry_zip_new (Aj l1 l2 xs ys) ⟨m1,m2,?_⟩
 have e1:(s.heap.push (nE l1)).objs.size=s.heap.objs.size+1:=Heap.size_push ..
 have e2:(B5 s.heap l1 l2).objs.size=s.heap.objs.size+2:=by rw[Heap.size_push,e1]
 have e3:(Fm s.heap l1 l2).objs.size=s.heap.objs.size+3:=by rw[Heap.size_push,e2]
 have e4:(B6 s.heap l1 l2).objs.size=s.heap.objs.size+4:=by rw[Heap.size_push,e3]
 have p5:(uj s.heap l1 l2).get? (B6 s.heap l1 l2).objs.size=some _:=Heap.get?_push_size _ rfl
 have up:∀{c:Addr} {o:Obj},(B6 s.heap l1 l2).get? c=some o→(uj s.heap l1 l2).get? c=some o:=fun x=>Heap.get?_push_of_some _ x
 have p4:(uj s.heap l1 l2).get? (Fm s.heap l1 l2).objs.size=some _:=up (Heap.get?_push_size _ rfl)
 have p3:(uj s.heap l1 l2).get? (B5 s.heap l1 l2).objs.size=some _:=up (Heap.get?_push_of_some _ (Heap.get?_push_size _ rfl))
 have wD:∀{c:Addr} {o:Obj},(B5 s.heap l1 l2).get? c=some o→(uj s.heap l1 l2).get? c=some o:=fun x=>up (Heap.get?_push_of_some _ (Heap.get?_push_of_some _ x))
 have p2:(uj s.heap l1 l2).get? (s.heap.push (nE l1)).objs.size=some _:=wD (Heap.get?_push_size _ rfl)
 have p1:(uj s.heap l1 l2).get? s.heap.objs.size=some _:=wD (Heap.get?_push_of_some _ (Heap.get?_push_size _ rfl))
 show _∧_
 rw[e2,e3,e4] at p5
 rw[e1,e2] at p3
 rw[e3] at p4
 rw[e1] at p2
 rw[e4]
 exact⟨⟨_,p5,rfl⟩,q _ p5 p3 p4 ⟨_,p1,rfl,rfl⟩ ⟨_,p2,rfl,rfl⟩ fun c o x=>wD (Heap.get?_push_of_some _ (Heap.get?_push_of_some _ x))⟩
end
def Ee (K:PySem.W.Frag) (a b:Addr):It:=
 ⟨fun i H=>∃xs ys x y,aU K H a xs∧bp K H b ys∧xs[i]? =some x∧ys[i]? =some y,
  fun i H v H'=>∃x y p,(∀xs,aU K H a xs→xs[i]? =some x)∧(∀ys,bp K H b ys→ys[i]? =some y)∧H p=none∧v=.ref p∧H'=upd H p (.tup [x,y]),
  fun i H=>∃xs ys,aU K H a xs∧bp K H b ys∧xs.length≤i⟩
theorem B8 {P:Program} {w:World} {K:PySem.W.Frag} {elts:List Expr} {x1} {tpos:Pos} (a b z TI TO i1 i2:Addr) (D:ZipApart z TI TO i1 i2 a b):
  Turn P w K (.Tuple elts x1 tpos) (Ee K a b) [z,TO,i1,i2,TI] z (fun i h=>IsZip h z TI TO .none∧IsPair h TI (.ref i1) (.ref i2)∧(∃x y,IsPair h TO x y)∧h.IsTupleIter i1 a i∧h.IsListIter i2 b i) where
 mem:=by simp
 obj:=fun i h st c hc=>by
  obtain⟨hz,hTI,⟨x,y,hTO⟩,h1,h2⟩:=st
  have hc':c=z∨c=TO∨c=i1∨c=i2∨c=TI:=by simpa using hc
  rcases hc' with q | q | q | q | q
  ·subst q;exact⟨_,hz,fun v e=>nomatch e⟩
  ·subst q;exact⟨_,hTO,fun v e=>nomatch e⟩
  ·subst q
   obtain⟨o,e,_,d⟩:=h1
   exact⟨o,e,fun v q=>by rw[d] at q;cases q⟩
  ·subst q
   obtain⟨o,e,_,d⟩:=h2
   exact⟨o,e,fun v q=>by rw[d] at q;cases q⟩
  ·subst q;exact⟨_,hTI,fun v e=>nomatch e⟩
 keep:=fun i h h' st k=>by
  obtain⟨hz,hTI,⟨x,y,hTO⟩,h1,h2⟩:=st
  exact⟨k z (by simp) _ hz,k TI (by simp) _ hTI,⟨x,y,k TO (by simp) _ hTO⟩,let ⟨o,ho,r⟩:=h1;⟨o,k i1 (by simp) o ho,r⟩,h2.at fun o q=>k i2 (by simp) o q⟩
 item:=by
  intro X hP hw hK hc i pins s σ H E I hf st hg
  subst hP hw hK
  obtain⟨hz,hTI,⟨u1,u2,hTO⟩,h1,h2⟩:=st
  obtain⟨xs,ys,x,y,hq,hq2,hx,hy⟩:=hg
  obtain⟨its,rv,p,_⟩:=I.tuple hq
  obtain⟨its2,j4,p2,_⟩:=I.list hq2
  obtain⟨u,hu,ru⟩:=rv.get hx
  obtain⟨v,hv,rv'⟩:=j4.get hy
  refine B4 D hz hTI hTO h1 h2 (show s.heap.IsTuple a its.toArray from p) p2.isList (x:=u) (y:=v) (by simpa using hu) (by simpa using hv) fun h1' a1 a2 a3 a4 a5 a6 kk=>?_
  have nn:H s.heap.objs.size=none:=I.hok.fresh (Nat.le_refl _)
  have nz:∀c∈[z,TO,i1,i2],ft X pins H c:=fun c hc=>hf c (by
   have hc':c=z∨c=TO∨c=i1∨c=i2:=by simpa using hc
   rcases hc' with q | q | q | q<;>simp[q])
  have I1:Inv X pins σ (upd H s.heap.objs.size (.tup [x,y])) {s with heap:=h1',toks:=s.toks}:=
   I.lU (ch:=[z,TO,i1,i2]) nz (fun c o hc q=>kk c o (fun e=>hc (by simp[e])) (fun e=>hc (by simp[e])) (fun e=>hc (by simp[e])) (fun e=>hc (by simp[e])) q) (Nat.le_refl _)
    ⟨⟨by show 2≤sizeLine;decide,_,a5,rfl⟩,[u,v],.cons ru (.cons rv' .nil),⟨_,a5,rfl,_,rfl⟩⟩
  have lz:z<s.heap.objs.size:=Heap.lt_size hz
  have Bu:TI<s.heap.objs.size:=Heap.lt_size hTI
  have Bv:TO<s.heap.objs.size:=Heap.lt_size hTO
  have l1:i1<s.heap.objs.size:=by obtain⟨o,q,_⟩:=id h1;exact Heap.lt_size q
  have l2:i2<s.heap.objs.size:=by obtain⟨o,q,_⟩:=id h2;exact Heap.lt_size q
  refine⟨_,rfl,wpAny_letOwnedTupleGo_zip a1 fun h2' e2 sb=>?_⟩
  obtain⟨f0,f1,f2,f3,f4,f5⟩:=hf z (by simp)
  have I2:=I1.turned (h':=h2') (t':=s.toks) (it:=z) (fun c o hc q=>(sb.2 c hc).trans q) (by rw[ak (Nat.ne_of_lt lz)];exact f0) f1 f3 f4 f5
  refine⟨.ref s.heap.objs.size,_,I2,rfl,⟨x,y,s.heap.objs.size,fun zs hy=>by rw[I.iQ hy hq];exact hx,fun zs hz'=>by rw[I.ia hz' hq2];exact hy,nn,rfl,rfl⟩,
   ⟨e2,(sb.2 TI D.TIz).trans (kk _ _ D.TIz D.TITO D.TIi1 D.TIi2 hTI),⟨_,_,(sb.2 TO D.TOz).trans a2⟩,let ⟨o,ho,r⟩:=a3;⟨o,(sb.2 i1 D.i1z).trans ho,r⟩,a4.at fun o q=>(sb.2 i2 D.i2z).trans q⟩,fun c hc=>?_⟩
  have hlt:c<s.heap.objs.size:=by
   have hc':c=z∨c=TO∨c=i1∨c=i2∨c=TI:=by simpa using hc
   rcases hc' with q | q | q | q | q
   ·rw[q];exact lz
   ·rw[q];exact Bv
   ·rw[q];exact l1
   ·rw[q];exact l2
   ·rw[q];exact Bu
  rw[ak (Nat.ne_of_lt hlt)]
  exact(hf c hc).1
 done:=by
  intro X hP hw hK hc i pins s σ H E I hf st hg
  subst hP hw hK
  obtain⟨hz,hTI,⟨u1,u2,hTO⟩,h1,h2⟩:=st
  obtain⟨xs,ys,hq,hq2,hx⟩:=hg
  obtain⟨its,rv,p,_⟩:=I.tuple hq
  obtain⟨its2,j4,p2,_⟩:=I.list hq2
  have hl:=rv.length
  have nz:∀c∈[z,TO,i1,i2],ft X pins H c:=fun c hc=>hf c (by
   have hc':c=z∨c=TO∨c=i1∨c=i2:=by simpa using hc
   rcases hc' with q | q | q | q<;>simp[q])
  exact Ai (I.ok.hd hc) D hz hTI hTO h1 h2 (show s.heap.IsTuple a its.toArray from p) p2.isList (by simp;omega) fun h' kk=>
   ⟨rfl,I.rP (t':=s.toks) (ch:=[z,TO,i1,i2]) nz (fun c o hc q=>kk c o (fun e=>hc (by simp[e])) (fun e=>hc (by simp[e])) (fun e=>hc (by simp[e])) (fun e=>hc (by simp[e])) q)⟩
 self:=fun _ _ _ _ _ st h=>wpAny_pyIter_zip st.1 h
def Fn (K:PySem.W.Frag) (ta:TA):TI:=fun σ H R=>ta σ H fun vs H1=>∃a b,vs=[.ref a,.ref b]∧(∃xs,aU K H1 a xs)∧(∃ys,bp K H1 b ys)∧R (Ee K a b) H1
theorem y8 {X:Cx} {elts:List Expr} {x1} {tpos:Pos} {a b:Expr} {ta:TA} {p pos:Pos} (hg:Gl X "zip") (hm:X.mg "zip"=none) (ha:PA X [a,b] ta)
  (hs:starEach [a,b] X.env=[(false,eval a X.env),(false,eval b X.env)]:=by rfl) (hs2:starEach [b] X.env=[(false,eval b X.env)]:=by rfl):
  PI X (.Tuple elts x1 tpos) (.Call (.Name "zip" p) [a,b] [] pos) (Fn X.K ta):=by
 intro pins s σ H R I h
 refine Call_ (gc I hg hm boot_zip (PyProof.Rows.callWith_type1 (aE (ha pos pins s σ H _ I h) fun us s1 ⟨vs,H1,I1,r1,q1⟩=>?_) (by rw[hs,hs2]) (by rw[hs2];rfl)))
 obtain⟨l1,l2,e,⟨xs,hq⟩,⟨ys,hq2⟩,q⟩:=q1
 subst e
 cases r1 with
 | cons r rr=>
  cases rr with
  | cons r' rr=>
   cases rr
   cases r
   cases r'
   obtain⟨its,rv,pl,_⟩:=I1.tuple hq
   obtain⟨its2,j4,t7,_⟩:=I1.list hq2
   have a1:l1<s1.heap.objs.size:=by obtain⟨_,e,_⟩:=(show s1.heap.IsTuple l1 its.toArray from pl);exact Heap.lt_size e
   have a2:l2<s1.heap.objs.size:=by obtain⟨_,e,_⟩:=t7.isList;exact Heap.lt_size e
   refine B7 (show s1.heap.IsTuple l1 its.toArray from pl) t7.isList fun h' hz hTI hTO hi1 hi2 kk=>?_
   have I2:Inv X pins σ H1 {s1 with heap:=h'}:=I1.kept (t':=s1.toks) kk
   refine wpAny_pyIter_zip hz ?_
   refine⟨s1.heap.objs.size+4,[s1.heap.objs.size+4,s1.heap.objs.size+3,s1.heap.objs.size,s1.heap.objs.size+1,s1.heap.objs.size+2],_,_,H1,rfl,I2,B8 l1 l2 _ _ _ _ _ (zipApart_new a1 a2),⟨hz,hTI,⟨_,_,hTO⟩,hi1,hi2⟩,fun c hc=>?_,q⟩
   have hle:s1.heap.objs.size≤c:=by
    have hc':c=s1.heap.objs.size+4∨c=s1.heap.objs.size+3∨c=s1.heap.objs.size∨c=s1.heap.objs.size+1∨c=s1.heap.objs.size+2:=by simpa using hc
    rcases hc' with q | q | q | q | q<;>(rw[q];first | exact Nat.le_add_right _ _ | exact Nat.le_refl _)
   exact I1.jB hle (I1.hok.fresh hle)
theorem uk {K:PySem.W.Frag} {a b:Addr} {xs ys:List V} {g:TG} {tt:TT} {te:TE} {D:Addr} {σ:St} {H:Hp} {R:Hp→Prop} (Pv:Nat→St→Hp→Prop) (hlen:xs.length=ys.length) (h0:Pv 0 σ H) (hl:∀i σ H,i≤xs.length→Pv i σ H→aU K H a xs∧bp K H b ys)
  (hs:∀i x y p σ H,xs[i]? =some x→ys[i]? =some y→Pv i σ H→H p=none→g (.ref p) σ (upd H p (.tup [x,y])) fun σ2 H2=>tt σ2 H2 fun b H3=>if b=true then te σ2 H3 fun y H4=>∃ys,H4 D=some (.lst ys)∧ys.length<sizeLine∧Pv (i+1) σ2 (upd H4 D (.lst (ys++[y]))) else Pv (i+1) σ2 H3)
  (hd:∀σ H,Pv xs.length σ H→R H):j3 (Ee K a b) g tt te D σ H R:=by
 refine⟨fun i m σ H=>m=xs.length-i∧i≤xs.length∧Pv i σ H,⟨xs.length,by simp,Nat.zero_le _,h0⟩,?_⟩
 rintro i m σ H ⟨rfl,hi,p⟩
 obtain⟨q1,q2⟩:=hl i σ H hi p
 by_cases hlt:i<xs.length
 ·refine .inr ⟨⟨xs,ys,xs[i],ys[i]'(by omega),q1,q2,by simp[hlt],by simp[hlen▸hlt]⟩,Pv (i+1),fun σ' H' p'=>⟨xs.length-(i+1),by omega,rfl,hlt,p'⟩,fun v H' y=>?_⟩
  obtain⟨x,y,p',e1,e2,e3,rfl,rfl⟩:=y
  exact hs i x y p' σ H (e1 xs q1) (e2 ys q2) p e3
 ·have e:i=xs.length:=by omega
  subst e
  exact .inl ⟨⟨xs,ys,q1,q2,Nat.le_refl _⟩,hd σ H p⟩
theorem Ef {X:Cx} {elts:List Expr} {x1} {tpos:Pos} {a b:Expr} {ta:TA} {p pos:Pos} (K:PySem.W.Frag) (hg:Gl X "zip") (hm:X.mg "zip"=none) (ha:PA X [a,b] ta)
  (hs:starEach [a,b] X.env=[(false,eval a X.env),(false,eval b X.env)]:=by rfl) (hs2:starEach [b] X.env=[(false,eval b X.env)]:=by rfl) (hK:X.K=K:=by rfl):
  PI X (.Tuple elts x1 tpos) (.Call (.Name "zip" p) [a,b] [] pos) (Fn K ta):=by subst hK;exact y8 hg hm ha hs hs2
end L2
namespace My
open PySem L2
def top (i:Nat):Stmt:=PySem.Challenge.pw_figurejudge_k34_rooms_of_same_and_less.main.body.getD i (.Pass ⟨0,0,0,0⟩)
abbrev fC:Stmt:=top 1
abbrev cH:Stmt:=top 2
abbrev fD:Stmt:=top 4
abbrev bA:Stmt:=top 6
abbrev d7:Stmt:=top 7
abbrev cI:Stmt:=top 11
abbrev dg:Stmt:=top 12
abbrev cz:Stmt:=top 13
abbrev cg:Stmt:=top 14
abbrev dh:Stmt:=top 15
abbrev cA:Stmt:=top 16
abbrev d8:Stmt:=top 17
abbrev eX:Stmt:=top 19
abbrev gM:Stmt:=top 20
abbrev cJ:Stmt:=top 21
abbrev cK:Stmt:=top 22
abbrev dq:Stmt:=top 23
abbrev bx:Stmt:=top 24
abbrev bz:Stmt:=top 25
abbrev fE:Stmt:=top 26
abbrev gj:Stmt:=top 27
abbrev bW:Stmt:=top 28
abbrev bO:Stmt:=top 29
abbrev dr:Stmt:=top 30
abbrev cn:Stmt:=top 31
abbrev gN:Stmt:=top 33
abbrev il:Stmt:=top 34
abbrev gY:Stmt:=top 35
abbrev eJ:Stmt:=top 36
abbrev gP:Stmt:=top 37
abbrev dQ:Stmt:=top 39
abbrev gZ:Stmt:=top 40
abbrev fF:Stmt:=top 41
abbrev dv:Stmt:=top 42
abbrev iJ:Stmt:=top 43
set_option genInjectivity false in
set_option genSizeOf false in
structure bR where
 jK:Addr
 mL:FuncData
 gu:Addr
 ip:FuncData
 jL:Addr
 mM:FuncData
 hG:Addr
 gw:FuncData
 wJ:Addr
 hJ:Addr
 i8:FuncData
 dw:Addr
 d9:FuncData
 fG:Addr
 gx:FuncData
 di:Addr
 dY:FuncData
 dG:Addr
 eZ:FuncData
 fH:Addr
 gy:FuncData
 dj:Addr
 dZ:FuncData
 fI:Addr
 gA:FuncData
 jn:Addr
 kE:FuncData
 mf:Addr
 nJ:FuncData
 gB:Addr
 iq:FuncData
 gC:Addr
 iu:FuncData
 fi:Addr
 fP:FuncData
 cL:Addr
 iw:FuncData
 fj:Addr
 bF:Addr
 cM:Addr
 ix:FuncData
 fk:Addr
 bG:Addr
 jM:Addr
 mN:FuncData
 kG:Addr
 nK:FuncData
 gD:Addr
 iy:FuncData
 mO:Addr
 dA:Addr
 fQ:Addr
 hU:FuncData
 lA:Addr
 cY:Addr
 gE:Addr
 iz:FuncData
 iY:Addr
 hV:FuncData
 B9:Addr
 mh:Addr
 nL:FuncData
 mj:Addr
 nM:FuncData
 kd:Addr
 ml:FuncData
 ke:Addr
 mn:FuncData
 mq:Addr
 nO:FuncData
 iK:Addr
 jN:FuncData
 kf:Addr
 mr:FuncData
 fJ:Addr
 fR:FuncData
 oS:Addr
 pW:FuncData
 y9:Addr
 fq:Addr
 Ak:Addr
 B':FuncData
structure Txt (K:PySem.W.Frag) (mg:Str→Option Value) (a:bR):Prop where
 IV:cQ K "figures_of" "figures_of" fC a.jK a.mL
 IW:mg "figures_of"=some (.ref a.jK)
 IX:PySem.W.keepIn K (.ref a.jK)=true
 IY:Binds K a.mL ["base","number"] []
 uI:cQ K "all_letters" "all_letters" cH a.gu a.ip
 mP:mg "all_letters"=some (.ref a.gu)
 mQ:PySem.W.keepIn K (.ref a.gu)=true
 mR:Binds K a.ip ["base","many"] []
 IZ:cQ K "room_after" "room_after" fD a.jL a.mM
 I_:mg "room_after"=some (.ref a.jL)
 I0:PySem.W.keepIn K (.ref a.jL)=true
 Ja:Binds K a.mM ["moves","room","figures"] []
 wK:i6 K "grown_from" "grown_from" bA a.hG a.gw (.ref a.wJ)
 wL:mg "grown_from"=some (.ref a.hG)
 wM:PySem.W.keepIn K (.ref a.hG)=true
 wN:Binds K a.gw ["first","many","onward","is_yes","most"] []
 Jb:∃t,Binds K a.gw ["first","many","onward","is_yes","most"] [.int 2000 t]
 wO:cQ K "machine_of" "machine_of" d7 a.hJ a.i8
 wQ:mg "machine_of"=some (.ref a.hJ)
 wR:PySem.W.keepIn K (.ref a.hJ)=true
 wU:Binds K a.i8 ["base","names","growth","most"] []
 uJ:cQ K "inner_parts" "inner_parts" cI a.dw a.d9
 mS:mg "inner_parts"=some (.ref a.dw)
 mT:PySem.W.keepIn K (.ref a.dw)=true
 mU:Binds K a.d9 ["saying"] []
 wV:cQ K "term_names" "term_names" dg a.fG a.gx
 wW:mg "term_names"=some (.ref a.fG)
 wX:PySem.W.keepIn K (.ref a.fG)=true
 wY:Binds K a.gx ["saying"] []
 pX:cQ K "parts_in_order" "parts_in_order" cz a.di a.dY
 pY:mg "parts_in_order"=some (.ref a.di)
 pZ:PySem.W.keepIn K (.ref a.di)=true
 p_:Binds K a.dY ["saying"] []
 qL:cQ K "told_of_parts" "told_of_parts" cg a.dG a.eZ
 qM:mg "told_of_parts"=some (.ref a.dG)
 qN:PySem.W.keepIn K (.ref a.dG)=true
 qO:Binds K a.eZ ["told","place","saying"] []
 wZ:cQ K "names_over" "names_over" dh a.fH a.gy
 w_:mg "names_over"=some (.ref a.fH)
 xa:PySem.W.keepIn K (.ref a.fH)=true
 xb:Binds K a.gy ["saying","inner"] []
 p6:cQ K "names_by_place" "names_by_place" cA a.dj a.dZ
 p7:mg "names_by_place"=some (.ref a.dj)
 p8:PySem.W.keepIn K (.ref a.dj)=true
 p9:Binds K a.dZ ["saying"] []
 xc:cQ K "free_names" "free_names" d8 a.fI a.gA
 xf:mg "free_names"=some (.ref a.fI)
 xg:PySem.W.keepIn K (.ref a.fI)=true
 xh:Binds K a.gA ["saying"] []
 Al:cQ K "times_of" "times_of" eX a.jn a.kE
 qP:mg "times_of"=some (.ref a.jn)
 qQ:PySem.W.keepIn K (.ref a.jn)=true
 qR:Binds K a.kE ["term","names"] []
 Eg:cQ K "sum_of" "sum_of" gM a.mf a.nJ
 Eh:mg "sum_of"=some (.ref a.mf)
 Ei:PySem.W.keepIn K (.ref a.mf)=true
 Ej:Binds K a.nJ ["letter","times"] []
 uK:cQ K "letter_sums" "letter_sums" cJ a.gB a.iq
 mV:mg "letter_sums"=some (.ref a.gB)
 mW:PySem.W.keepIn K (.ref a.gB)=true
 mX:Binds K a.iq ["base","times"] []
 uL:cQ K "differences" "differences" cK a.gC a.iu
 mY:mg "differences"=some (.ref a.gC)
 mZ:PySem.W.keepIn K (.ref a.gC)=true
 m_:Binds K a.iu ["saying","names"] []
 uM:cQ K "same_onward" "same_onward" dq a.fi a.fP
 uN:mg "same_onward"=some (.ref a.fi)
 uO:PySem.W.keepIn K (.ref a.fi)=true
 uP:Binds K a.fP ["base","room","total"] []
 uQ:i6 K "same_growth" "same_growth" bx a.cL a.iw (.ref a.fj)
 m3:PySem.W.codeHdIn K a.fj a.bF=true
 uR:mg "same_growth"=some (.ref a.cL)
 uS:PySem.W.keepIn K (.ref a.cL)=true
 uT:Binds K a.iw ["base","names","saying"] []
 uV:i6 K "less_growth" "less_growth" bz a.cM a.ix (.ref a.fk)
 m4:PySem.W.codeHdIn K a.fk a.bG=true
 uW:mg "less_growth"=some (.ref a.cM)
 uX:PySem.W.keepIn K (.ref a.cM)=true
 uY:Binds K a.ix ["base","names","saying"] []
 Jc:cQ K "row_onward" "row_onward" fE a.jM a.mN
 Jd:mg "row_onward"=some (.ref a.jM)
 Je:PySem.W.keepIn K (.ref a.jM)=true
 Jf:Binds K a.mN ["base","row","pair","total"] []
 LL:cQ K "sign_from" "sign_from" gj a.kG a.nK
 LN:mg "sign_from"=some (.ref a.kG)
 LO:PySem.W.keepIn K (.ref a.kG)=true
 LP:Binds K a.nK ["base","row","pair"] []
 uZ:i6 K "sign_growth" "sign_growth" bW a.gD a.iy (.ref a.mO)
 Hi:PySem.W.codeHdIn K a.mO a.dA=true
 u_:mg "sign_growth"=some (.ref a.gD)
 u0:PySem.W.keepIn K (.ref a.gD)=true
 u3:Binds K a.iy ["world","names","saying"] []
 rX:i6 K "alike_growth" "alike_growth" bO a.fQ a.hU (.ref a.lA)
 GV:PySem.W.codeHdIn K a.lA a.cY=true
 rY:mg "alike_growth"=some (.ref a.fQ)
 rZ:PySem.W.keepIn K (.ref a.fQ)=true
 r_:Binds K a.hU ["world","names","saying"] []
 u4:cQ K "atom_growth" "atom_growth" dr a.gE a.iz
 u5:mg "atom_growth"=some (.ref a.gE)
 u6:PySem.W.keepIn K (.ref a.gE)=true
 u9:Binds K a.iz ["world","names","saying"] []
 Ca:i6 K "atom_of" "atom_of" cn a.iY a.hV (.ref a.B9)
 kg:mg "atom_of"=some (.ref a.iY)
 kh:PySem.W.keepIn K (.ref a.iY)=true
 nP:Binds K a.hV ["world","saying","most"] []
 Cb:∃t,Binds K a.hV ["world","saying","most"] [.int 2000 t]
 Ek:cQ K "_law_feed" "_law_feed" gN a.mh a.nL
 El:mg "_law_feed"=some (.ref a.mh)
 Em:PySem.W.keepIn K (.ref a.mh)=true
 En:Binds K a.nL ["_law_script"] []
 Eo:cQ K "_law_draw" "_law_draw" il a.mj a.nM
 dR:mg "_law_draw"=some (.ref a.mj)
 dS:PySem.W.keepIn K (.ref a.mj)=true
 dU:Binds K a.nM ["_law_feed_here","_law_many"] []
 Cc:cQ K "_law_after" "_law_after" gY a.kd a.ml
 Cd:mg "_law_after"=some (.ref a.kd)
 Ce:PySem.W.keepIn K (.ref a.kd)=true
 Cf:Binds K a.ml ["_law_word"] []
 Cg:cQ K "_law_names" "_law_names" eJ a.ke a.mn
 Ci:mg "_law_names"=some (.ref a.ke)
 Cj:PySem.W.keepIn K (.ref a.ke)=true
 Ck:Binds K a.mn ["_law_feed_here","_law_many"] []
 Ep:cQ K "_law_term" "_law_term" gP a.mq a.nO
 xi:mg "_law_term"=some (.ref a.mq)
 xj:PySem.W.keepIn K (.ref a.mq)=true
 xk:Binds K a.nO ["_law_feed_here","_law_names_here"] []
 yn:cQ K "_law_letters" "_law_letters" dQ a.iK a.jN
 yo:mg "_law_letters"=some (.ref a.iK)
 yp:PySem.W.keepIn K (.ref a.iK)=true
 yq:Binds K a.jN ["_law_base","_law_many"] []
 Cm:cQ K "_law_grown" "_law_grown" gZ a.kf a.mr
 Cn:mg "_law_grown"=some (.ref a.kf)
 Co:PySem.W.keepIn K (.ref a.kf)=true
 Cp:Binds K a.mr ["_law_first","_law_many","_law_onward","_law_most"] []
 Cq:cQ K "_law_alike" "_law_alike" fF a.fJ a.fR
 nQ:mg "_law_alike"=some (.ref a.fJ)
 nR:PySem.W.keepIn K (.ref a.fJ)=true
 nS:Binds K a.fR ["_law_found","_law_due_here"] []
 GW:i6 K "_law_due" "_law_due" dv a.oS a.pW (.ref a.y9)
 GX:PySem.W.codeHdIn K a.y9 a.fq=true
 GY:mg "_law_due"=some (.ref a.oS)
 GZ:PySem.W.keepIn K (.ref a.oS)=true
 G_:Binds K a.pW ["_law_base","_law_word","_law_one","_law_other","_law_names_here"] []
 Mk:cQ K "law" "law" iJ a.Ak a.B'
 Wu:mg "law"=some (.ref a.Ak)
 fS:mg "range"=none
 cZ:mg "tuple"=none
 cS:mg "len"=none
 qS:mg "list"=none
 qT:mg "dict"=none
 Fp:mg "sum"=none
 yr:mg "enumerate"=none
 Am:mg "reversed"=none
 xl:mg "sorted"=none
 Fq:mg "abs"=none
 bV:mg "isinstance"=none
 xm:mg "bool"=none
 Ml:mg "set"=none
 vA:mg "zip"=none
 Mm:mg "all"=none
 An:mg "int"=none
 tne01:a.bF≠a.bG
 tne02:a.bF≠a.dA
 tne03:a.bF≠a.cY
 tne04:a.bF≠a.fq
 tne12:a.bG≠a.dA
 tne13:a.bG≠a.cY
 tne14:a.bG≠a.fq
 tne23:a.dA≠a.cY
 tne24:a.dA≠a.fq
 tne34:a.cY≠a.fq
theorem za {c:TT} {tb:TS} {D:Ends} {σ:St} {H:Hp} (W:Nat→St→Hp→Prop) (h0:∃m,W m σ H)
  (hs:∀m σ H,W m σ H→c σ H fun b H1=>if b=true then tb {D with nx:=fun σ' H'=>∃m',m'<m∧W m' σ' H',ct:=fun σ' H'=>∃m',m'<m∧W m' σ' H',bk:=D.nx} σ H1 else D.nx σ H1)
  (mono:∀σ H Q Q',(∀b H1,Q b H1→Q' b H1)→c σ H Q→c σ H Q'):nh c tb D σ H:=by
 refine⟨W,h0,fun m σ H w=>mono σ H _ _ (fun b H1 q=>?_) (hs m σ H w)⟩
 cases b with
 | true=>exact⟨_,fun σ' H' p=>p,q⟩
 | false=>exact q
theorem iL {H:Hp} {D:Addr} {kvs:List (Key×V)} {x:Str} {v:V} (h:Rd H D (.dK kvs)) (e:aV kvs (Sum.inr x)=some v):lQ H D (.str x) (some v):=.inl ⟨kvs,Sum.inr x,h,rfl,e.symm⟩
def fd (L:Addr) (n sd:Int):List (Key×V):=[(Sum.inr ("left":Str),.ref L),(Sum.inr ("number":Str),.int n),(Sum.inr ("seed":Str),.int sd)]
theorem zb (L:Addr) (n sd:Int):aV (fd L n sd) (Sum.inr ("left":Str))=some (.ref L):=bJ rfl
theorem iZ (L:Addr) (n sd:Int):aV (fd L n sd) (Sum.inr ("number":Str))=some (.int n):=by
 unfold fd
 rw[br (show ¬((Sum.inr ("left":Str):Key)=Sum.inr ("number":Str)) by decide+kernel),bJ rfl]
theorem r6 (L:Addr) (n sd:Int):aV (fd L n sd) (Sum.inr ("seed":Str))=some (.int sd):=by
 unfold fd
 rw[br (show ¬((Sum.inr ("left":Str):Key)=Sum.inr ("seed":Str)) by decide+kernel),br (show ¬((Sum.inr ("number":Str):Key)=Sum.inr ("seed":Str)) by decide+kernel),bJ rfl]
theorem zc (L:Addr) (n sd v:Int):putK (fd L n sd) (Sum.inr ("number":Str)) (.int v)=fd L v sd:=by
 unfold putK fd
 have a1:¬((Sum.inr ("left":Str):Key)=Sum.inr ("number":Str)):=by decide+kernel
 have a2:¬((Sum.inr ("seed":Str):Key)=Sum.inr ("number":Str)):=by decide+kernel
 simp only[List.any_cons,List.any_nil,List.map_cons,List.map_nil,a1,a2,if_false,if_true,decide_true,decide_false,Bool.true_or,Bool.or_true]
theorem G0 (L:Addr) (n sd v:Int):putK (fd L n sd) (Sum.inr ("seed":Str)) (.int v)=fd L n v:=by
 unfold putK fd
 have a1:¬((Sum.inr ("left":Str):Key)=Sum.inr ("seed":Str)):=by decide+kernel
 have a2:¬((Sum.inr ("number":Str):Key)=Sum.inr ("seed":Str)):=by decide+kernel
 simp only[List.any_cons,List.any_nil,List.map_cons,List.map_nil,a1,a2,if_false,if_true,decide_true,decide_false,Bool.true_or,Bool.or_true]
structure cj (H:Hp) (F L:Addr):Prop where
 ex:∃(ms:List Int) (n sd:Int),H F=some (.dK (fd L n sd))∧H L=some (.lst (ms.map V.int))∧0≤n∧(∀m∈ms,0≤m)∧0≤sd∧sd<2147483648
theorem cj.same {H H':Hp} {F L:Addr} (h:cj H F L) (s:Same H H'):cj H' F L:=by
 obtain⟨ms,n,sd,a,b,c⟩:=h.ex
 exact⟨ms,n,sd,s _ _ a,s _ _ b,c⟩
def Jg:Sp:=fun vs H Q _=>∃(F L:Addr) (m:Nat),vs=[.ref F,.int m]∧cj H F L∧0<m∧m<2 ^ 1000∧∀(r:Nat) (H':Hp),r<m→eG F L H H'→cj H' F L→Q (.int (r:Nat)) H'
section
variable {P:Program} {w:World} {K:PySem.W.Frag} {mg:Str→Option Value} {base:Heap}
theorem ki:aO ["_law_feed_here","_law_many","_law_found","_law_one","_law_two"] ["_law_feed_here","_law_many"] (ah il):=⟨rfl,rfl,rfl,by decide+kernel,rfl,by decide+kernel,by decide+kernel⟩
theorem nT {a:bR} (T:Txt K mg a):aQ P w K mg base bj 1 a.mj a.nM ["_law_feed_here","_law_many"] Jg:=by
 refine T.Eo.ok ki (fun vs H Q E h=>?_) (fun cdv A outer s H vs Q E hr h=>?_)
 ·obtain⟨F,L,m,rfl,_⟩:=h
  rfl
 ·obtain⟨F,L,many,rfl,hf,hm0,hm1,k⟩:=h
  refine⟨_,(ai (jA PassesOwn.never (PW.pt (Hs (a_ g5 (d5 (bN hr) (pv 0) bb (fun _ _=>rfl)) ao (aY _)) (Gk (a_ (H_ K hr.units) (d5 (bN hr) (pv 0) bb (fun _ _=>rfl)) (cD ag) (aY _)))))
   (av (oI (bN hr) (pv 0) bb (Bd PySem.F.plainAttrs_list PySem.F.slot_list_pop PySem.F.type_list_pop Be (d5 (bN hr) (pv 0) bb (fun _ _=>rfl))) rfl)))
  (ai (cu (a_ qm (d5 (bN hr) (pv 0) bb (fun _ _=>rfl)) ao (aY _))
   (ai (az (i:=2) ki.nd rfl (Or.inl rfl) (aH d6 (d5 (bN hr) (pv 0) bb (fun _ _=>rfl)) (pv 1)))
   (ai (oI (bN hr) (pv 0) bb (aH ig (d5 (bN hr) (pv 0) bb (fun _ _=>rfl)) (pv 1)) rfl)
   (av (aK (pv 2)))))
   bD)
  (ai (az (i:=3) ki.nd rfl (Or.inl rfl) (aH d6 (aH iS (aH iT (d5 (bN hr) (pv 0) bb (fun _ _=>rfl)) ao) ao) ao))
  (ai (oI (bN hr) (pv 0) bb (aH d6 (aH iS (aH iT (pv 3) ao) ao) ao) rfl)
  (ai (az (i:=4) ki.nd rfl (Or.inl rfl) (aH d6 (aH iT (d5 (bN hr) (pv 0) bb (fun _ _=>rfl)) (d5 (bN hr) (pv 0) bb (fun _ _=>rfl))) ao))
  (av (aK (aH d6 (aH iS (aH iT (aH d6 (aH iT (pv 3) (pv 3)) ao) ao) (pv 4)) (pv 1))))))))),?_⟩
  obtain⟨Tw,n0,Tx,e0,l0,hn0,O8,hs0,hs1⟩:=hf.ex
  have zf:F≠L:=fL e0 l0 (fun z=>nomatch z)
  have put:∀{H':Hp} {kv:List (Key×V)},H' F=some (.dK kv)→kv.length=3→kv.length<sizeLine:=fun _ z=>by rw[z];decide
  refine za (fun m σ H'=>∃(ms:List Int) (n sd:Int),m=ms.length∧σ=[some (.ref F),some (.int (many:Nat)),none,none,none]∧eG F L H H'∧H' F=some (.dK (fd L n sd))∧H' L=some (.lst (ms.map V.int))∧0≤n∧(∀m∈ms,0≤m)∧0≤sd∧sd<2147483648)
   ⟨_,Tw,n0,Tx,rfl,rfl,fun b o e _ _=>e,e0,l0,hn0,O8,hs0,hs1⟩ ?_ ?_
  ·rintro m σ H1 ⟨ms,n,sd,rfl,rfl,k1,e1,l1,hn,hms,hs,hs'⟩
   have Er:∀kv:List (Key×V),kv.length=3→kv.length<sizeLine:=fun kv z=>by rw[z];decide
   refine⟨_,rfl,F,.int n,rfl,iL (.inl e1) (iZ ..),rfl,_,rfl,?_⟩
   refine bH (fun hz=>?_) (fun hz=>?_)
   ·have hz':n=0:=V.int.inj (of_decide_eq_true hz)
    subst hz'
    refine⟨_,rfl,F,.ref L,rfl,iL (.inl e1) (zb ..),by decide,fun E hE=>?_⟩
    have sE:=Same.new (o:=.lst []) hE
    have e2:=sE _ _ e1
    have l2:=sE _ _ l1
    have k2:eG F L H (upd H1 E (.lst [])):=k1.trans sE.kb2
    refine⟨⟨.lst (ms.map .int),.lst [],oN (.of l2) (nu ms),oN (.of af) eS,rfl,rfl,?dep,_,rfl,?_⟩,.lst (ms.map .int),.lst [],oN (.of l2) (nu ms),oN (.of af) eS,.inr ⟨_,_,rfl,rfl⟩⟩
    case dep=>rw[Dt.dep,t_];decide
    have eb:(if true=true then !(Dt.lst (ms.map .int)).beq (.lst []) else(Dt.lst (ms.map .int)).beq (.lst []))=decide (ms≠[]):=by
     rw[if_pos rfl,Dt.beq]
     cases ms with
     | nil=>simp[Dt.eP]
     | cons y ys=>simp[Dt.eP]
    rw[eb]
    generalize upd H1 E (.lst [])=H2 at e2 l2 k2 ⊢
    refine bH (fun hne=>?_) (fun hem=>?_)
    ·have hne':ms≠[]:=of_decide_eq_true hne
     have hl:0<ms.length:=List.length_pos_iff.mpr hne'
     obtain⟨x,hx⟩:∃x,ms[ms.length-1]? =some x:=⟨_,List.getElem?_eq_getElem (by omega)⟩
     have hx0:=hms x (List.mem_of_getElem? hx)
     refine⟨_,rfl,F,.ref L,rfl,iL (.inl e2) (zb ..),.inl ⟨rfl,_,.of l2⟩,L,_,.int x,rfl,rfl,l2,by rw[List.length_map,List.getElem?_map,hx];rfl,?_⟩
     have e3:(upd H2 L (.lst (ms.map V.int).dropLast)) F=some (.dK (fd L 0 sd)):=by rw[ak zf];exact e2
     refine⟨_,rfl,F,_,rfl,ky.k (k:=Sum.inr ("number":Str)) e3 (Er _ rfl),?_⟩
     refine⟨ms.dropLast.length,by rw[List.length_dropLast];omega,ms.dropLast,x,sd,rfl,rfl,?_,?_,?_,hx0,fun m hm=>hms m (List.dropLast_subset _ hm),hs,hs'⟩
     ·exact k2.trans ((KB.r KB.write).trans (KB.l KB.write))
     ·rw[af,zc]
     ·rw[ak zf.symm,af,List.map_dropLast]
    ·
     refine⟨_,rfl,F,.int 0,rfl,iL (.inl e2) (iZ ..),_,_,rfl,rfl,_,rfl,?_⟩
     refine bH (fun z=>absurd (of_decide_eq_true z) (by decide)) (fun _=>?_)
     refine⟨_,rfl,F,.int sd,rfl,iL (.inl e2) (r6 ..),_,_,rfl,rfl,.inr (by constructor<;>decide),_,_,rfl,rfl,_,_,rfl,rfl,cpos (by decide),?_⟩
     have o0:0≤(sd*48271+7919) % 2147483647:=Int.emod_nonneg _ (by decide)
     have o1:(sd*48271+7919) % 2147483647<2147483647:=Int.emod_lt_of_pos _ (by decide)
     dsimp only[aM]
     generalize (sd*48271+7919) % 2147483647=one at o0 o1 ⊢
     refine⟨_,rfl,_,_,rfl,rfl,.inr (by constructor<;>decide),_,_,rfl,rfl,_,_,rfl,rfl,cpos (by decide),_,rfl,F,_,rfl,ky.k (k:=Sum.inr ("seed":Str)) e2 (Er _ rfl),?_⟩
     have t0:0≤(one*40692+104729) % 2147483399:=Int.emod_nonneg _ (by decide)
     have t1:(one*40692+104729) % 2147483399<2147483399:=Int.emod_lt_of_pos _ (by decide)
     rw[G0]
     generalize (one*40692+104729) % 2147483399=s2 at t0 t1 ⊢
     have e3:(upd H2 F (.dK (fd L 0 s2))) F=some (.dK (fd L 0 s2)):=af
     have l3:(upd H2 F (.dK (fd L 0 s2))) L=some (.lst (ms.map V.int)):=by rw[ak zf.symm];exact l2
     have k3:eG F L H (upd H2 F (.dK (fd L 0 s2))):=k2.trans (KB.l KB.write)
     generalize upd H2 F (.dK (fd L 0 s2))=H3 at e3 l3 k3 ⊢
     refine⟨_,rfl,F,.int s2,rfl,iL (.inl e3) (r6 ..),_,rfl,F,.int s2,rfl,iL (.inl e3) (r6 ..),_,_,rfl,rfl,.inl (by constructor<;>omega),_,_,rfl,rfl,cpos (by decide),?_⟩
     refine⟨_,rfl,_,rfl,_,_,rfl,rfl,.inl (by constructor<;>omega),_,_,rfl,rfl,cpos (by decide),_,_,rfl,rfl,.inr (by constructor<;>decide),_,rfl,_,_,rfl,rfl,_,rfl,_,_,rfl,rfl,cpos (by omega),?_⟩
     have f0:0≤(one*one % 2147483629*2147483563+s2*s2 % 2147483563) % (many:Int):=Int.emod_nonneg _ (by omega)
     have f1:(one*one % 2147483629*2147483563+s2*s2 % 2147483563) % (many:Int)<(many:Int):=Int.emod_lt_of_pos _ (by omega)
     obtain⟨r,hr'⟩:∃r:Nat,(one*one % 2147483629*2147483563+s2*s2 % 2147483563) % (many:Int)=(r:Int):=⟨_,(Int.toNat_of_nonneg f0).symm⟩
     have:=k r H3 (by omega) k3 ⟨ms,0,s2,e3,l3,Int.le_refl _,hms,t0,by omega⟩
     rw[←hr'] at this
     exact this
   ·
    have hn0':0<n:=by
     have:n≠0:=fun z=>hz (by rw[z];simp)
     omega
    refine de ⟨_,rfl,F,.int n,rfl,iL (.inl e1) (iZ ..),_,_,rfl,rfl,_,rfl,?_⟩
    refine bH (fun _=>?_) (fun z=>absurd (decide_eq_true hn0') z)
    refine⟨_,rfl,F,.int n,rfl,iL (.inl e1) (iZ ..),_,rfl,_,_,rfl,rfl,cpos (by omega),?_⟩
    refine⟨_,rfl,F,.int n,rfl,iL (.inl e1) (iZ ..),_,rfl,_,_,rfl,rfl,⟨by omega,?log⟩,_,rfl,F,_,rfl,ky.k (k:=Sum.inr ("number":Str)) e1 (Er _ rfl),?_⟩
    case log=>
     rw[Int.natAbs_natCast,Nat.log2_lt (by omega)]
     exact Nat.lt_of_lt_of_le hm1 (Nat.pow_le_pow_right (by decide) (by decide))
    refine⟨_,rfl,?_⟩
    have f0:0≤n % (many:Int):=Int.emod_nonneg _ (by omega)
    have f1:n % (many:Int)<(many:Int):=Int.emod_lt_of_pos _ (by omega)
    obtain⟨r,hr'⟩:∃r:Nat,n % (many:Int)=(r:Int):=⟨_,(Int.toNat_of_nonneg f0).symm⟩
    rw[zc]
    have:=k r (upd H1 F (.dK (fd L (n / (many:Int)) sd))) (by omega) (k1.trans (KB.l KB.write)) ⟨ms,n / (many:Int),sd,af,by rw[ak zf.symm];exact l1,Int.ediv_nonneg hn (by omega),hms,hs,hs'⟩
    rw[←hr'] at this
    exact this
  ·rintro σ H Q Q' hQ ⟨v,e1,a,y,e2,e3,e4,b,e5,q⟩
   refine⟨v,e1,a,y,e2,e3,e4,b,e5,?_⟩
   revert q
   cases b with
   | false=>exact fun q=>hQ _ _ q
   | true=>
    rintro⟨v,e1,a,y,e2,e3,z,q⟩
    refine⟨v,e1,a,y,e2,e3,z,fun p hp=>?_⟩
    obtain⟨⟨d,d',a1,a2,a3,a4,a5,b,a6,q⟩,z2⟩:=q p hp
    exact⟨⟨d,d',a1,a2,a3,a4,a5,b,a6,hQ _ _ q⟩,z2⟩
def Jh (K:PySem.W.Frag):Sp:=fun vs H Q _=>∃(a:Addr) (ns:List Int),vs=[.ref a]∧bp K H a (ns.map V.int)∧ns.length≤63∧∀(F L:Addr) (H':Hp),H F=none→H L=none→Same H H'→cj H' F L→Q (.ref F) H'
theorem G3 (ms:List Int) (n:Nat):pJ (ms.map V.int) none (some (n:Int))=(ms.take n).map V.int:=by
 unfold pJ
 rw[show HT.iU (ms.map V.int).length 0 none=0 from rfl,HT.Gp]
 rw[List.drop_zero,List.length_map,Nat.sub_zero,←List.map_take]
 congr 1
 by_cases h:n≤ms.length
 ·rw[Nat.min_eq_left h]
 ·rw[Nat.min_eq_right (by omega),List.take_of_length_le (Nat.le_refl _),List.take_of_length_le (by omega)]
theorem Es (L:Addr) (n sd:Int):bQ [] (fd L n sd)=fd L n sd:=by
 have a1:¬((Sum.inr ("left":Str):Key)=Sum.inr ("number":Str)):=by decide+kernel
 have a2:¬((Sum.inr ("left":Str):Key)=Sum.inr ("seed":Str)):=by decide+kernel
 have a3:¬((Sum.inr ("number":Str):Key)=Sum.inr ("seed":Str)):=by decide+kernel
 unfold bQ fd
 simp only[List.foldl_cons,List.foldl_nil]
 rw[lO _ pL]
 rw[lO _ (show aV ([]++[((Sum.inr ("left":Str):Key),V.ref L)]) (Sum.inr ("number":Str))=none from(br a1).trans pL)]
 rw[lO _ (show aV ([]++[((Sum.inr ("left":Str):Key),V.ref L)]++[((Sum.inr ("number":Str):Key),V.int n)]) (Sum.inr ("seed":Str))=none from(br a2).trans ((br a3).trans pL))]
 rfl
theorem i_:aO ["_law_script","_law_seed","_law_cell","_law_great"] ["_law_script"] (ah gN):=⟨rfl,rfl,rfl,by decide+kernel,rfl,by decide+kernel,by decide+kernel⟩
theorem Cr {a:bR} (T:Txt K mg a):aQ P w K mg base bj 1 a.mh a.nL ["_law_script"] (Jh K):=by
 refine T.Ek.ok i_ (fun vs H Q E h=>?_) (fun cdv A outer s H vs Q E hr h=>?_)
 ·obtain⟨sa,ns,rfl,_⟩:=h
  rfl
 ·obtain⟨sa,ns,rfl,hS,hns,k⟩:=h
  refine⟨_,(ai (az (i:=1) i_.nd rfl (Or.inl rfl) ao)
  (ai (dD PassesOwn.never rfl (dn (pI (wa K) (pv 0) ib (kN ao))) (aI (i:=2) i_.nd rfl (Or.inl rfl))
   (av (az (i:=1) i_.nd rfl (Or.inl rfl) (aH d6 (aH iS (aH iT (pv 1) ao) (pv 2)) ao))))
  (ai (g7 (i:=3) (aF.mk' (esc:=ah gN) (N:=["_law_script","_law_seed","_law_cell","_law_great"]) (own:=["_law_cell"]) (aB:=[]) (bE:=[]) rfl rfl (by decide+kernel)) rfl (dn (pI (wa K) (pv 0) ib (kN ao))) (fun _ _ _ _=>(aI (i:=0) (show List.Nodup (["_law_cell"]:List Str) by decide+kernel) rfl (Or.inl rfl))) (fun _ _ _ _=>(lW (a_ zL (aG vM (by rfl) T.Fq Bp (ae (pv 0) ag)) (aH Hy ao ao) (aY _)))) (fun _ _ _ _=>(aG vM (by rfl) T.Fq Bp (ae (pv 0) ag))) i_.nd rfl rfl)
  (av (aK (Gy (lT bb (GG K (pv 3) ib ib (kN (E_ A3 ao))) (lT bb ao (lT bb (pv 1) yM))) rfl rfl (fun z=>nomatch z) (by decide))))))),?_⟩
  have ec:pJ (ns.map V.int) none (some (63:Int))=(ns.take 63).map V.int:=by rw[show(some (63:Int))=some ((63:Nat):Int) from rfl,G3]
  dsimp only[pG,zH,tC,aM]
  refine⟨_,rfl,_,rfl,sa,_,rfl,hS,fun p hp=>?_⟩
  rw[ec]
  have sp:=Same.new (o:=.lst ((ns.take 63).map V.int)) hp
  refine⟨p,rfl,⟨_,.of af⟩,jC (xs:=(ns.take 63).map V.int) (fun i σ H'=>∃(sd:Int) (v2:Option V),σ=[some (.ref sa),some (.int sd),v2,none]∧H'=upd H p (.lst ((ns.take 63).map V.int))∧0≤sd∧sd<2147483648)
   ⟨7919,none,rfl,rfl,by decide,by decide⟩ (fun i σ H' _ ⟨_,_,_,e,_⟩=>by rw[e];exact .of af) ?_ ?_⟩
  ·rintro i x σ H1 hx ⟨sd,v2,rfl,rfl,h0,h1⟩
   obtain⟨c,rfl,_⟩:=gV hx
   refine⟨_,rfl,_,_,rfl,rfl,.inr (by constructor<;>decide),_,rfl,_,_,rfl,rfl,_,_,rfl,rfl,cpos (by decide),_,_,rfl,rfl,Int.emod_nonneg _ (by decide),?_⟩
   have:=Int.emod_lt_of_pos (sd*69621+c) (show(0:Int)<2147483647 by decide)
   omega
  rintro σ H1 ⟨sd,v2,rfl,rfl,h0,h1⟩
  generalize upd H p (.lst ((ns.take 63).map V.int))=H1 at sp ⊢
  refine⟨_,rfl,_,rfl,sa,_,rfl,sp.seq hS,fun p2 hp2=>?_⟩
  rw[ec]
  have Cs:=Same.new (o:=.lst ((ns.take 63).map V.int)) hp2
  refine⟨p2,rfl,⟨_,.of af⟩,fun C hC=>?_⟩
  have nC:p2≠C:=aj af hC
  have Tz:H1 C=none:=Cs.free hC
  refine fB (xs:=(ns.take 63).map V.int) (fun i σ H'=>∃(v:Option V) (ms:List Int),σ=[v]∧Same H1 H'∧H' p2=some (.lst ((ns.take 63).map V.int))∧H' C=some (.lst (ms.map V.int))∧(∀m∈ms,0≤m)∧ms.length≤i)
   ⟨none,[],?sg,Cs.trans (Same.new hC),(Same.new hC) _ _ af,af,(fun m hm=>by cases hm),Nat.le_refl _⟩ (fun i σ H' _ ⟨_,_,_,_,h,_⟩=>.of h) ?_ ?_
  case sg=>rfl
  ·rintro i x σ H2 hx ⟨v,ms,rfl,s2,e2,c2,hms,lm⟩
   obtain⟨c,rfl,hc⟩:=gV hx
   have hi:i<(ns.take 63).length:=(List.getElem?_eq_some_iff.mp hc).1
   rw[List.length_take] at hi
   refine⟨_,rfl,c,rfl,_,_,rfl,rfl,⟨by decide,by decide,by decide⟩,_,_,rfl,rfl,_,rfl,?_⟩
   refine bH (fun _=>?_) (fun _=>⟨_,ms,rfl,s2,e2,c2,hms,by omega⟩)
   refine⟨_,rfl,c,rfl,_,c2,?_,_,ms++[if c<0 then-c else c],rfl,s2.kbn Tz KB.write,by rw[ak nC];exact e2,?_,?_,?_⟩
   ·rw[List.length_map];exact Nat.lt_of_le_of_lt (show ms.length≤100 by omega) (by decide)
   ·rw[af,List.map_append];rfl
   ·intro m hm
    rcases List.mem_append.mp hm with hm | hm
    ·exact hms m hm
    ·rw[List.mem_singleton.mp hm];split<;>omega
   ·rw[List.length_append];show ms.length+1≤i+1;omega
  rintro σ H2 ⟨v,ms,rfl,s2,e2,c2,hms,lm⟩
  have Fs:=sp.trans s2
  refine fun F hF=>?_
  have sF:=Same.new (o:=.dK []) hF
  refine⟨_,rfl,_,rfl,_,rfl,C,_,rfl,rfl,rfl,rfl,.of (sF _ _ c2),fun L hL=>⟨_,rfl,?_⟩⟩
  have sL:=Same.new (o:=.lst (ms.map V.int).reverse) hL
  have zf:F≠L:=aj af hL
  refine⟨sL _ _ af,fd L 0 sd,rfl,(by show 3≤15;decide),?_⟩
  rw[Es]
  refine k F L _ (Fs.free hF) ((Fs.trans sF).free hL) (((Fs.trans sF).trans sL).kbn (Fs.free hF) KB.write) ⟨ms.reverse,0,sd,af,?_,Int.le_refl _,fun m hm=>hms m (List.mem_reverse.mp hm),h0,h1⟩
  rw[ak zf.symm,af,List.map_reverse]
def bB (ds:List Nat):List Int:=ds.map fun(d:Nat)=>(d:Int)
theorem oT {rs:List Addr} {i:Nat} {x:V} (h:(rs.map V.ref)[i]? =some x):∃r,x=.ref r∧rs[i]? =some r:=by
 rw[List.getElem?_map] at h
 cases e:rs[i]? with
 | none=>rw[e] at h;cases h
 | some r=>rw[e] at h;exact⟨r,(Option.some.inj h).symm,rfl⟩
theorem take_snoc {α:Type} {xs:List α} {i:Nat} {x:α} (h:xs[i]? =some x):xs.take (i+1)=xs.take i++[x]:=by rw[List.take_add_one,h];rfl
theorem nV (ds:List Nat):(bB ds).length=ds.length:=by simp[bB]
theorem um (xs ys:List Nat):bB (xs++ys)=bB xs++bB ys:=by simp[bB]
structure Moves (n b:Nat) (mv:List (List Nat)):Prop where
 len:mv.length=n
 lead:∀l∈mv,l.length=b∧∀x∈l,x<n
theorem item_at {α:Type} {xs:List α} {i:Nat} (d:α) (h:i<xs.length):xs[i]? =some (xs.getD i d):=by rw[List.getD_eq_getElem?_getD,List.getElem?_eq_getElem h];rfl
def qU (H:Hp) (ma nm:Addr) (bs:List Bool) (mv:List (List Nat)):Prop:=∃(ya va:Addr) (ps:List Addr),H ma=some (.tup [.ref nm,.ref ya,.ref va])∧H ya=some (.tup (bs.map V.bl))∧H va=some (.tup (ps.map V.ref))∧cE H ps (mv.map bB)
def stp (mv:List (List Nat)) (r a:Nat):Nat:=(mv.getD r []).getD a 0
def run (mv:List (List Nat)):Nat→List Nat→Nat
 | r,[]=>r
 | r,a::w=>run mv (stp mv r a) w
def dk (B:Nat) (w:List Nat):Prop:=∀a∈w,a<B
theorem dk.nil (B:Nat):dk B []:=fun a h=>by cases h
theorem dk.cons {B a:Nat} {w:List Nat} (h:a<B) (hw:dk B w):dk B (a::w):=fun x hx=>(List.mem_cons.mp hx).elim (fun e=>e▸h) (hw x)
theorem dk.app {B:Nat} {v w:List Nat} (hv:dk B v) (hw:dk B w):dk B (v++w):=fun x hx=>(List.mem_append.mp hx).elim (hv x) (hw x)
def bP:List Nat→Nat→Option Nat
 | [],s=>some s
 | t::l,s=>if t<s then bP l s else if t=s then bP l (s+1) else none
def eB:List (List Nat)→Nat→Nat→Option Nat
 | [],_,s=>some s
 | r::rs,i,s=>if i<s then(bP r s).bind fun s'=>eB rs (i+1) s' else none
theorem kj:∀(l:List Nat) (t s:Nat),bP (l++[t]) s=(bP l s).bind fun s'=>bP [t] s'
 | [],_,_=>rfl
 | x::l,t,s=>by
  show bP (x::(l++[t])) s=(bP (x::l) s).bind _
  simp only[bP]
  by_cases h:x<s
  ·rw[if_pos h,if_pos h];exact kj l t s
  ·rw[if_neg h,if_neg h]
   by_cases h2:x=s
   ·rw[if_pos h2,if_pos h2];exact kj l t (s+1)
   ·rw[if_neg h2,if_neg h2];rfl
theorem qV:∀(rs:List (List Nat)) (r:List Nat) (i s:Nat),eB (rs++[r]) i s=(eB rs i s).bind fun s'=>if i+rs.length<s' then bP r s' else none
 | [],r,i,s=>by
  show(if i<s then(bP r s).bind fun s'=>some s' else none)=if i+0<s then bP r s else none
  rw[Nat.add_zero]
  split
  ·cases bP r s<;>rfl
  ·rfl
 | x::rs,r,i,s=>by
  show(if i<s then(bP x s).bind fun s'=>eB (rs++[r]) (i+1) s' else none)=(if i<s then(bP x s).bind fun s'=>eB rs (i+1) s' else none).bind _
  by_cases h:i<s
  ·rw[if_pos h,if_pos h]
   cases bP x s with
   | none=>rfl
   | some s'=>
    show eB (rs++[r]) (i+1) s'=(eB rs (i+1) s').bind _
    rw[qV rs r (i+1) s']
    congr 1
    funext q
    rw[List.length_cons,show i+1+rs.length=i+(rs.length+1) by omega]
  ·rw[if_neg h,if_neg h];rfl
def fb {α:Type} (on:α→Nat→α):α→List Nat→α
 | x,[]=>x
 | x,a::w=>fb on (on x a) w
theorem xn {α:Type} (on:α→Nat→α):∀(v w:List Nat) (x:α),fb on x (v++w)=fb on (fb on x v) w
 | [],_,_=>rfl
 | a::v,w,x=>xn on v w (on x a)
structure bU {α:Type} (x0:α) (on:α→Nat→α) (m:Nat) (xs:List α) (mv:List (List Nat)):Prop where
 once:xs.Nodup
 first:xs[0]? =some x0
 reach:∀x∈xs,∃w,dk m w∧x=fb on x0 w
 row:∀(i:Nat) (r:List Nat),mv[i]? =some r→r.length=m∧∃x,xs[i]? =some x∧∀(c t:Nat),r[c]? =some t→xs[t]? =some (on x c)
 go:eB mv 0 1=some xs.length
theorem bU.Ji {α:Type} {x0:α} {on:α→Nat→α} {m:Nat} {xs:List α} {mv:List (List Nat)} (g:bU x0 on m xs mv) (h:mv.length=xs.length):Moves xs.length m mv:=by
 refine⟨h,fun l hl=>?_⟩
 obtain⟨i,hi⟩:=List.getElem?_of_mem hl
 obtain⟨h1,x,_,h2⟩:=g.row i l hi
 refine⟨h1,fun t ht=>?_⟩
 obtain⟨c,hc⟩:=List.getElem?_of_mem ht
 exact(List.getElem?_eq_some_iff.mp (h2 c t hc)).1
theorem bU.run {α:Type} {x0:α} {on:α→Nat→α} {m:Nat} {xs:List α} {mv:List (List Nat)} (g:bU x0 on m xs mv) (h:mv.length=xs.length):∀(w:List Nat) (i:Nat) (x:α),xs[i]? =some x→dk m w→xs[run mv i w]? =some (fb on x w)
 | [],_,_,e,_=>e
 | a::w,i,x,e,hw=>by
  have hi:=(List.getElem?_eq_some_iff.mp e).1
  have ha:=hw a List.mem_cons_self
  have h1:=item_at [] (show i<mv.length by omega)
  obtain⟨l1,y,ey,h2⟩:=g.row i _ h1
  rw[e] at ey
  have:=Option.some.inj ey
  subst this
  have h3:=item_at 0 (show a<(mv.getD i []).length by rw[l1];exact ha)
  exact bU.run g h w _ _ (h2 a _ h3) fun z hz=>hw z (List.mem_cons_of_mem _ hz)
theorem iM {α β:Type} {F:α→β→Prop} {l:List α} {m:List β} {a:α} {b:β} (h:Paired F l m) (r:F a b):Paired F (l++[a]) (m++[b]):=by
 induction h with
 | nil=>exact .cons r .nil
 | cons q t ih=>exact .cons q ih
def lets (b:Nat):Nat→List (List Int)
 | 0=>[[]]
 | n+1=>(lets b n).flatMap fun l=>(List.range b).map fun(f:Nat)=>l++[(f:Int)]
theorem fg (b:Nat):∀n,(lets b n).length=b ^ n
 | 0=>rfl
 | n+1=>by
  show((lets b n).flatMap fun l=>(List.range b).map fun(f:Nat)=>l++[(f:Int)]).length=_
  rw[List.length_flatMap]
  have:(List.map (fun l:List Int=>((List.range b).map fun(f:Nat)=>l++[(f:Int)]).length) (lets b n))=List.replicate (lets b n).length b:=by
   rw[List.map_congr_left (g:=fun _=>b) (fun l _=>by simp)]
   exact List.map_const' ..
  rw[this,List.sum_replicate_nat,fg b n,Nat.pow_succ]
theorem jO (b:Nat):∀(n:Nat) (l:List Int),l∈lets b n→l.length=n
 | 0,l,h=>by
  have h':l∈[([]:List Int)]:=h
  simp at h';subst h';rfl
 | n+1,l,h=>by
  have h':l∈(lets b n).flatMap fun l=>(List.range b).map fun(f:Nat)=>l++[(f:Int)]:=h
  obtain⟨l',h1,h2⟩:=List.mem_flatMap.mp h'
  obtain⟨f,_,rfl⟩:=List.mem_map.mp h2
  rw[List.length_append,jO b n l' h1];rfl
theorem xo (b:Nat) (ls:List (List Int)):(ls.flatMap fun l=>(List.range b).map fun(f:Nat)=>l++[(f:Int)]).length=ls.length*b:=by
 rw[List.length_flatMap]
 have:(List.map (fun l:List Int=>((List.range b).map fun(f:Nat)=>l++[(f:Int)]).length) ls)=List.replicate ls.length b:=by
  rw[List.map_congr_left (g:=fun _=>b) (fun l _=>by simp)]
  exact List.map_const' ..
 rw[this,List.sum_replicate_nat]
def uo:Sp:=fun vs H Q _=>∃(b n:Nat),vs=[.int b,.int n]∧b≤4∧n≤4∧∀(D:Addr) (ps:List Addr) (H':Hp),H D=none→Same H H'→H' D=some (.lst (ps.map V.ref))→cE H' ps (lets b n)→Q (.ref D) H'
theorem c_:aO ["base","many","letters","spot","longer","letter"] ["base","many"] (ah cH):=⟨rfl,rfl,rfl,by decide+kernel,rfl,by decide+kernel,by decide+kernel⟩
theorem dH {b n:Nat} (hb:b≤4) (hn:n≤4):b ^ n≤256:=
 Nat.le_trans (Nat.pow_le_pow_left hb n) (Nat.pow_le_pow_right (by decide) hn)
theorem lC {a:bR} (T:Txt K mg a):aQ P w K mg base bj 1 a.gu a.ip ["base","many"] uo:=by
 refine T.uI.ok c_ (fun vs H Q E h=>?_) (fun cdv A outer s H vs Q E hr h=>?_)
 ·obtain⟨b,n,rfl,_⟩:=h
  rfl
 ·obtain⟨b,n,rfl,hb,hn,k⟩:=h
  refine⟨_,(ai (az (i:=2) c_.nd rfl (Or.inl rfl) (cD (ae (bo ag) ag)))
  (ai (dD PassesOwn.never rfl (dC rfl T.fS (ae (pv 1) ag)) (aI (i:=3) c_.nd rfl (Or.inl rfl))
   (ai (az (i:=4) c_.nd rfl (Or.inl rfl) (cD ag))
   (ai (dD PassesOwn.never rfl (dn (pv 2)) (aI (i:=5) c_.nd rfl (Or.inr rfl))
    (av (cX (eO PySem.F.plainAttrs_list PySem.F.slot_list_extend PySem.F.type_list_extend nr (pv 4) (ae (ck (aF.mk' (esc:=ah cH) (N:=["base","many","letters","spot","longer","letter"]) (own:=["figure"]) (aB:=["letter"]) (bE:=[5]) rfl rfl (by decide+kernel)) rfl (dC rfl T.fS (ae (pv 0) ag)) (fun _ _ _ _=>(aI (i:=0) (show List.Nodup (["figure","letter"]:List Str) by decide+kernel) rfl (Or.inl rfl))) (fun _ _ _ _=>bL) (fun _ _ _ _=>(aH (lX K) (pv 1) (bo (ae (pv 0) ag))))) ag)))))
   (av (az (i:=2) c_.nd rfl (Or.inl rfl) (pv 4))))))
  (av (aK (pv 2))))),?_⟩
  refine⟨by decide,fun p hp=>⟨by show 1≤sizeLine;decide,fun D hD=>?_⟩⟩
  have pe:H D=none:=(Same.new hp).free hD
  refine⟨_,rfl,n,rfl,by omega,by omega,j_ (lo:=0) (n:=(n:Int).toNat) (fun i σ H'=>∃(D:Addr) (ps:List Addr) (v3 v4 v5:Option V),σ=[some (.int b),some (.int n),some (.ref D),v3,v4,v5]∧H D=none∧Same H H'∧H' D=some (.lst (ps.map V.ref))∧cE H' ps (lets b i))
   ⟨D,[p],none,none,none,rfl,pe,(Same.new hp).trans (Same.new hD),af,.cons (by rw[ak (aj (o:=.tup []) af hD)];exact af) .nil⟩ ?_ ?_⟩
  ·rintro i σ H1 hi ⟨D,ps,v3,v4,v5,rfl,hD,s1,eD,t1⟩
   rw[Int.toNat_natCast] at hi
   have lps:ps.length=b ^ i:=by rw[Paired.length t1,fg]
   have bi:b ^ i≤256:=dH hb (by omega)
   have TC:b ^ (i+1)≤256:=dH hb (by omega)
   refine⟨by decide,fun E hE=>?_⟩
   have Ct:H E=none:=s1.free hE
   have xp:D≠E:=aj eD hE
   refine⟨_,rfl,D,rfl,⟨ps.map V.ref,.of (by rw[ak xp];exact eD)⟩,jC (xs:=ps.map V.ref) (fun j σ H'=>∃(qs:List Addr) (v5:Option V),σ=[some (.int b),some (.int n),some (.ref D),some (.int (0+(i:Int))),some (.ref E),v5]∧
     Same H H'∧H' D=some (.lst (ps.map V.ref))∧cE H' ps (lets b i)∧H' E=some (.lst (qs.map V.ref))∧cE H' qs (((lets b i).take j).flatMap fun l=>(List.range b).map fun(f:Nat)=>l++[(f:Int)]))
    ⟨[],v5,rfl,s1.trans (Same.new hE),by rw[ak xp];exact eD,t1.keep (Same.new hE).kt,af,.nil⟩ (fun j σ H' _ ⟨_,_,_,_,h,_⟩=>.of h) ?_ ?_⟩
   ·rintro j y σ H2 hj ⟨qs,v5,rfl,s2,nW,t2,nX,u2⟩
    rw[List.getElem?_map] at hj
    cases ep:ps[j]? with
    | none=>rw[ep] at hj;cases hj
    | some p=>
     rw[ep] at hj
     have ey:y=.ref p:=(Option.some.inj hj).symm
     subst ey
     obtain⟨l,el,hl⟩:=t2.get ep
     have TF:j<ps.length:=(List.getElem?_eq_some_iff.mp ep).1
     refine⟨_,rfl,.inl ⟨rfl,_,.of nX⟩,_,rfl,b,rfl,by omega,by omega,fun C hC=>?_⟩
     have TH:E≠C:=aj nX hC
     have TJ:D≠C:=aj nW hC
     refine jj (fun f σ H'=>∃(rs:List Addr) (v:Option V),σ=[v,some (.ref p)]∧Same H2 H'∧H' C=some (.lst (rs.map V.ref))∧cE H' rs ((List.range f).map fun(f:Nat)=>l++[(f:Int)]))
      ⟨[],none,rfl,Same.new hC,af,.nil⟩ ?_ ?_
     ·rintro f σ H3 hf ⟨rs,v,rfl,s3,lD,t3⟩
      refine⟨_,rfl,_,rfl,by show 1≤sizeLine;decide,fun q hq=>?_⟩
      have lrs:rs.length=f:=by rw[Paired.length t3];simp
      have xq:C≠q:=aj lD hq
      have ll:l.length=i:=jO b i l (List.mem_of_getElem? el)
      have e0:(0:Int)+(f:Int)=(f:Int):=by omega
      have hq2:H2 q=none:=s3.free hq
      have Cu:(rs.map V.ref).length<sizeLine:=by rw[List.length_map,lrs];exact Nat.lt_of_lt_of_le (show f<10 by omega) (by decide)
      have s4:Same H2 (upd H3 q (.tup [.int (0+(f:Int))])):=s3.trans (Same.new hq)
      have t4:=t3.keep (Same.new (o:=.tup [.int (0+(f:Int))]) hq).kt
      refine⟨p,q,l.map V.int,[.int (0+(f:Int))],rfl,rfl,.of (s4 _ _ hl),.of af,by simp,?_,fun hl0=>?_,fun hl0 r hr=>?_⟩
      ·rw[List.length_map,ll];exact Nat.le_trans (show i+1≤10 by omega) (by decide)
      ·have hl1:l=[]:=by cases l with | nil=>rfl | cons _ _=>cases hl0
       subst hl1
       have jP:(upd H3 q (.tup [.int (0+(f:Int))])) C=some (.lst (rs.map V.ref)):=by rw[ak xq];exact lD
       refine⟨rs.map V.ref,jP,Cu,rs++[q],_,rfl,?_,by rw[af,List.map_append];rfl,?_⟩
       ·exact s4.kbn hC KB.write
       ·rw[List.range_succ,List.map_append]
        refine bw (t4.keep (aZ.lst jP)) (.cons (aZ.lst jP _ _ ?_) .nil)
        rw[af]
        simp
      ·have Jj:C≠r:=aj (by rw[ak xq];exact lD) hr
       have jP:(upd (upd H3 q (.tup [.int (0+(f:Int))])) r (.tup (l.map V.int++[.int (0+(f:Int))]))) C=some (.lst (rs.map V.ref)):=by rw[ak Jj,ak xq];exact lD
       refine⟨rs.map V.ref,jP,Cu,rs++[r],_,rfl,?_,by rw[af,List.map_append];rfl,?_⟩
       ·exact(s4.trans (Same.new hr)).kbn hC KB.write
       ·rw[List.range_succ,List.map_append]
        refine bw ((t4.keep (Same.new hr).kt).keep (aZ.lst jP)) (.cons (aZ.lst jP _ _ ?_) .nil)
        rw[af]
        simp
     ·rintro σ H3 ⟨rs,v,rfl,s3,lD,t3⟩
      have lrs:rs.length=b:=by rw[Paired.length t3];simp
      have Jk:qs.length≤1024:=by
       rw[Paired.length u2,xo,List.length_take]
       have:=Nat.mul_le_mul (show min j (lets b i).length≤256 by rw[fg];omega) hb
       omega
      have Cv:=s3 _ _ nX
      refine⟨E,C,qs.map V.ref,rs.map V.ref,rfl,rfl,Cv,lD,?_,?_⟩
      ·rw[List.length_map,List.length_map,lrs];exact Nat.le_trans (show qs.length+b≤2000 by omega) (by decide)
      ·have kt:=aZ.lst (o:=.lst (qs.map V.ref++rs.map V.ref)) Cv
       refine⟨qs++rs,_,rfl,(s2.trans s3).kbn Ct KB.write,?_,(t2.keep s3.kt).keep kt,?_,?_⟩
       ·rw[ak xp];exact s3 _ _ nW
       ·rw[af,List.map_append]
       ·have e1:(lets b i).take (j+1)=(lets b i).take j++[l]:=by rw[List.take_add_one,el];rfl
        rw[e1,List.flatMap_append]
        refine bw ((u2.keep s3.kt).keep kt) ?_
        rw[List.flatMap_singleton]
        have:=t3.keep kt
        rwa [show((b:Nat):Int).toNat=b from Int.toNat_natCast b] at this
   ·rintro σ H2 ⟨qs,v5,rfl,s2,nW,t2,nX,u2⟩
    refine⟨_,rfl,E,qs,_,_,_,rfl,Ct,s2,nX,?_⟩
    have e1:(lets b i).take (ps.map V.ref).length=lets b i:=by rw[List.length_map,Paired.length t2];exact List.take_length ..
    rw[e1] at u2
    exact u2
  ·rintro σ H1 ⟨D,ps,v3,v4,v5,rfl,hD,s1,eD,t1⟩
   exact⟨_,rfl,k D ps H1 hD s1 eD (by rwa [Int.toNat_natCast] at t1)⟩
structure gQ {α:Type} (x0:α) (on:α→Nat→α) (m:Nat) (xs:List α) (x:α) (leads:List Nat) (ys:List α):Prop where
 once:ys.Nodup
 pre:∃more,ys=xs++more
 reach:∀y∈ys,∃w,dk m w∧y=fb on x0 w
 at':∀(c t:Nat),leads[c]? =some t→ys[t]? =some (on x c)
 go:bP leads xs.length=some ys.length
theorem iA:∀(l:List Nat) (s s':Nat),bP l s=some s'→s'≤s+l.length
 | [],s,s',h=>by cases h;exact Nat.le_refl _
 | t::l,s,s',h=>by
  rw[bP] at h
  rw[List.length_cons]
  split at h
  ·have:=iA l s s' h;omega
  ·split at h
   ·have:=iA l (s+1) s' h;omega
   ·cases h
theorem ju {α:Type} {xs more:List α} {i:Nat} {x:α} (h:xs[i]? =some x):(xs++more)[i]? =some x:=by
 rw[List.getElem?_append_left (List.getElem?_eq_some_iff.mp h).1];exact h
section
variable {α:Type} {x0:α} {on:α→Nat→α} {m:Nat} {xs ys:List α} {mv:List (List Nat)} {x:α} {leads:List Nat}
theorem bU.begin:bU x0 on m [x0] []:=⟨by simp,rfl,fun x hx=>⟨[],.nil m,by rw[List.mem_singleton.mp hx];rfl⟩,fun i r h=>by simp at h,rfl⟩
theorem gQ.start (g:bU x0 on m xs mv):gQ x0 on m xs x [] xs:=⟨g.once,⟨[],by simp⟩,g.reach,fun c t h=>by simp at h,rfl⟩
theorem gQ.old (g:gQ x0 on m xs x leads ys) {t:Nat} (h:ys[t]? =some (on x leads.length)):gQ x0 on m xs x (leads++[t]) ys:=by
 have ht:=(List.getElem?_eq_some_iff.mp h).1
 refine⟨g.once,g.pre,g.reach,fun c u hu=>?_,?_⟩
 ·by_cases hc:c<leads.length
  ·rw[List.getElem?_append_left hc] at hu;exact g.at' c u hu
  ·have hb:=(List.getElem?_eq_some_iff.mp hu).1
   rw[List.length_append] at hb
   have e:c=leads.length:=by simp at hb;omega
   subst e
   rw[List.getElem?_append_right (Nat.le_refl _),Nat.sub_self] at hu
   have:=Option.some.inj hu
   subst this
   exact h
 ·rw[kj,g.go]
  show bP [t] ys.length=_
  simp only[bP]
  rw[if_pos ht]
theorem gQ.new (g:gQ x0 on m xs x leads ys) (hm:leads.length<m) (hx:∃w,dk m w∧x=fb on x0 w) (h:on x leads.length ∉ ys):gQ x0 on m xs x (leads++[ys.length]) (ys++[on x leads.length]):=by
 obtain⟨more,e⟩:=g.pre
 refine⟨?_,⟨more++[on x leads.length],by rw[e,List.append_assoc]⟩,fun y hy=>?_,fun c u hu=>?_,?_⟩
 ·rw[List.nodup_append]
  exact⟨g.once,by simp,fun a ha b hb z=>h (by rw[←List.mem_singleton.mp hb,←z];exact ha)⟩
 ·rcases List.mem_append.mp hy with z | z
  ·exact g.reach y z
  ·rw[List.mem_singleton.mp z]
   obtain⟨w,hw,ex⟩:=hx
   exact⟨w++[leads.length],hw.app (.cons hm (.nil m)),by rw[xn,←ex];rfl⟩
 ·by_cases hc:c<leads.length
  ·rw[List.getElem?_append_left hc] at hu;exact ju (g.at' c u hu)
  ·have hb:=(List.getElem?_eq_some_iff.mp hu).1
   rw[List.length_append] at hb
   have e:c=leads.length:=by simp at hb;omega
   subst e
   rw[List.getElem?_append_right (Nat.le_refl _),Nat.sub_self] at hu
   have:=Option.some.inj hu
   subst this
   rw[List.getElem?_append_right (Nat.le_refl _),Nat.sub_self];rfl
 ·rw[kj,g.go,List.length_append]
  show bP [ys.length] ys.length=_
  simp only[bP]
  rw[if_neg (Nat.lt_irrefl _)]
  simp
theorem bU.next (g:bU x0 on m xs mv) (hx:xs[mv.length]? =some x) (r:gQ x0 on m xs x leads ys) (hl:leads.length=m):bU x0 on m ys (mv++[leads]):=by
 obtain⟨more,e⟩:=r.pre
 have hlt:=(List.getElem?_eq_some_iff.mp hx).1
 refine⟨r.once,by rw[e];exact ju g.first,r.reach,fun i row hr=>?_,?_⟩
 ·by_cases hi:i<mv.length
  ·rw[List.getElem?_append_left hi] at hr
   obtain⟨h1,y,h2,h3⟩:=g.row i row hr
   exact⟨h1,y,by rw[e];exact ju h2,fun c t ht=>by rw[e];exact ju (h3 c t ht)⟩
  ·have hb:=(List.getElem?_eq_some_iff.mp hr).1
   rw[List.length_append] at hb
   have ei:i=mv.length:=by simp at hb;omega
   subst ei
   rw[List.getElem?_append_right (Nat.le_refl _),Nat.sub_self] at hr
   have:=Option.some.inj hr
   subst this
   exact⟨hl,x,by rw[e];exact ju hx,r.at'⟩
 ·rw[qV,g.go]
  show(if 0+mv.length<xs.length then bP leads xs.length else none)=_
  rw[if_pos (by omega)];exact r.go
end
def gR {P:Program} {w:World} {α:Type} (R:jk P w α) (H:Hp) (vs:List V) (xs:List α):Prop:=Paired (fun v x=>R.Rep x v H) vs xs
section
variable {P:Program} {w:World} {α:Type} (R:jk P w α) (many:Nat) (on:α→Nat→α) (yes:α→Bool) (Ok:α→Prop) (Ev:Hp→Prop)
def r9:Sp:=fun vs H Q _=>∃(x:α) (v:V) (a:Nat),vs=[v,.int a]∧R.Rep x v H∧Ok x∧a<many∧Ev H∧∀v' H',Same H H'→R.Rep (on x a) v' H'→Q v' H'
def Ao:Sp:=fun vs H Q _=>∃(x:α) (v:V),vs=[v]∧R.Rep x v H∧Ok x∧Ev H∧∀H',Same H H'→Q (.bl (yes x)) H'
def G4 (f1 f2:Addr):Sp:=fun vs H Q _=>∃(x0:α) (v0:V) (most:Nat),vs=[v0,.int many,.ref f1,.ref f2,.int most]∧R.Rep x0 v0 H∧Ok x0∧Ev H∧most≤10000∧many≤1000∧
 (∀(xs:List α) (H':Hp),Same H H'→xs.Nodup→(∀x∈xs,∃w,dk many w∧x=fb on x0 w)→most<xs.length→Q .non H')∧
 ∀(xs:List α) (mv:List (List Nat)) (vs:List V) (p Rr ya va:Addr) (ps:List Addr) (H':Hp),Same H H'→H Rr=none→mv.length=xs.length→xs.length≤most→bU x0 on many xs mv→H' p=some (.tup [.ref Rr,.ref ya,.ref va])→H' Rr=some (.lst vs)→gR R H' vs xs→H' ya=some (.tup ((xs.map yes).map V.bl))→H' va=some (.tup (ps.map V.ref))→cE H' ps (mv.map bB)→Q (.ref p) H'
end
theorem jv {H:Hp} {a:Addr} {o o':HO} (h:H a=some o) (hn:∀l,o≠.tup l):aZ H (upd H a o'):=fun b xs e=>by
 rw[ak (fL e h fun z=>hn xs z.symm)];exact e
theorem Cw {H H':Hp} {a:Addr} {o:HO} (h:H a=some o) (hn:∀l,o≠.tup l) (k:KB a H H'):aZ H H':=fun b xs e=>k _ _ e (fL e h fun z=>hn xs z.symm)
theorem gR.keep {P:Program} {w:World} {α:Type} {R:jk P w α} {H H':Hp} {vs:List V} {xs:List α} (h:gR R H vs xs) (k:aZ H H'):gR R H' vs xs:=Paired.lJ h fun _ _ z=>R.same z k
theorem gR.at {P:Program} {w:World} {α:Type} {R:jk P w α} {H:Hp}:∀{vs:List V} {xs:List α} {i:Nat} {x:α},gR R H vs xs→xs[i]? =some x→∃v,vs[i]? =some v∧R.Rep x v H
 | _,_,_,_,.nil,e=>by simp at e
 | _,_,0,_,.cons r _,e=>by simp at e;subst e;exact⟨_,rfl,r⟩
 | _,_,i+1,_,.cons _ t,e=>by
  simp only[List.getElem?_cons_succ] at e ⊢
  exact gR.at t e
theorem bX:aO ["first","many","onward","is_yes","most","rooms","numbers","moves","room","leads","letter","to","yes"] ["first","many","onward","is_yes","most"] (ah bA):=⟨rfl,rfl,rfl,by decide+kernel,rfl,by decide+kernel,by decide+kernel⟩
set_option maxHeartbeats 16000000 in
theorem vb {a:bR} (T:Txt K mg a) {α:Type} (R:jk P w α) {many:Nat} {on:α→Nat→α} {yes:α→Bool} {Ok:α→Prop} {Ev:Hp→Prop} {f1 f2:Addr} {k:Nat}
  (F1:FnAt P w K mg base k f1 2 (r9 R many on Ok Ev)) (F2:FnAt P w K mg base k f2 1 (Ao R yes Ok Ev)) (nY:∀x a,Ok x→a<many→Ok (on x a)) (xr:∀H H',Ev H→Same H H'→Ev H'):
  aQ P w K mg base bj (k+1) a.hG a.gw ["first","many","onward","is_yes","most"] (G4 R many on yes Ok Ev f1 f2):=by
 obtain⟨o1,TK,ps1,ho1,hf1,hl1,hb1,G1⟩:=F1
 obtain⟨o2,fd2,ps2,ho2,hf2,hl2,hb2,G2⟩:=F2
 refine T.wK.ok bX (fun vs H Q E h=>?_) (fun Ar outer sh H vs Q E hr h=>?_)
 ·obtain⟨x0,v0,most,rfl,_⟩:=h
  rfl
 ·obtain⟨x0,v0,most,rfl,r0,k0,zg,hbm,Mn,q0,q⟩:=h
  refine⟨_,(ai (az (i:=5) bX.nd rfl (Or.inl rfl) (cD (ae (pv 0) ag)))
  (ai (az (i:=6) bX.nd rfl (Or.inl rfl) (R.Ea (bN hr) (pv 0) ao rfl rfl))
  (ai (az (i:=7) bX.nd rfl (Or.inl rfl) (cD ag))
  (ai (jA PassesOwn.never (Dz E2 LY (aG (bt K) (by rfl) T.cS cf (ae (pv 7) ag)) (aG (bt K) (by rfl) T.cS cf (ae (pv 5) ag)) (pv 4))
   (ai (az (i:=8) bX.nd rfl (Or.inl rfl) (aL (dM K) (pv 5) (aG (bt K) (by rfl) T.cS cf (ae (pv 7) ag)) (fun _ _=>rfl)))
   (ai (az (i:=9) bX.nd rfl (Or.inl rfl) (cD ag))
   (ai (dD PassesOwn.never rfl (dC rfl T.fS (ae (pv 1) ag)) (aI (i:=10) bX.nd rfl (Or.inl rfl))
    (ai (az (i:=11) bX.nd rfl (Or.inl rfl) (pP (i:=2) G1 ho1 hf1 hr hb1 rfl (Or.inl rfl) (ae (pv 8) (ae (pv 10) ag))))
    (ai (cu (vH (ui (P:=P) (w:=w) (bN hr) (pv 11) (pv 6)) (by with_unfolding_all rfl))
     (ai (y6 (P:=P) (w:=w) (bN hr) (pv 6) (pv 11) (aG (bt K) (by rfl) T.cS cf (ae (pv 5) ag)) rfl)
     (av (cX (eO PySem.F.plainAttrs_list PySem.F.slot_list_append PySem.F.type_list_append cV (pv 5) (ae (pv 11) ag)))))
     bD)
    (av (cX (eO PySem.F.plainAttrs_list PySem.F.slot_list_append PySem.F.type_list_append cV (pv 9) (ae (y_ (P:=P) (w:=w) (bN hr) (pv 6) (pv 11) (fun _ _=>rfl)) ag)))))))
   (av (cX (eO PySem.F.plainAttrs_list PySem.F.slot_list_append PySem.F.type_list_append cV (pv 7) (ae (bC (cb K) (by rfl) T.cZ cy (ae (pv 9) ag)) ag))))))))
  (ai (cu (a_ qm (aG (bt K) (by rfl) T.cS cf (ae (pv 5) ag)) (pv 4) (aY _))
   (av (aK dB))
   bD)
  (ai (az (i:=12) bX.nd rfl (Or.inl rfl) (bC (cb K) (by rfl) T.cZ cy (ae (ck (aF.mk' (esc:=ah bA) (N:=["first","many","onward","is_yes","most","rooms","numbers","moves","room","leads","letter","to","yes"]) (own:=["room"]) (aB:=["is_yes"]) (bE:=[3]) rfl rfl (by decide+kernel)) rfl (dn (pv 5)) (fun _ _ _ _=>(aI (i:=0) (show List.Nodup (["room","is_yes"]:List Str) by decide+kernel) rfl (Or.inl rfl))) (fun _ _ _ _=>bL) (fun _ _ _ _=>(bC zN (by rfl) T.xm rL (ae (pP (i:=1) G2 ho2 hf2 hr hb2 (by rfl) (by first | exact Or.inl rfl | exact Or.inr (Or.inl rfl) | exact Or.inr (Or.inr rfl)) (ae (pv 0) ag)) ag)))) ag)))
  (av (aK (bo (ae (pv 5) (ae (pv 12) (ae (bC (cb K) (by rfl) T.cZ cy (ae (pv 7) ag)) ag)))))))))))),?_⟩
  have big:(100000:Nat)≤sizeLine:=by decide
  have vB:∀(w:List Nat) (x:α),Ok x→dk many w→Ok (fb on x w):=by
   intro w
   induction w with
   | nil=>intro x hx _;exact hx
   | cons c w ih=>intro x hx hw;exact ih _ (nY x c hx (hw c List.mem_cons_self)) fun z hz=>hw z (List.mem_cons_of_mem _ hz)
  refine aX fun Y hY=>?_
  refine⟨_,rfl,by show 1≤sizeLine;omega,fun Rr hR=>?_⟩
  have sR:=Same.new (o:=.lst [v0]) hR
  dsimp only[aM]
  subst hY
  refine aX fun Y hY=>?_
  refine⟨x0,v0,rfl,R.same r0 sR.kt,fun D H2 hD s2 num=>?_⟩
  have Cy:H2 Rr=some (.lst [v0]):=s2 _ _ af
  have pe:H D=none:=sR.free hD
  have DR:Rr≠D:=aj (show(upd H Rr (.lst [v0])) Rr=some (.lst [v0]) from af) hD
  dsimp only[aM]
  subst hY
  refine aX fun Y hY=>?_
  refine⟨by show 0≤sizeLine;omega,fun M hM=>?_⟩
  have sM:=Same.new (o:=.lst []) hM
  have Ft:H M=none:=sR.free (s2.free hM)
  have MR:M≠Rr:=(aj Cy hM).symm
  obtain⟨oD,Jl,_,_⟩:=R.isD num
  have MD:M≠D:=(aj Jl hM).symm
  have uq:=(sR.trans s2).trans sM
  dsimp only[aM]
  subst hY
  refine nG (t:=nh _ _) (u:=pG _ _) (fun σ H'=>∃(xs:List α) (mv:List (List Nat)) (vs:List V) (ps:List Addr) (v8 v9 v10 v11:Option V),σ=[some v0,some (.int (many:Nat)),some (.ref f1),some (.ref f2),some (.int (most:Nat)),some (.ref Rr),some (.ref D),some (.ref M),v8,v9,v10,v11,none]∧Same H H'∧
   H' Rr=some (.lst vs)∧gR R H' vs xs∧H' M=some (.lst (ps.map V.ref))∧cE H' ps (mv.map bB)∧bU x0 on many xs mv∧xs.length≤20000∧(xs.length≤most→mv.length=xs.length)) ?re (fun Y rest=>?_)
  case re=>
   rintro σ H' ⟨xs,mv,vs,ps,v8,v9,v10,v11,rfl,s',eR,rp,eM,tp,g,lx,hl⟩
   have zh:vs.length=xs.length:=Paired.length rp
   have lps:ps.length=mv.length:=by rw[Paired.length tp,List.length_map]
   refine aX fun Y hY=>?_
   refine⟨_,rfl,_,vs.length,rfl,.inl ⟨_,.of eR,rfl⟩,_,rfl,_,_,rfl,rfl,_,rfl,?_⟩
   by_cases hc:xs.length≤most
   rotate_left
   ·rw[show decide ((most:Int)<((vs.length:Nat):Int))=true from decide_eq_true (by omega)]
    exact ic (q0 xs H' s' g.once g.reach (by omega))
   have hl:=hl hc
   rw[show decide ((most:Int)<((vs.length:Nat):Int))=false from decide_eq_false (by omega)]
   refine de ?_
   subst hY
   dsimp only[iI]
   refine aX fun Y hY=>?_
   refine⟨_,rfl,Rr,rfl,⟨_,.of eR⟩,fun C hC=>?_⟩
   refine fB (xs:=vs) (fun j σ H2=>∃v:Option V,σ=[v,some (.ref f2)]∧Same H' H2∧H2 C=some (.lst (((xs.take j).map yes).map V.bl)))
    ⟨none,?sg,Same.new hC,af⟩ (fun j σ H2 _ ⟨_,_,s2,_⟩=>.of (s2 _ _ eR)) ?_ ?_
   case sg=>rfl
   ·rintro j y σ H2 hy ⟨v,rfl,s2,c2⟩
    have hj:j<xs.length:=by rw[←zh];exact(List.getElem?_eq_some_iff.mp hy).1
    have ex:xs[j]? =some xs[j]:=List.getElem?_eq_getElem hj
    obtain⟨v',hv',rv⟩:=rp.at ex
    rw[hy] at hv'
    have hv2:=Option.some.inj hv'
    subst hv2
    obtain⟨w,hw,ew⟩:=g.reach xs[j] (List.getElem_mem ..)
    have okx:Ok xs[j]:=by rw[ew];exact vB w x0 k0 hw
    refine⟨rfl,_,rfl,xs[j],y,rfl,R.same rv s2.kt,okx,xr _ _ zg (s'.trans s2),fun H3 s3=>?_⟩
    refine .inr ⟨_,rfl,_,s3 _ _ c2,by rw[List.length_map,List.length_map,List.length_take];omega,_,rfl,(s2.trans s3).kbn hC KB.write,?_⟩
    rw[af,take_snoc ex,List.map_append,List.map_append];rfl
   rintro σ H2 ⟨v,rfl,s2,c2⟩
   rw[zh,List.take_length] at c2
   refine⟨C,_,rfl,.inl ⟨.of c2,fun Ya TL=>?_⟩⟩
   have sY:=Same.new (o:=.tup ((xs.map yes).map V.bl)) TL
   dsimp only[aM]
   subst hY
   refine⟨_,rfl,_,rfl,_,rfl,M,_,rfl,.inl ⟨.of (sY _ _ (s2 _ _ eM)),fun Va Jm=>⟨by show 3≤sizeLine;omega,fun p hp=>?_⟩⟩⟩
   have sV:=Same.new (o:=.tup (ps.map V.ref)) Jm
   have sP:=Same.new (o:=.tup [.ref Rr,.ref Ya,.ref Va]) hp
   have gT:=((s2.trans sY).trans sV).trans sP
   exact q xs mv vs p Rr Ya Va ps _ (s'.trans gT) hR hl hc g af (gT _ _ eR) (rp.keep gT.kt) (sP _ _ (sV _ _ af)) (sP _ _ af) (tp.keep gT.kt)
  refine yZ (fun m σ H'=>∃(xs:List α) (mv:List (List Nat)) (vs:List V) (ps:List Addr) (v8 v9 v10 v11:Option V),m=most+1-mv.length∧σ=[some v0,some (.int (many:Nat)),some (.ref f1),some (.ref f2),some (.int (most:Nat)),some (.ref Rr),some (.ref D),some (.ref M),v8,v9,v10,v11,none]∧Same H H'∧
    H' Rr=some (.lst vs)∧gR R H' vs xs∧R.Num H' D xs∧H' M=some (.lst (ps.map V.ref))∧cE H' ps (mv.map bB)∧bU x0 on many xs mv∧mv.length≤xs.length∧xs.length≤20000)
   ⟨_,[x0],[],[v0],[],none,none,none,none,rfl,rfl,uq,sM _ _ Cy,.cons (R.same r0 uq.kt) .nil,R.keep num (ak MD.symm),af,.nil,bU.begin,by simp,by simp⟩ ?_ ?_
  ·rintro m σ H4 N hN ⟨xs,mv,vs,ps,v8,v9,v10,v11,rfl,rfl,s4,eR,rp,nm,eM,tp,g,hl,lx⟩
   have zh:vs.length=xs.length:=Paired.length rp
   have lps:ps.length=mv.length:=by rw[Paired.length tp,List.length_map]
   refine⟨_,rfl,_,ps.length,rfl,.inl ⟨_,.of eM,by rw[List.length_map]⟩,_,rfl,_,vs.length,rfl,.inl ⟨_,.of eR,rfl⟩,_,_,rfl,rfl,_,rfl,?_⟩
   by_cases hlt:mv.length<xs.length
   ·rw[show decide (((ps.length:Nat):Int)<((vs.length:Nat):Int))=true from decide_eq_true (by omega)]
    refine ic ⟨_,rfl,_,_,rfl,rfl,_,rfl,?_⟩
    by_cases hc:xs.length≤most
    rotate_left
    ·rw[show decide (((vs.length:Nat):Int)≤((most:Nat):Int))=false from decide_eq_false (by omega)]
     refine de ?_
     exact rest _ _ ⟨xs,mv,vs,ps,v8,v9,v10,v11,rfl,s4,eR,rp,eM,tp,g,lx,fun z=>absurd z hc⟩
    rw[show decide (((vs.length:Nat):Int)≤((most:Nat):Int))=true from decide_eq_true (by omega)]
    refine ic ?_
    refine aX fun Y hY=>?_
    obtain⟨x,ex⟩:∃x,xs[mv.length]? =some x:=⟨_,List.getElem?_eq_getElem hlt⟩
    obtain⟨vx,Jn,rx⟩:=rp.at ex
    have xt:=g.reach x (List.mem_of_getElem? ex)
    have okx:Ok x:=by obtain⟨w,hw,ew⟩:=xt;rw[ew];exact vB w x0 k0 hw
    refine⟨_,rfl,_,rfl,_,ps.length,rfl,.inl ⟨_,.of eM,by rw[List.length_map]⟩,Rr,_,_,vx,rfl,rfl,.of eR,aD (by rw[lps];exact Jn),?_⟩
    dsimp only[aM]
    subst hY
    refine aX fun Y hY=>?_
    refine⟨by show 0≤sizeLine;omega,fun L hL=>?_⟩
    have sL:=Same.new (o:=.lst []) hL
    have hL0:H L=none:=s4.free hL
    have LR:L≠Rr:=(aj eR hL).symm
    have LM:L≠M:=(aj eM hL).symm
    obtain⟨TN,Et,_,_⟩:=R.isD nm
    have LD:L≠D:=(aj Et hL).symm
    dsimp only[aM]
    subst hY
    refine aX fun Y hY=>?_
    refine⟨_,rfl,_,rfl,by omega,by omega,qJ (n:=(many:Int).toNat) (fun j σ H'=>∃(ys:List α) (us:List V) (leads:List Nat) (v10 v11:Option V),σ=[some v0,some (.int (many:Nat)),some (.ref f1),some (.ref f2),some (.int (most:Nat)),some (.ref Rr),some (.ref D),some (.ref M),some vx,some (.ref L),v10,v11,none]∧Same H H'∧aZ H4 H'∧
      H' Rr=some (.lst us)∧gR R H' us ys∧R.Num H' D ys∧H' M=some (.lst (ps.map V.ref))∧H' L=some (.lst ((bB leads).map V.int))∧leads.length=j∧gQ x0 on many xs x leads ys)
     ⟨xs,vs,[],v10,v11,rfl,s4.trans sL,sL.kt,sL _ _ eR,rp.keep sL.kt,R.keep nm (ak LD.symm),sL _ _ eM,af,rfl,gQ.start g⟩ ?_ ?_⟩
    ·rintro j σ H5 N2 Jo hj ⟨ys,us,leads,v10,v11,rfl,s5,n_,ph,n8,oa,m5,xu,ll,gr⟩
     have ej:(0:Int)+(j:Int)=((j:Nat):Int):=by omega
     rw[ej]
     have Jp:j<many:=by omega
     have ly:=iA _ _ _ gr.go
     have zi:us.length=ys.length:=Paired.length n8
     dsimp only[aM]
     refine aX fun Y hY=>?_
     refine⟨rfl,_,rfl,_,rfl,x,vx,j,rfl,R.same rx n_,okx,Jp,xr _ _ zg s5,fun to H6 s6 og=>?_⟩
     have oh:=s6 _ _ ph
     have oi:=s6 _ _ m5
     have Cz:=s6 _ _ xu
     have qW:=n8.keep s6.kt
     obtain⟨Jq,jQ,Jr,CA⟩:=R.isD oa
     have qX:=R.keep oa ((s6 _ _ jQ).trans jQ.symm)
     have Eu:=s6 _ _ jQ
     have pj:aZ H4 H6:=fun b l z=>s6 _ _ (n_ _ _ z)
     have CB:=s5.trans s6
     dsimp only[aM]
     subst hY
     refine nG (t:=zG _ _ _) (u:=zF _) (fun σ H'=>∃(zs:List α) (ws:List V) (t:Nat),σ=[some v0,some (.int (many:Nat)),some (.ref f1),some (.ref f2),some (.int (most:Nat)),some (.ref Rr),some (.ref D),some (.ref M),some vx,some (.ref L),some (.int (j:Nat)),some to,none]∧Same H H'∧aZ H6 H'∧
      H' Rr=some (.lst ws)∧gR R H' ws zs∧R.Num H' D zs∧H' M=some (.lst (ps.map V.ref))∧H' L=some (.lst ((bB leads).map V.int))∧zs[t]? =some (on x j)∧gQ x0 on many xs x (leads++[t]) zs) ?Js (fun Y qY=>?_)
     case Js=>
      rintro σ H7 ⟨zs,ws,t,rfl,s7,qZ,km,Jt,q_,Ju,xv,hz,CD⟩
      refine⟨_,rfl,Or.inl ⟨rfl,_,.of xv⟩,_,rfl,_,rfl,D,_,rfl,R.there q_ (R.same og qZ) CD.once hz,L,_,_,rfl,rfl,xv,by rw[List.length_map,nV];omega,?_⟩
      have kL:aZ H7 (upd H7 L (.lst ((bB leads).map V.int++[.int (t:Nat)]))):=jv xv (fun l z=>nomatch z)
      refine Jo _ _ ⟨zs,ws,leads++[t],_,_,rfl,s7.kbn hL0 KB.write,fun b l z=>kL _ _ (qZ _ _ (pj _ _ z)),by rw[ak LR.symm];exact km,Jt.keep kL,R.keep q_ (ak LD.symm),by rw[ak LM.symm];exact Ju,?_,by rw[List.length_append,ll];rfl,CD⟩
      rw[af,um,List.map_append];rfl
     by_cases hm:on x j∈ys
     ·obtain⟨i,hi⟩:=List.getElem?_of_mem hm
      refine⟨_,rfl,_,rfl,D,_,rfl,R.there qX og gr.once hi,_,rfl,?_⟩
      refine de ?_
      exact qY _ _ ⟨ys,us,i,rfl,CB,fun _ _ z=>z,oh,qW,qX,oi,Cz,hi,gr.old (by rw[ll];exact hi)⟩
     ·refine⟨_,rfl,_,rfl,D,_,rfl,R.miss qX og hm,_,rfl,?_⟩
      refine ic ?_
      obtain⟨H7,Ew,oj,q_⟩:=R.put qX og hm (by omega)
      have CF:=gr.new (by omega) xt (by rw[ll];exact hm)
      rw[ll] at CF
      have km:=oj _ _ oh DR
      refine⟨_,rfl,_,us.length,rfl,.inl ⟨_,.of oh,rfl⟩,_,rfl,_,rfl,D,H7,rfl,by rw[zi];exact Ew,?_⟩
      refine⟨_,rfl,Or.inl ⟨rfl,_,.of km⟩,_,rfl,Rr,_,_,rfl,rfl,km,by omega,?_⟩
      have qZ:aZ H6 H7:=Cw Eu CA oj
      have kR:aZ H7 (upd H7 Rr (.lst (us++[to]))):=jv km (fun l z=>nomatch z)
      have xx:aZ H6 (upd H7 Rr (.lst (us++[to]))):=fun b l z=>kR _ _ (qZ _ _ z)
      refine qY _ _ ⟨ys++[on x j],us++[to],ys.length,rfl,(CB.kbn pe oj).kbn hR KB.write,xx,af,?_,R.keep q_ (ak DR.symm),by rw[ak MR];exact oj _ _ oi MD,by rw[ak LR];exact oj _ _ Cz LD,by rw[List.getElem?_append_right (Nat.le_refl _),Nat.sub_self];rfl,CF⟩
      exact iM (qW.keep xx) (R.same og xx)
    ·rintro σ H5 ⟨ys,us,leads,v10,v11,rfl,s5,n_,ph,n8,oa,m5,xu,ll,gr⟩
     subst hY
     have Jv:leads.length=many:=by rw[ll];omega
     have g2:=g.next ex gr Jv
     have ly:=iA _ _ _ gr.go
     obtain⟨more,ra⟩:=gr.pre
     have TQ:xs.length≤ys.length:=by rw[ra,List.length_append];omega
     refine⟨_,rfl,Or.inl ⟨rfl,_,.of m5⟩,_,rfl,L,_,rfl,.inl ⟨.of xu,fun t ht=>?_⟩⟩
     have sT:=Same.new (o:=.tup ((bB leads).map V.int)) ht
     have Jw:M≠t:=aj m5 ht
     have TR:Rr≠t:=aj ph ht
     obtain⟨Jq,jQ,Jr,CA⟩:=R.isD oa
     have Jx:D≠t:=aj jQ ht
     have oi:=sT _ _ m5
     refine⟨M,_,_,rfl,rfl,oi,by rw[List.length_map];omega,?_⟩
     have kM:aZ (upd H5 t (.tup ((bB leads).map V.int))) (upd (upd H5 t (.tup ((bB leads).map V.int))) M (.lst (ps.map V.ref++[.ref t]))):=jv oi (fun l z=>nomatch z)
     have kA:aZ H5 (upd (upd H5 t (.tup ((bB leads).map V.int))) M (.lst (ps.map V.ref++[.ref t]))):=fun b l z=>kM _ _ (sT.kt _ _ z)
     refine hN _ _ _ ?_ ⟨ys,mv++[leads],us,ps++[t],_,_,_,_,rfl,rfl,(s5.trans sT).kbn Ft KB.write,by rw[ak MR.symm];exact sT _ _ ph,n8.keep kA,R.keep oa (by rw[ak MD.symm,ak Jx]),by rw[af,List.map_append];rfl,?_,g2,by rw[List.length_append];simp;omega,by omega⟩
     ·rw[List.length_append];simp;omega
     ·rw[List.map_append]
      exact iM ((tp.keep n_).keep kA) (by rw[ak Jw.symm,af])
   ·have e:mv.length=xs.length:=by omega
    rw[show decide (((ps.length:Nat):Int)<((vs.length:Nat):Int))=false from decide_eq_false (by omega)]
    refine de ⟨_,rfl,de ?_⟩
    exact rest _ _ ⟨xs,mv,vs,ps,v8,v9,v10,v11,rfl,s4,eR,rp,eM,tp,g,lx,fun _=>e⟩
  ·rintro σ H Q Q' h ⟨v,e1,v2,n1,e2,l1,v3,e3,v4,n2,e4,l2,i,j,e5,e6,k,e7,z⟩
   refine⟨v,e1,v2,n1,e2,l1,v3,e3,v4,n2,e4,l2,i,j,e5,e6,k,e7,?_⟩
   cases k with
   | false=>
    rw[if_neg Bool.false_ne_true] at z ⊢
    obtain⟨k',e8,q⟩:=z
    exact⟨k',e8,h _ _ q⟩
   | true=>
    rw[if_pos rfl] at z ⊢
    obtain⟨v5,e9,i2,j2,e10,HS,k2,TU,q⟩:=z
    exact⟨v5,e9,i2,j2,e10,HS,k2,TU,h _ _ q⟩
def Ex (P:Program) (w:World) (K:PySem.W.Frag) (mg:Str→Option Value) (base:Heap) (k:Nat):Sp:=fun vs H Q _=>∃(b most:Nat) (nm g:Addr) (ss:List Str) (α:Type) (R:jk P w α) (on:α→Nat→α) (yes:α→Bool) (Ok:α→Prop) (Ev:Hp→Prop) (x0:α) (v0:V) (f1 f2:Addr) (D:List Addr),
 vs=[.int b,.ref nm,.ref g,.int most]∧b≤4∧ss.length≤4∧H nm=some (.tup (ss.map V.str))∧H g=some (.tup [v0,.ref f1,.ref f2])∧(∀a∈D,∃φ,H a=some (.ext φ))∧
 gL P w K mg base H D k f1 2 (r9 R (b ^ ss.length) on Ok Ev)∧gL P w K mg base H D k f2 1 (Ao R yes Ok Ev)∧(∀x a,Ok x→a<b ^ ss.length→Ok (on x a))∧(∀H H',Ev H→Same H H'→Ev H')∧
 (∀D H,(∀a∈D,∃φ,H a=some (.ext φ))→Ev H→Ev (df D H))∧R.Rep x0 v0 H∧Ok x0∧Ev H∧most≤10000∧(∀(xs:List α) (H':Hp),Same H H'→xs.Nodup→(∀x∈xs,∃w,dk (b ^ ss.length) w∧x=fb on x0 w)→most<xs.length→Q .non H')∧
 ∀(xs:List α) (mv:List (List Nat)) (p:Addr) (H':Hp),Same H H'→mv.length=xs.length→xs.length≤most→bU x0 on (b ^ ss.length) xs mv→qU H' p nm (xs.map yes) mv→Q (.ref p) H'
theorem i9:aO ["base","names","growth","most","many","grown"] ["base","names","growth","most"] (ah d7):=⟨rfl,rfl,rfl,by decide+kernel,rfl,by decide+kernel,by decide+kernel⟩
theorem vd {a:bR} (T:Txt K mg a) (k:Nat):aQ P w K mg base bj (k+2) a.hJ a.i8 ["base","names","growth","most"] (Ex P w K mg base k):=by
 have i':=lC (P:=P) (w:=w) (base:=base) T
 refine T.wO.ok i9 (fun vs H Q E h=>?_) (fun cdv A outer s H vs Q E hr h=>?_)
 ·obtain⟨b,most,nm,g,ss,α,R,on,yes,Ok,Ev,x0,v0,f1,f2,D,rfl,_⟩:=h
  rfl
 ·obtain⟨b,most,nm,g,ss,α,R,on,yes,Ok,Ev,x0,v0,f1,f2,D,rfl,hb4,Ni,rb,eg,hD,F1,F2,nY,xr,TV,r0,ok0,zg,hbm,q0,q⟩:=h
  have iB:aP 1 _:=hr.mono (by omega)
  have Ey:aP (k+1) _:=hr
  refine⟨_,(ai (az (i:=4) i9.nd rfl (Or.inl rfl) (aG (bt K) (by rfl) T.cS cf (ae (aC i' iB rfl T.mP T.mQ T.mR .nil aR (ae (pv 0) (ae (aG (bt K) (by rfl) T.cS cf (ae (pv 1) ag)) ag))) ag)))
  (ai (az (i:=5) i9.nd rfl (Or.inl rfl) (wx (fun _=>rfl) Ey rfl T.wL T.wM T.wN (ae (aL (aJ K) (pv 2) ao (fun _ _=>rfl)) (ae (pv 4) (ae (aL (aJ K) (pv 2) ao (fun _ _=>rfl)) (ae (aL (aJ K) (pv 2) ao (fun _ _=>rfl)) (ae (pv 3) ag)))))))
  (ai (cu (a_ nj (pv 5) dB (aY _))
   (av (aK dB))
   bD)
  (av (aK (bo (ae (pv 1) (ae (aL (aJ K) (pv 5) ao (fun _ _=>rfl)) (ae (aL (aJ K) (pv 5) ao (fun _ _=>rfl)) ag))))))))),?_⟩
  have big:(10000:Nat)≤sizeLine:=by decide
  have hB:b ^ ss.length≤256:=dH hb4 Ni
  refine⟨_,rfl,_,rfl,_,ss.length,rfl,.inr ⟨_,.of rb,by rw[List.length_map]⟩,b,ss.length,rfl,hb4,Ni,fun D0 WO H1 pe s1 e1 t1=>?_⟩
  refine⟨_,b ^ ss.length,rfl,.inl ⟨_,.of e1,by rw[List.length_map,Paired.length t1,fg]⟩,?_⟩
  dsimp only[aM]
  have Jy:=s1 _ _ eg
  refine⟨_,rfl,g,_,_,v0,rfl,rfl,.of Jy,aD (j:=0) rfl,_,rfl,_,rfl,g,_,_,.ref f1,rfl,rfl,.of Jy,aD (j:=1) rfl,_,rfl,g,_,_,.ref f2,rfl,rfl,.of Jy,aD (j:=2) rfl,_,rfl,?_⟩
  have hD1:∀a∈D,∃φ,H1 a=some (.ext φ):=fun a ha=>let ⟨φ,e⟩:=hD a ha;⟨φ,s1 _ _ e⟩
  refine⟨D,hD1,fun base' W=>?_⟩
  have TX:=(F1.same fun b φ _ e=>s1 _ _ e) base' W.b
  have TY:=(F2.same fun b φ _ e=>s1 _ _ e) base' W.b
  refine⟨_,vb (k:=k) T R TX TY nY xr,?_⟩
  have ktu:aZ H1 (df D H1):=fun b xs z=>wy hD1 z (fun _ y=>nomatch y)
  refine⟨x0,v0,most,rfl,R.same (R.same r0 s1.kt) ktu,ok0,TV D H1 hD1 (xr _ _ zg s1),hbm,by omega,fun xs H2 s2 nd rc lt n2=>?_,fun xs mv vs p Rr ya va ps H2 s2 T_ hl T2 gr ep _ _ ey ev tp n2=>?_⟩
  ·have gT:=s1.trans (j9 s2)
   generalize gJ D H1 H2=H3 at gT ⊢
   dsimp only[aM]
   refine⟨_,rfl,rfl,_,rfl,?_⟩
   exact bH (fun _=>q0 xs H3 gT nd rc lt) (fun z=>absurd rfl z)
  have s3:=j9 s2
  have o2:∀{b:Addr} {o:HO},H2 b=some o→gJ D H1 H2 b=some o:=fun {b o} e=>by
   rw[dP fun z=>?_]
   ·exact e
   ·rw[n2 b z] at e;cases e
  have Jz:=o2 ep
  have Nj:=o2 ey
  have CG:=o2 ev
  have Nk:=tp.keep (show aZ H2 (gJ D H1 H2) from fun b xs z=>o2 z)
  have gT:=s1.trans s3
  generalize gJ D H1 H2=H3 at s3 Jz Nj CG Nk gT ⊢
  dsimp only[aM]
  refine⟨_,rfl,rfl,_,rfl,?_⟩
  refine bH (fun z=>absurd z (by simp)) (fun _=>?_)
  refine⟨_,rfl,_,rfl,p,_,_,.ref ya,rfl,rfl,.of Jz,aD (j:=1) rfl,_,rfl,p,_,_,.ref va,rfl,rfl,.of Jz,aD (j:=2) rfl,by show 3≤sizeLine;decide,fun m hm=>?_⟩
  have sm:=Same.new (o:=.tup [.ref nm,.ref ya,.ref va]) hm
  exact q xs mv m _ (gT.trans sm) hl T2 gr ⟨ya,va,ps,af,sm _ _ Nj,sm _ _ CG,Nk.keep sm.kt⟩
theorem eE:aO ["_law_base","_law_many","_law_found","_law_turn","_law_more","_law_letter"] ["_law_base","_law_many"] (ah dQ):=⟨rfl,rfl,rfl,by decide+kernel,rfl,by decide+kernel,by decide+kernel⟩
theorem xy {a:bR} (T:Txt K mg a):aQ P w K mg base bj 1 a.iK a.jN ["_law_base","_law_many"] uo:=by
 refine T.yn.ok eE (fun vs H Q E h=>?_) (fun cdv A outer s H vs Q E hr h=>?_)
 ·obtain⟨b,n,rfl,_⟩:=h
  rfl
 ·obtain⟨b,n,rfl,hb,hn,k⟩:=h
  refine⟨_,(ai (az (i:=2) eE.nd rfl (Or.inl rfl) (cD (ae (bo ag) ag)))
  (ai (dD PassesOwn.never rfl (dC rfl T.fS (ae (pv 1) ag)) (aI (i:=3) eE.nd rfl (Or.inl rfl))
   (ai (az (i:=4) eE.nd rfl (Or.inl rfl) (cD ag))
   (ai (dD PassesOwn.never rfl (dn (pv 2)) (aI (i:=5) eE.nd rfl (Or.inr rfl))
    (av (cX (eO PySem.F.plainAttrs_list PySem.F.slot_list_extend PySem.F.type_list_extend nr (pv 4) (ae (ck (aF.mk' (esc:=ah dQ) (N:=["_law_base","_law_many","_law_found","_law_turn","_law_more","_law_letter"]) (own:=["_law_figure"]) (aB:=["_law_letter"]) (bE:=[5]) rfl rfl (by decide+kernel)) rfl (dC rfl T.fS (ae (pv 0) ag)) (fun _ _ _ _=>(aI (i:=0) (show List.Nodup (["_law_figure","_law_letter"]:List Str) by decide+kernel) rfl (Or.inl rfl))) (fun _ _ _ _=>bL) (fun _ _ _ _=>(aH (lX K) (pv 1) (bo (ae (pv 0) ag))))) ag)))))
   (av (az (i:=2) eE.nd rfl (Or.inl rfl) (pv 4))))))
  (av (aK (pv 2))))),?_⟩
  refine⟨by decide,fun p hp=>⟨by show 1≤sizeLine;decide,fun D hD=>?_⟩⟩
  have pe:H D=none:=(Same.new hp).free hD
  refine⟨_,rfl,n,rfl,by omega,by omega,j_ (lo:=0) (n:=(n:Int).toNat) (fun i σ H'=>∃(D:Addr) (ps:List Addr) (v3 v4 v5:Option V),σ=[some (.int b),some (.int n),some (.ref D),v3,v4,v5]∧H D=none∧Same H H'∧H' D=some (.lst (ps.map V.ref))∧cE H' ps (lets b i))
   ⟨D,[p],none,none,none,rfl,pe,(Same.new hp).trans (Same.new hD),af,.cons (by rw[ak (aj (o:=.tup []) af hD)];exact af) .nil⟩ ?_ ?_⟩
  ·rintro i σ H1 hi ⟨D,ps,v3,v4,v5,rfl,hD,s1,eD,t1⟩
   rw[Int.toNat_natCast] at hi
   have lps:ps.length=b ^ i:=by rw[Paired.length t1,fg]
   have bi:b ^ i≤256:=dH hb (by omega)
   have TC:b ^ (i+1)≤256:=dH hb (by omega)
   refine⟨by decide,fun E hE=>?_⟩
   have Ct:H E=none:=s1.free hE
   have xp:D≠E:=aj eD hE
   refine⟨_,rfl,D,rfl,⟨ps.map V.ref,.of (by rw[ak xp];exact eD)⟩,jC (xs:=ps.map V.ref) (fun j σ H'=>∃(qs:List Addr) (v5:Option V),σ=[some (.int b),some (.int n),some (.ref D),some (.int (0+(i:Int))),some (.ref E),v5]∧
     Same H H'∧H' D=some (.lst (ps.map V.ref))∧cE H' ps (lets b i)∧H' E=some (.lst (qs.map V.ref))∧cE H' qs (((lets b i).take j).flatMap fun l=>(List.range b).map fun(f:Nat)=>l++[(f:Int)]))
    ⟨[],v5,rfl,s1.trans (Same.new hE),by rw[ak xp];exact eD,t1.keep (Same.new hE).kt,af,.nil⟩ (fun j σ H' _ ⟨_,_,_,_,h,_⟩=>.of h) ?_ ?_⟩
   ·rintro j y σ H2 hj ⟨qs,v5,rfl,s2,nW,t2,nX,u2⟩
    rw[List.getElem?_map] at hj
    cases ep:ps[j]? with
    | none=>rw[ep] at hj;cases hj
    | some p=>
     rw[ep] at hj
     have ey:y=.ref p:=(Option.some.inj hj).symm
     subst ey
     obtain⟨l,el,hl⟩:=t2.get ep
     have TF:j<ps.length:=(List.getElem?_eq_some_iff.mp ep).1
     refine⟨_,rfl,.inl ⟨rfl,_,.of nX⟩,_,rfl,b,rfl,by omega,by omega,fun C hC=>?_⟩
     have TH:E≠C:=aj nX hC
     have TJ:D≠C:=aj nW hC
     refine jj (fun f σ H'=>∃(rs:List Addr) (v:Option V),σ=[v,some (.ref p)]∧Same H2 H'∧H' C=some (.lst (rs.map V.ref))∧cE H' rs ((List.range f).map fun(f:Nat)=>l++[(f:Int)]))
      ⟨[],none,rfl,Same.new hC,af,.nil⟩ ?_ ?_
     ·rintro f σ H3 hf ⟨rs,v,rfl,s3,lD,t3⟩
      refine⟨_,rfl,_,rfl,by show 1≤sizeLine;decide,fun q hq=>?_⟩
      have lrs:rs.length=f:=by rw[Paired.length t3];simp
      have xq:C≠q:=aj lD hq
      have ll:l.length=i:=jO b i l (List.mem_of_getElem? el)
      have e0:(0:Int)+(f:Int)=(f:Int):=by omega
      have hq2:H2 q=none:=s3.free hq
      have Cu:(rs.map V.ref).length<sizeLine:=by rw[List.length_map,lrs];exact Nat.lt_of_lt_of_le (show f<10 by omega) (by decide)
      have s4:Same H2 (upd H3 q (.tup [.int (0+(f:Int))])):=s3.trans (Same.new hq)
      have t4:=t3.keep (Same.new (o:=.tup [.int (0+(f:Int))]) hq).kt
      refine⟨p,q,l.map V.int,[.int (0+(f:Int))],rfl,rfl,.of (s4 _ _ hl),.of af,by simp,?_,fun hl0=>?_,fun hl0 r hr=>?_⟩
      ·rw[List.length_map,ll];exact Nat.le_trans (show i+1≤10 by omega) (by decide)
      ·have hl1:l=[]:=by cases l with | nil=>rfl | cons _ _=>cases hl0
       subst hl1
       have jP:(upd H3 q (.tup [.int (0+(f:Int))])) C=some (.lst (rs.map V.ref)):=by rw[ak xq];exact lD
       refine⟨rs.map V.ref,jP,Cu,rs++[q],_,rfl,?_,by rw[af,List.map_append];rfl,?_⟩
       ·exact s4.kbn hC KB.write
       ·rw[List.range_succ,List.map_append]
        refine bw (t4.keep (aZ.lst jP)) (.cons (aZ.lst jP _ _ ?_) .nil)
        rw[af]
        simp
      ·have Jj:C≠r:=aj (by rw[ak xq];exact lD) hr
       have jP:(upd (upd H3 q (.tup [.int (0+(f:Int))])) r (.tup (l.map V.int++[.int (0+(f:Int))]))) C=some (.lst (rs.map V.ref)):=by rw[ak Jj,ak xq];exact lD
       refine⟨rs.map V.ref,jP,Cu,rs++[r],_,rfl,?_,by rw[af,List.map_append];rfl,?_⟩
       ·exact(s4.trans (Same.new hr)).kbn hC KB.write
       ·rw[List.range_succ,List.map_append]
        refine bw ((t4.keep (Same.new hr).kt).keep (aZ.lst jP)) (.cons (aZ.lst jP _ _ ?_) .nil)
        rw[af]
        simp
     ·rintro σ H3 ⟨rs,v,rfl,s3,lD,t3⟩
      have lrs:rs.length=b:=by rw[Paired.length t3];simp
      have Jk:qs.length≤1024:=by
       rw[Paired.length u2,xo,List.length_take]
       have:=Nat.mul_le_mul (show min j (lets b i).length≤256 by rw[fg];omega) hb
       omega
      have Cv:=s3 _ _ nX
      refine⟨E,C,qs.map V.ref,rs.map V.ref,rfl,rfl,Cv,lD,?_,?_⟩
      ·rw[List.length_map,List.length_map,lrs];exact Nat.le_trans (show qs.length+b≤2000 by omega) (by decide)
      ·have kt:=aZ.lst (o:=.lst (qs.map V.ref++rs.map V.ref)) Cv
       refine⟨qs++rs,_,rfl,(s2.trans s3).kbn Ct KB.write,?_,(t2.keep s3.kt).keep kt,?_,?_⟩
       ·rw[ak xp];exact s3 _ _ nW
       ·rw[af,List.map_append]
       ·have e1:(lets b i).take (j+1)=(lets b i).take j++[l]:=by rw[List.take_add_one,el];rfl
        rw[e1,List.flatMap_append]
        refine bw ((u2.keep s3.kt).keep kt) ?_
        rw[List.flatMap_singleton]
        have:=t3.keep kt
        rwa [show((b:Nat):Int).toNat=b from Int.toNat_natCast b] at this
   ·rintro σ H2 ⟨qs,v5,rfl,s2,nW,t2,nX,u2⟩
    refine⟨_,rfl,E,qs,_,_,_,rfl,Ct,s2,nX,?_⟩
    have e1:(lets b i).take (ps.map V.ref).length=lets b i:=by rw[List.length_map,Paired.length t2];exact List.take_length ..
    rw[e1] at u2
    exact u2
  ·rintro σ H1 ⟨D,ps,v3,v4,v5,rfl,hD,s1,eD,t1⟩
   exact⟨_,rfl,k D ps H1 hD s1 eD (by rwa [Int.toNat_natCast] at t1)⟩
def Ez {P:Program} {w:World} {α:Type} (R:jk P w α) (many:Nat) (on:α→Nat→α) (Ok:α→Prop) (Ev:Hp→Prop) (f1:Addr):Sp:=fun vs H Q _=>∃(x0:α) (v0:V) (most:Nat),vs=[v0,.int many,.ref f1,.int most]∧R.Rep x0 v0 H∧Ok x0∧Ev H∧1≤most∧most≤10000∧many≤1000∧
 (∀(xs:List α) (H':Hp),Same H H'→xs.Nodup→(∀x∈xs,∃w,dk many w∧x=fb on x0 w)→most<xs.length→Q .non H')∧
 ∀(xs:List α) (mv:List (List Nat)) (vs:List V) (p Rr va:Addr) (ps:List Addr) (H':Hp),Same H H'→H Rr=none→mv.length=xs.length→xs.length≤most→bU x0 on many xs mv→H' p=some (.tup [.ref Rr,.ref va])→H' Rr=some (.lst vs)→gR R H' vs xs→H' va=some (.tup (ps.map V.ref))→cE H' ps (mv.map bB)→Q (.ref p) H'
theorem fh:aO ["_law_first","_law_many","_law_onward","_law_most","_law_came","_law_numbers","_law_moves","_law_found","_law_k","_law_room"] ["_law_first","_law_many","_law_onward","_law_most"] (ah gZ):=⟨rfl,rfl,rfl,by decide+kernel,rfl,by decide+kernel,by decide+kernel⟩
set_option maxHeartbeats 16000000 in
theorem Ap {a:bR} (T:Txt K mg a) {α:Type} (R:jk P w α) {many:Nat} {on:α→Nat→α} {Ok:α→Prop} {Ev:Hp→Prop} {f1:Addr} {k:Nat}
  (F1:FnAt P w K mg base k f1 2 (r9 R many on Ok Ev)) (nY:∀x a,Ok x→a<many→Ok (on x a)) (xr:∀H H',Ev H→Same H H'→Ev H'):
  aQ P w K mg base bj (k+1) a.kf a.mr ["_law_first","_law_many","_law_onward","_law_most"] (Ez R many on Ok Ev f1):=by
 obtain⟨o1,TK,ps1,ho1,hf1,hl1,hb1,G1⟩:=F1
 refine T.Cm.ok fh (fun vs H Q E h=>?_) (fun cdv Ar outer sh H vs Q E hr h=>?_)
 ·obtain⟨x0,v0,most,rfl,_⟩:=h
  rfl
 ·obtain⟨x0,v0,most,rfl,r0,k0,zg,hm1,hbm,Mn,q0,q⟩:=h
  refine⟨_,(ai (az (i:=4) fh.nd rfl (Or.inl rfl) (cD (ae (pv 0) ag)))
  (ai (az (i:=5) fh.nd rfl (Or.inl rfl) (R.Ea (bN hr) (pv 0) ao rfl rfl))
  (ai (az (i:=6) fh.nd rfl (Or.inl rfl) (cD ag))
  (ai (jA PassesOwn.never (a_ E2 (aG (bt K) (by rfl) T.cS cf (ae (pv 6) ag)) (aG (bt K) (by rfl) T.cS cf (ae (pv 4) ag)) (aY _))
   (ai (az (i:=7) fh.nd rfl (Or.inl rfl) (cD ag))
   (ai (dD PassesOwn.never rfl (dC rfl T.fS (ae (pv 1) ag)) (aI (i:=8) fh.nd rfl (Or.inl rfl))
    (ai (az (i:=9) fh.nd rfl (Or.inl rfl) (pP (i:=2) G1 ho1 hf1 hr hb1 rfl (Or.inl rfl) (ae (aL (dM K) (pv 4) (aG (bt K) (by rfl) T.cS cf (ae (pv 6) ag)) (fun _ _=>rfl)) (ae (pv 8) ag))))
    (ai (cu (vH (ui (P:=P) (w:=w) (bN hr) (pv 9) (pv 5)) (by with_unfolding_all rfl))
     (ai (y6 (P:=P) (w:=w) (bN hr) (pv 5) (pv 9) (aG (bt K) (by rfl) T.cS cf (ae (pv 4) ag)) rfl)
     (av (cX (eO PySem.F.plainAttrs_list PySem.F.slot_list_append PySem.F.type_list_append cV (pv 4) (ae (pv 9) ag)))))
     bD)
    (av (cX (eO PySem.F.plainAttrs_list PySem.F.slot_list_append PySem.F.type_list_append cV (pv 7) (ae (y_ (P:=P) (w:=w) (bN hr) (pv 5) (pv 9) (fun _ _=>rfl)) ag)))))))
   (ai (cX (eO PySem.F.plainAttrs_list PySem.F.slot_list_append PySem.F.type_list_append cV (pv 6) (ae (bC (cb K) (by rfl) T.cZ cy (ae (pv 7) ag)) ag)))
   (av (cu (a_ qm (aG (bt K) (by rfl) T.cS cf (ae (pv 4) ag)) (pv 3) (aY _))
    (av (aK dB))
    bD))))))
  (av (aK (bo (ae (pv 4) (ae (bC (cb K) (by rfl) T.cZ cy (ae (pv 6) ag)) ag))))))))),?_⟩
  have big:(100000:Nat)≤sizeLine:=by decide
  have vB:∀(w:List Nat) (x:α),Ok x→dk many w→Ok (fb on x w):=by
   intro w
   induction w with
   | nil=>intro x hx _;exact hx
   | cons c w ih=>intro x hx hw;exact ih _ (nY x c hx (hw c List.mem_cons_self)) fun z hz=>hw z (List.mem_cons_of_mem _ hz)
  refine aX fun Y hY=>?_
  refine⟨_,rfl,by show 1≤sizeLine;omega,fun Rr hR=>?_⟩
  have sR:=Same.new (o:=.lst [v0]) hR
  dsimp only[aM]
  subst hY
  refine aX fun Y hY=>?_
  refine⟨x0,v0,rfl,R.same r0 sR.kt,fun D H2 hD s2 num=>?_⟩
  have Cy:H2 Rr=some (.lst [v0]):=s2 _ _ af
  have pe:H D=none:=sR.free hD
  have DR:Rr≠D:=aj (show(upd H Rr (.lst [v0])) Rr=some (.lst [v0]) from af) hD
  dsimp only[aM]
  subst hY
  refine aX fun Y hY=>?_
  refine⟨by show 0≤sizeLine;omega,fun M hM=>?_⟩
  have sM:=Same.new (o:=.lst []) hM
  have Ft:H M=none:=sR.free (s2.free hM)
  have MR:M≠Rr:=(aj Cy hM).symm
  obtain⟨oD,Jl,_,_⟩:=R.isD num
  have MD:M≠D:=(aj Jl hM).symm
  have uq:=(sR.trans s2).trans sM
  dsimp only[aM]
  subst hY
  refine aX fun Y hY=>?_
  refine yZ (fun m σ H'=>∃(xs:List α) (mv:List (List Nat)) (vs:List V) (ps:List Addr) (v7 v8 v9:Option V),xs.length≤most∧m=most+1-mv.length∧σ=[some v0,some (.int (many:Nat)),some (.ref f1),some (.int (most:Nat)),some (.ref Rr),some (.ref D),some (.ref M),v7,v8,v9]∧Same H H'∧
    H' Rr=some (.lst vs)∧gR R H' vs xs∧R.Num H' D xs∧H' M=some (.lst (ps.map V.ref))∧cE H' ps (mv.map bB)∧bU x0 on many xs mv∧mv.length≤xs.length)
   ⟨_,[x0],[],[v0],[],none,none,none,hm1,rfl,rfl,uq,sM _ _ Cy,.cons (R.same r0 uq.kt) .nil,R.keep num (ak MD.symm),af,.nil,bU.begin,by simp⟩ ?_ ?_
  ·rintro m σ H4 N hN ⟨xs,mv,vs,ps,v7,v8,v9,lx,rfl,rfl,s4,eR,rp,nm,eM,tp,g,hl⟩
   have zh:vs.length=xs.length:=Paired.length rp
   have lps:ps.length=mv.length:=by rw[Paired.length tp,List.length_map]
   refine⟨_,rfl,_,ps.length,rfl,.inl ⟨_,.of eM,by rw[List.length_map]⟩,_,rfl,_,vs.length,rfl,.inl ⟨_,.of eR,rfl⟩,_,_,rfl,rfl,_,rfl,?_⟩
   by_cases hlt:mv.length<xs.length
   ·rw[show decide (((ps.length:Nat):Int)<((vs.length:Nat):Int))=true from decide_eq_true (by omega)]
    refine ic ?_
    refine aX fun Y2 rf=>?_
    obtain⟨x,ex⟩:∃x,xs[mv.length]? =some x:=⟨_,List.getElem?_eq_getElem hlt⟩
    have xt:=g.reach x (List.mem_of_getElem? ex)
    have okx:Ok x:=by obtain⟨w,hw,ew⟩:=xt;rw[ew];exact vB w x0 k0 hw
    refine⟨by show 0≤sizeLine;omega,fun L hL=>?_⟩
    have sL:=Same.new (o:=.lst []) hL
    have hL0:H L=none:=s4.free hL
    have LR:L≠Rr:=(aj eR hL).symm
    have LM:L≠M:=(aj eM hL).symm
    obtain⟨TN,Et,_,_⟩:=R.isD nm
    have LD:L≠D:=(aj Et hL).symm
    dsimp only[aM]
    subst rf
    refine aX fun Y2 rf=>?_
    refine⟨_,rfl,_,rfl,by omega,by omega,qJ (n:=(many:Int).toNat) (fun j σ H'=>∃(ys:List α) (us:List V) (leads:List Nat) (v8 v9:Option V),σ=[some v0,some (.int (many:Nat)),some (.ref f1),some (.int (most:Nat)),some (.ref Rr),some (.ref D),some (.ref M),some (.ref L),v8,v9]∧Same H H'∧aZ H4 H'∧
      H' Rr=some (.lst us)∧gR R H' us ys∧R.Num H' D ys∧H' M=some (.lst (ps.map V.ref))∧H' L=some (.lst ((bB leads).map V.int))∧leads.length=j∧gQ x0 on many xs x leads ys)
     ⟨xs,vs,[],v8,v9,rfl,s4.trans sL,sL.kt,sL _ _ eR,rp.keep sL.kt,R.keep nm (ak LD.symm),sL _ _ eM,af,rfl,gQ.start g⟩ ?_ ?_⟩
    ·rintro j σ H5 N2 Jo hj ⟨ys,us,leads,v8,v9,rfl,s5,n_,ph,n8,oa,m5,xu,ll,gr⟩
     have ej:(0:Int)+(j:Int)=((j:Nat):Int):=by omega
     rw[ej]
     have Jp:j<many:=by omega
     have ly:ys.length≤most+1000:=by have:=iA _ _ _ gr.go;omega
     have zi:us.length=ys.length:=Paired.length n8
     obtain⟨more,ra⟩:=gr.pre
     obtain⟨vx,Jn,rx⟩:=n8.at (show ys[mv.length]? =some x by rw[ra];exact ju ex)
     dsimp only[aM]
     refine aX fun Y3 T3=>?_
     refine⟨rfl,_,rfl,_,rfl,_,ps.length,rfl,.inl ⟨_,.of m5,by rw[List.length_map]⟩,Rr,_,_,vx,rfl,rfl,.of ph,aD (by rw[lps];exact Jn),_,rfl,x,vx,j,rfl,rx,okx,Jp,xr _ _ zg s5,fun to H6 s6 og=>?_⟩
     have oh:=s6 _ _ ph
     have oi:=s6 _ _ m5
     have Cz:=s6 _ _ xu
     have qW:=n8.keep s6.kt
     obtain⟨Jq,jQ,Jr,CA⟩:=R.isD oa
     have qX:=R.keep oa ((s6 _ _ jQ).trans jQ.symm)
     have Eu:=s6 _ _ jQ
     have pj:aZ H4 H6:=fun b l z=>s6 _ _ (n_ _ _ z)
     have CB:=s5.trans s6
     dsimp only[aM]
     subst T3
     refine nG (t:=zG _ _ _) (u:=zF _) (fun σ H'=>∃(zs:List α) (ws:List V) (t:Nat),σ=[some v0,some (.int (many:Nat)),some (.ref f1),some (.int (most:Nat)),some (.ref Rr),some (.ref D),some (.ref M),some (.ref L),some (.int (j:Nat)),some to]∧Same H H'∧aZ H6 H'∧
      H' Rr=some (.lst ws)∧gR R H' ws zs∧R.Num H' D zs∧H' M=some (.lst (ps.map V.ref))∧H' L=some (.lst ((bB leads).map V.int))∧zs[t]? =some (on x j)∧gQ x0 on many xs x (leads++[t]) zs) ?Js (fun Y3 qY=>?_)
     case Js=>
      rintro σ H7 ⟨zs,ws,t,rfl,s7,qZ,km,Jt,q_,Ju,xv,hz,CD⟩
      refine⟨_,rfl,Or.inl ⟨rfl,_,.of xv⟩,_,rfl,_,rfl,D,_,rfl,R.there q_ (R.same og qZ) CD.once hz,L,_,_,rfl,rfl,xv,by rw[List.length_map,nV];omega,?_⟩
      have kL:aZ H7 (upd H7 L (.lst ((bB leads).map V.int++[.int (t:Nat)]))):=jv xv (fun l z=>nomatch z)
      refine Jo _ _ ⟨zs,ws,leads++[t],_,_,rfl,s7.kbn hL0 KB.write,fun b l z=>kL _ _ (qZ _ _ (pj _ _ z)),by rw[ak LR.symm];exact km,Jt.keep kL,R.keep q_ (ak LD.symm),by rw[ak LM.symm];exact Ju,?_,by rw[List.length_append,ll];rfl,CD⟩
      rw[af,um,List.map_append];rfl
     by_cases hm:on x j∈ys
     ·obtain⟨i,hi⟩:=List.getElem?_of_mem hm
      refine⟨_,rfl,_,rfl,D,_,rfl,R.there qX og gr.once hi,_,rfl,?_⟩
      refine de ?_
      exact qY _ _ ⟨ys,us,i,rfl,CB,fun _ _ z=>z,oh,qW,qX,oi,Cz,hi,gr.old (by rw[ll];exact hi)⟩
     ·refine⟨_,rfl,_,rfl,D,_,rfl,R.miss qX og hm,_,rfl,?_⟩
      refine ic ?_
      obtain⟨H7,Ew,oj,q_⟩:=R.put qX og hm (by omega)
      have CF:=gr.new (by omega) xt (by rw[ll];exact hm)
      rw[ll] at CF
      have km:=oj _ _ oh DR
      refine⟨_,rfl,_,us.length,rfl,.inl ⟨_,.of oh,rfl⟩,_,rfl,_,rfl,D,H7,rfl,by rw[zi];exact Ew,?_⟩
      refine⟨_,rfl,Or.inl ⟨rfl,_,.of km⟩,_,rfl,Rr,_,_,rfl,rfl,km,by omega,?_⟩
      have qZ:aZ H6 H7:=Cw Eu CA oj
      have kR:aZ H7 (upd H7 Rr (.lst (us++[to]))):=jv km (fun l z=>nomatch z)
      have xx:aZ H6 (upd H7 Rr (.lst (us++[to]))):=fun b l z=>kR _ _ (qZ _ _ z)
      refine qY _ _ ⟨ys++[on x j],us++[to],ys.length,rfl,(CB.kbn pe oj).kbn hR KB.write,xx,af,?_,R.keep q_ (ak DR.symm),by rw[ak MR];exact oj _ _ oi MD,by rw[ak LR];exact oj _ _ Cz LD,by rw[List.getElem?_append_right (Nat.le_refl _),Nat.sub_self];rfl,CF⟩
      exact iM (qW.keep xx) (R.same og xx)
    ·rintro σ H5 ⟨ys,us,leads,v8,v9,rfl,s5,n_,ph,n8,oa,m5,xu,ll,gr⟩
     subst rf
     dsimp only
     refine aX fun Y2 rf=>?_
     have Jv:leads.length=many:=by rw[ll];omega
     have g2:=g.next ex gr Jv
     have ly:ys.length≤most+1000:=by have:=iA _ _ _ gr.go;omega
     obtain⟨more,ra⟩:=gr.pre
     have TQ:xs.length≤ys.length:=by rw[ra,List.length_append];omega
     have zi:us.length=ys.length:=Paired.length n8
     refine⟨_,rfl,Or.inl ⟨rfl,_,.of m5⟩,_,rfl,L,_,rfl,.inl ⟨.of xu,fun t ht=>?_⟩⟩
     have sT:=Same.new (o:=.tup ((bB leads).map V.int)) ht
     have Jw:M≠t:=aj m5 ht
     have TR:Rr≠t:=aj ph ht
     obtain⟨Jq,jQ,Jr,CA⟩:=R.isD oa
     have Jx:D≠t:=aj jQ ht
     have oi:=sT _ _ m5
     refine⟨M,_,_,rfl,rfl,oi,by rw[List.length_map];omega,?_⟩
     have kM:aZ (upd H5 t (.tup ((bB leads).map V.int))) (upd (upd H5 t (.tup ((bB leads).map V.int))) M (.lst (ps.map V.ref++[.ref t]))):=jv oi (fun l z=>nomatch z)
     have kA:aZ H5 (upd (upd H5 t (.tup ((bB leads).map V.int))) M (.lst (ps.map V.ref++[.ref t]))):=fun b l z=>kM _ _ (sT.kt _ _ z)
     have km:(upd (upd H5 t (.tup ((bB leads).map V.int))) M (.lst (ps.map V.ref++[.ref t]))) Rr=some (.lst us):=by rw[ak MR.symm];exact sT _ _ ph
     subst rf
     dsimp only
     refine⟨_,rfl,_,us.length,rfl,.inl ⟨_,.of km,rfl⟩,_,rfl,_,_,rfl,rfl,_,rfl,?_⟩
     by_cases hov:most<ys.length
     ·rw[show decide ((most:Int)<((us.length:Nat):Int))=true from decide_eq_true (by omega)]
      refine ic ?_
      exact q0 ys _ ((s5.trans sT).kbn Ft KB.write) gr.once gr.reach hov
     rw[show decide ((most:Int)<((us.length:Nat):Int))=false from decide_eq_false (by omega)]
     refine de ?_
     refine hN _ _ _ ?_ ⟨ys,mv++[leads],us,ps++[t],_,_,_,by omega,rfl,rfl,(s5.trans sT).kbn Ft KB.write,km,n8.keep kA,R.keep oa (by rw[ak MD.symm,ak Jx]),by rw[af,List.map_append];rfl,?_,g2,by rw[List.length_append];simp;omega⟩
     ·rw[List.length_append];simp;omega
     ·rw[List.map_append]
      exact iM ((tp.keep n_).keep kA) (by rw[ak Jw.symm,af])
   ·have e:mv.length=xs.length:=by omega
    rw[show decide (((ps.length:Nat):Int)<((vs.length:Nat):Int))=false from decide_eq_false (by omega)]
    refine de ?_
    subst hY
    dsimp only
    refine⟨_,rfl,_,rfl,M,_,rfl,.inl ⟨.of eM,fun Va Jm=>⟨by show 2≤sizeLine;omega,fun p hp=>?_⟩⟩⟩
    have sV:=Same.new (o:=.tup (ps.map V.ref)) Jm
    have sP:=Same.new (o:=.tup [.ref Rr,.ref Va]) hp
    have gT:=sV.trans sP
    exact q xs mv vs p Rr Va ps _ (s4.trans gT) hR e lx g af (gT _ _ eR) (rp.keep gT.kt) (sP _ _ af) (tp.keep gT.kt)
  ·rintro σ H Q Q' h ⟨v,e1,v2,n1,e2,l1,v3,e3,v4,n2,e4,l2,i,j,e5,e6,k,e7,z⟩
   exact⟨v,e1,v2,n1,e2,l1,v3,e3,v4,n2,e4,l2,i,j,e5,e6,k,e7,h _ _ z⟩
def aN (l:List Nat):Str:=⟨(l.map (97+ ·)).toArray⟩
def kH:Str:="abcdefghijklmnopqrstuvwxyz"
theorem xA:kH.length≤sizeLine:=by
 have:kH.length=26:=by decide+kernel
 rw[this];decide
theorem G5:∀c,c<26→Builtin.Str.occurrences kH ⟨#[97+c]⟩ 0 kH.length 1=[c]:=by decide+kernel
theorem CH:∀c,c<26→kH.cps.toList[c]? =some (97+c):=by decide+kernel
theorem jR (a b:List Nat):aN a++aN b=aN (a++b):=by
 show(⟨_⟩:Str)=⟨_⟩
 simp[aN]
theorem fK (l:List Nat):(aN l).length=l.length:=by
 show(l.map (97+ ·)).toArray.size=_
 rw[List.size_toArray,List.length_map]
theorem CI {a b:List Nat} (h:aN a=aN b):a=b:=by
 have h1:(a.map (97+ ·)).toArray=(b.map (97+ ·)).toArray:=congrArg Str.cps h
 have h2:a.map (97+ ·)=b.map (97+ ·):=congrArg Array.toList h1
 exact(List.map_inj_right (fun x y z=>by omega)).mp h2
theorem yt {l:List Nat} (h:∀c∈l,c<26):(aN l).cps.all (· <128)=true:=by
 unfold aN
 rw[List.all_toArray,List.all_map,List.all_eq_true]
 intro c hc
 exact decide_eq_true (by have:=h c hc;show 97+c<128;omega)
theorem jS (l:List Nat):nB (aN l)=aN l.reverse:=by
 show(⟨_⟩:Str)=⟨_⟩
 simp[aN]
theorem CJ {l:List Nat} {i x:Nat} (h:(aN l).cps[i]? =some x):∃c,l[i]? =some c∧x=97+c:=by
 have h1:(l.map (97+ ·))[i]? =some x:=by
  rw[←h]
  show _=(l.map (97+ ·)).toArray[i]?
  rw[List.getElem?_toArray]
 rw[List.getElem?_map] at h1
 obtain⟨c,hc,e⟩:=Option.map_eq_some_iff.mp h1
 exact⟨c,hc,e.symm⟩
def cv:List Nat→List Nat×Nat
 | []=>([],1)
 | c::cs=>(((c+(cv cs).2) % 26)::(cv cs).1,(c+(cv cs).2) / 26)
theorem ko:∀l,(cv l).1.length=l.length
 | []=>rfl
 | c::cs=>by rw[cv,List.length_cons,List.length_cons,ko cs]
theorem mx:∀{l},(∀c∈l,c<26)→(cv l).2≤1
 | [],_=>Nat.le_refl _
 | c::cs,h=>by
  have h1:=mx (l:=cs) fun x hx=>h x (List.mem_cons_of_mem _ hx)
  have h2:=h c List.mem_cons_self
  show(c+(cv cs).2) / 26≤1
  omega
theorem xB:∀{l},(∀c∈l,c<26)→∀c∈(cv l).1,c<26
 | [],_,c,hc=>by cases hc
 | c::cs,h,x,hx=>by
  rcases List.mem_cons.mp (show x∈((c+(cv cs).2) % 26)::(cv cs).1 from hx) with e | e
  ·omega
  ·exact xB (l:=cs) (fun y hy=>h y (List.mem_cons_of_mem _ hy)) x e
def om (l:List Nat):List Nat:=((cv l).1++List.replicate (cv l).2 0).take 3
structure iN (l:List Nat):Prop where
 ne:0<l.length
 le:l.length≤3
 lt:∀c∈l,c<26
def rk:List Nat→Nat
 | [a]=>a
 | [a,b]=>26+26*a+b
 | [a,b,c]=>702+676*a+26*b+c
 | _=>0
theorem iN.cases {l:List Nat} (h:iN l):(∃a,l=[a]∧a<26)∨(∃a b,l=[a,b]∧a<26∧b<26)∨∃a b c,l=[a,b,c]∧a<26∧b<26∧c<26:=by
 have h1:=h.ne
 have h2:=h.le
 have h3:=h.lt
 match l,h1,h2,h3 with
 | [a],_,_,h3=>exact .inl ⟨a,rfl,h3 a (by simp)⟩
 | [a,b],_,_,h3=>exact .inr (.inl ⟨a,b,rfl,h3 a (by simp),h3 b (by simp)⟩)
 | [a,b,c],_,_,h3=>exact .inr (.inr ⟨a,b,c,rfl,h3 a (by simp),h3 b (by simp),h3 c (by simp)⟩)
 | _::_::_::_::_,_,h2,_=>simp at h2
theorem JA {l:List Nat} (h:iN l):rk (om l) % 17576=(rk l+1) % 17576:=by
 rcases h.cases with⟨a,rfl,ha⟩ | ⟨a,b,rfl,ha,hb⟩ | ⟨a,b,c,rfl,ha,hb,hc⟩
 ·have e:(a+1) / 26=0∨(a+1) / 26=1:=by omega
  have E:om [a]=([(a+1) % 26]++List.replicate ((a+1) / 26) 0).take 3:=rfl
  rcases e with e | e<;>rw[E,e]
  ·show((a+1) % 26) % 17576=(a+1) % 17576
   omega
  ·show(26+26*((a+1) % 26)+0) % 17576=(a+1) % 17576
   omega
 ·have e:(a+(b+1) / 26) / 26=0∨(a+(b+1) / 26) / 26=1:=by omega
  have E:om [a,b]=([(a+(b+1) / 26) % 26,(b+1) % 26]++List.replicate ((a+(b+1) / 26) / 26) 0).take 3:=rfl
  rcases e with e | e<;>rw[E,e]
  ·show(26+26*((a+(b+1) / 26) % 26)+(b+1) % 26) % 17576=(26+26*a+b+1) % 17576
   omega
  ·show(702+676*((a+(b+1) / 26) % 26)+26*((b+1) % 26)+0) % 17576=(26+26*a+b+1) % 17576
   omega
 ·have e:(a+(b+(c+1) / 26) / 26) / 26=0∨(a+(b+(c+1) / 26) / 26) / 26=1:=by omega
  have E:om [a,b,c]=([(a+(b+(c+1) / 26) / 26) % 26,(b+(c+1) / 26) % 26,(c+1) % 26]++List.replicate ((a+(b+(c+1) / 26) / 26) / 26) 0).take 3:=rfl
  have G:rk [(a+(b+(c+1) / 26) / 26) % 26,(b+(c+1) / 26) % 26,(c+1) % 26] % 17576=(702+676*a+26*b+c+1) % 17576:=by
   show(702+676*((a+(b+(c+1) / 26) / 26) % 26)+26*((b+(c+1) / 26) % 26)+(c+1) % 26) % 17576=_
   omega
  rcases e with e | e<;>rw[E,e]<;>exact G
theorem EA {l:List Nat} (h:iN l):iN (om l):=by
 have h1:=ko l
 have h0:=h.ne
 refine⟨?_,?_,fun c hc=>?_⟩
 ·rw[om,List.length_take,List.length_append,h1];omega
 ·rw[om,List.length_take];omega
 ·rcases List.mem_append.mp (List.mem_of_mem_take hc) with z | z
  ·exact xB h.lt c z
  ·rw[(List.mem_replicate.mp z).2];decide
theorem JB (l:List Nat) (h0:0<l.length) (h:l.length≤4):Txt.slice (aN l) none (some 3)=aN (l.take 3):=by
 match l,h0,h with
 | [a],_,_=>with_unfolding_all rfl
 | [a,b],_,_=>with_unfolding_all rfl
 | [a,b,c],_,_=>with_unfolding_all rfl
 | [a,b,c,d],_,_=>with_unfolding_all rfl
theorem Aq (n:Nat) (h:n≤1):Txt.mul "a" (n:Int)=aN (List.replicate n 0):=by
 match n,h with
 | 0,_=>with_unfolding_all rfl
 | 1,_=>with_unfolding_all rfl
theorem JC (l:List Nat) (h:l.length≤3):Txt.join "" (l.map fun c=>aN [c])=aN l:=by
 match l,h with
 | [],_=>with_unfolding_all rfl
 | [a],_=>with_unfolding_all rfl
 | [a,b],_=>with_unfolding_all rfl
 | [a,b,c],_=>with_unfolding_all rfl
 | _::_::_::_::_,h=>simp at h
def G6:Sp:=fun vs H Q _=>∃l:List Nat,vs=[.str (aN l)]∧iN l∧Q (.str (aN (om l))) H
theorem dI:aO ["_law_word","_law_letters_here","_law_found","_law_more","_law_sign","_law_number"] ["_law_word"] (ah gY):=⟨rfl,rfl,rfl,by decide+kernel,rfl,by decide+kernel,by decide+kernel⟩
theorem As {a:bR} (T:Txt K mg a):aQ P w K mg base bj 1 a.kd a.ml ["_law_word"] G6:=by
 refine T.Cc.ok dI (fun vs H Q E h=>?_) (fun cdv A outer s H vs Q E hr h=>?_)
 ·obtain⟨l,rfl,_⟩:=h
  rfl
 ·obtain⟨l,rfl,hw,k⟩:=h
  refine⟨_,(ai (az (i:=1) dI.nd rfl (Or.inl rfl) bb)
  (ai (az (i:=2) dI.nd rfl (Or.inl rfl) bb)
  (ai (az (i:=3) dI.nd rfl (Or.inl rfl) ao)
  (ai (dD PassesOwn.never rfl (Iq (GI (pv 0) ib ib (kN (E_ A3 ao)))) (aI (i:=4) dI.nd rfl (Or.inl rfl))
   (ai (az (i:=5) dI.nd rfl (Or.inl rfl) (aH iS (eO PySem.F.plainAttrs_str PySem.F.slot_str_index PySem.F.type_str_index DZ (pv 1) (ae (pv 4) ag)) (pv 3)))
   (ai (az (i:=2) dI.nd rfl (Or.inl rfl) (aH qp (aL A9 (pv 1) (aH d6 (pv 5) ao) (fun _ _=>rfl)) (pv 2)))
   (av (az (i:=3) dI.nd rfl (Or.inl rfl) (aH ig (pv 5) ao))))))
  (av (aK (pI Ic (aH qp (pv 2) (aH GJ bb (pv 3))) ib (kN ao)))))))),?_⟩
  have lw:=fK l
  have WQ:=hw.le
  have big:(100:Nat)≤sizeLine:=by decide
  dsimp only[pG,zH,tC,aM]
  refine⟨_,rfl,_,rfl,_,rfl,aN l,rfl,rfl,rfl,rfl,by omega,nB (aN l),rfl,?asc,GH (fun i σ H'=>∃v4 v5:Option V,σ=[some (.str (aN l)),some (.str kH),some (.str (aN (cv (l.drop (l.length-i))).1)),some (.int ((cv (l.drop (l.length-i))).2:Nat)),v4,v5]∧H'=H)
   ⟨none,none,?st,rfl⟩ ?_ ?_⟩
  case asc=>rw[jS];exact yt fun c hc=>hw.lt c (List.mem_reverse.mp hc)
  case st=>rw[Nat.sub_zero,List.drop_length];rfl
  ·rintro i x σ H1 hx ⟨v4,v5,rfl,rfl⟩
   rw[jS] at hx
   obtain⟨c,hc,rfl⟩:=CJ hx
   have hi:i<l.length:=by have:=(List.getElem?_eq_some_iff.mp hc).1;rwa [List.length_reverse] at this
   rw[List.getElem?_reverse hi] at hc
   have O9:=hw.lt c (List.mem_of_getElem? hc)
   have ed:l.drop (l.length-(i+1))=c::l.drop (l.length-i):=by
    have h1:l.length-(i+1)=l.length-1-i:=by omega
    have h2:l.length-i=l.length-1-i+1:=by omega
    rw[h1,h2]
    exact List.drop_eq_getElem?_toList_append.trans (by rw[hc];rfl)
   have hm:=mx (l:=l.drop (l.length-i)) fun x hx=>hw.lt x (List.mem_of_mem_drop hx)
   have hlen:=ko (l.drop (l.length-i))
   rw[List.length_drop] at hlen
   have ea:cv (c::l.drop (l.length-i))=(((c+(cv (l.drop (l.length-i))).2) % 26)::(cv (l.drop (l.length-i))).1,(c+(cv (l.drop (l.length-i))).2) / 26):=rfl
   rw[ed,ea]
   generalize cv (l.drop (l.length-i))=g at hm hlen ⊢
   have eN:((c:Int)+(g.2:Int)) % 26=(((c+g.2) % 26:Nat):Int):=by rw[Int.natCast_emod,Int.natCast_add];rfl
   have eD:((c:Int)+(g.2:Int)) / 26=(((c+g.2) / 26:Nat):Int):=by rw[Int.natCast_ediv,Int.natCast_add];rfl
   refine⟨_,rfl,rfl,_,rfl,kH,⟨#[97+c]⟩,c,[],rfl,rfl,G5 c O9,_,rfl,_,_,rfl,rfl,?_⟩
   refine⟨_,rfl,_,rfl,_,_,rfl,rfl,cpos (by decide),kH,_,97+(c+g.2) % 26,rfl,rfl,xA,by rw[eN];exact aD (CH _ (Nat.mod_lt _ (by decide))),_,rfl,_,_,rfl,rfl,?len,_,rfl,_,_,rfl,rfl,⟨by decide,by decide⟩,?_⟩
   case len=>
    have e1:Str.length (⟨#[97+(c+g.2) % 26]⟩:Str)=1:=rfl
    rw[e1,fK]
    omega
   refine⟨some (.str ⟨#[97+c]⟩),some (.int ((c:Int)+(g.2:Int))),?_,rfl⟩
   show[some (V.str (aN l)),some (V.str kH),some (V.str ((⟨#[97+(c+g.2) % 26]⟩:Str)++aN g.1)),some (V.int (((c:Int)+(g.2:Int)) / 26)),some (V.str ⟨#[97+c]⟩),some (V.int ((c:Int)+(g.2:Int)))]=_
   have e2:(⟨#[97+(c+g.2) % 26]⟩:Str)++aN g.1=aN (((c+g.2) % 26)::g.1):=jR [(c+g.2) % 26] g.1
   rw[e2,eD]
  ·rintro σ H1 ⟨v4,v5,rfl,rfl⟩
   have es:(nB (aN l)).cps.size=l.length:=by
    rw[jS]
    exact(fK _).trans List.length_reverse
   rw[es,Nat.sub_self,List.drop_zero]
   have hm:=mx hw.lt
   have hlen:=ko l
   have h0:=hw.ne
   have ef:om l=((cv l).1++List.replicate (cv l).2 0).take 3:=rfl
   rw[ef] at k
   generalize cv l=g at hm hlen k ⊢
   refine⟨_,rfl,_,rfl,"a",(g.2:Int),rfl,rfl,by omega,by omega,(by show 1≤1000;decide),_,_,rfl,rfl,?len,_,rfl,_,rfl,?len2,?_⟩
   case len=>
    rw[Aq _ hm,fK,fK,List.length_replicate]
    omega
   case len2=>
    rw[Aq _ hm,jR,fK,List.length_append,List.length_replicate]
    omega
   rw[Aq _ hm,jR,JB _ (by rw[List.length_append];omega) (by rw[List.length_append,List.length_replicate];omega)]
   exact k
theorem G7 (l:List Str):(l.map V.str).all g6=true:=by rw[List.all_map];exact List.all_eq_true.mpr fun _ _=>rfl
theorem cj.zj {H:Hp} {F L N:Addr} (h:cj H F L) (e:H N=none):N≠F∧N≠L:=by
 obtain⟨ms,n,sd,a,b,_⟩:=h.ex
 exact⟨(aj a e).symm,(aj b e).symm⟩
theorem cj.lo {H H':Hp} {F L N:Addr} (h:cj H' F L) (k:eG F L H H') (e:H' N=none):H N=none:=by
 obtain⟨n1,n2⟩:=h.zj e
 cases z:H N with
 | none=>rfl
 | some o=>have:=k N o z n1 n2;rw[e] at this;cases this
theorem cj.upd {H:Hp} {F L N:Addr} {o:HO} (h:cj H F L) (n:N≠F∧N≠L):cj (upd H N o) F L:=by
 obtain⟨ms,m,sd,a,b,c⟩:=h.ex
 exact⟨ms,m,sd,by rw[ak n.1.symm];exact a,by rw[ak n.2.symm];exact b,c⟩
theorem eG.EB {H H':Hp} {F L N:Addr} {o:HO} (k:eG F L H H') (e:H N=none):eG F L H (upd H' N o):=fun b p h n m=>by
 rw[ak (aj h e)]
 exact k b p h n m
theorem JD {T:(Bool→Hp→Prop)→Prop} {Qf:Bool→Hp→Prop} {c:Bool} (S:Hp→Prop) (h:∀Qc:Bool→Hp→Prop,(∀H',S H'→Qc c H')→T Qc) (x:∀H',S H'→Qf c H'):T Qf:=h Qf x
def iC:List Str:=["and","not","or"]
structure lE (ss:List Str):Prop where
 once:ss.Nodup
 words:∀s∈ss,∃l,iN l∧s=aN l
 no:∀s∈ss,s ∉ iC
theorem lE.perm {ss rs:List Str} (h:lE ss) (p:rs.Perm ss):lE rs:=⟨p.nodup_iff.mpr h.once,fun s hs=>h.words s (p.mem_iff.mp hs),fun s hs=>h.no s (p.mem_iff.mp hs)⟩
structure Met (B:List Str) (l:List Nat) (vis:List Str):Prop where
 once:vis.Nodup
 sub:∀v∈vis,v∈B
 ex:∃r0,rk l % 17576=(r0+vis.length) % 17576∧∀(j:Nat) (v:Str),vis[j]? =some v→∃l',v=aN l'∧rk l' % 17576=(r0+j) % 17576
theorem Met.step {B:List Str} {l:List Nat} {vis:List Str} (h:Met B l vis) (hw:iN l) (hB:B.length≤20) (hl:aN l∈B):Met B (om l) (vis++[aN l]):=by
 obtain⟨r0,h1,h2⟩:=h.ex
 have len:=iW h.once h.sub
 have fresh:aN l ∉ vis:=fun z=>by
  obtain⟨j,hj⟩:=List.getElem?_of_mem z
  obtain⟨l',e,e2⟩:=h2 j _ hj
  rw[←CI e,h1] at e2
  have:=(List.getElem?_eq_some_iff.mp hj).1
  omega
 refine⟨?_,fun v hv=>?_,r0,?_,fun j v hj=>?_⟩
 ·rw[List.nodup_append]
  exact⟨h.once,by simp,fun a ha b hb e=>fresh (by rw[←List.mem_singleton.mp hb,←e];exact ha)⟩
 ·rcases List.mem_append.mp hv with z | z
  ·exact h.sub v z
  ·rw[List.mem_singleton.mp z];exact hl
 ·rw[JA hw,List.length_append]
  show(rk l+1) % 17576=(r0+(vis.length+1)) % 17576
  omega
 ·by_cases lt:j<vis.length
  ·rw[List.getElem?_append_left lt] at hj
   exact h2 j v hj
  ·have hl2:=(List.getElem?_eq_some_iff.mp hj).1
   rw[List.length_append] at hl2
   have hl3:j<vis.length+1:=hl2
   have e:j=vis.length:=by omega
   subst e
   rw[List.getElem?_append_right (Nat.le_refl _),Nat.sub_self] at hj
   have e2:aN l=v:=Option.some.inj hj
   exact⟨l,e2.symm,h1⟩
def G8:Sp:=fun vs H Q _=>∃(F L:Addr) (m:Nat),vs=[.ref F,.int m]∧cj H F L∧m≤6∧
 ∀(D:Addr) (ss:List Str) (H':Hp),H D=none→eG F L H H'→cj H' F L→H' D=some (.tup (ss.map V.str))→ss.length=m→lE ss→PyProof.Rows.sortedS ss=true→Q (.ref D) H'
theorem fU:aO ["_law_feed_here","_law_many","_law_found","_law_k","_law_signs","_law_word"] ["_law_feed_here","_law_many"] (ah eJ):=⟨rfl,rfl,rfl,by decide+kernel,rfl,by decide+kernel,by decide+kernel⟩
theorem Au {a:bR} (T:Txt K mg a):aQ P w K mg base bj 2 a.ke a.mn ["_law_feed_here","_law_many"] G8:=by
 have cN:=nT (P:=P) (w:=w) (base:=base) T
 have CK:=As (P:=P) (w:=w) (base:=base) T
 refine T.Cg.ok fU (fun vs H Q E h=>?_) (fun cdv A outer s H vs Q E hr h=>?_)
 ·obtain⟨F,L,m,rfl,_⟩:=h
  rfl
 ·obtain⟨F,L,m,rfl,hf,hm,k⟩:=h
  have cp:aP 1 _:=hr
  have Av:aP 1 _:=hr
  refine⟨_,(ai (az (i:=2) fU.nd rfl (Or.inl rfl) (cD ag))
  (ai (dD PassesOwn.never rfl (dC rfl T.fS (ae (pv 1) ag)) (aI (i:=3) fU.nd rfl (Or.inl rfl))
   (ai (g7 (i:=4) (aF.mk' (esc:=ah eJ) (N:=["_law_feed_here","_law_many","_law_found","_law_k","_law_signs","_law_word"]) (own:=["_law_sign"]) (aB:=["_law_feed_here"]) (bE:=[0]) rfl rfl (by decide+kernel)) rfl (dC rfl T.fS (ae (aH iS ao (aC cN cp rfl T.dR T.dS T.dU .nil aR (ae (pv 0) (ae ao ag)))) ag)) (fun _ _ _ _=>(aI (i:=0) (show List.Nodup (["_law_sign","_law_feed_here"]:List Str) by decide+kernel) rfl (Or.inl rfl))) (fun _ _ _ _=>bL) (fun _ _ _ _=>(aC cN cp rfl T.dR T.dS T.dU .nil aR (ae (pv 1) (ae ao ag)))) fU.nd rfl rfl)
   (ai (az (i:=5) fU.nd rfl (Or.inl rfl) (eO PySem.F.plainAttrs_str PySem.F.slot_str_join PySem.F.type_str_join (DK K) bb (ae (ck (aF.mk' (esc:=ah eJ) (N:=["_law_feed_here","_law_many","_law_found","_law_k","_law_signs","_law_word"]) (own:=["_law_sign"]) (aB:=[]) (bE:=[]) rfl rfl (by decide+kernel)) rfl (dn (pv 4)) (fun _ _ _ _=>(aI (i:=0) (show List.Nodup (["_law_sign"]:List Str) by decide+kernel) rfl (Or.inl rfl))) (fun _ _ _ _=>bL) (fun _ _ _ _=>(aL A9 bb (pv 0) (fun _ _=>rfl)))) ag)))
   (ai (jA PassesOwn.never (PW.pt (oC (a_ (wb K) (pv 5) (pv 2) (by with_unfolding_all rfl)) (kK (a_ (wb K) (pv 5) (bo (ae bb (ae bb (ae bb ag)))) (by with_unfolding_all rfl)))))
    (av (az (i:=5) fU.nd rfl (Or.inl rfl) (aC CK Av rfl T.Cd T.Ce T.Cf .nil aR (ae (pv 5) ag)))))
   (av (cX (eO PySem.F.plainAttrs_list PySem.F.slot_list_append PySem.F.type_list_append cV (pv 2) (ae (pv 5) ag))))))))
  (av (aK (bC (cb K) (by rfl) T.cZ cy (ae (aG (yk K) (by rfl) T.xl tY (ae (pv 2) ag)) ag)))))),?_⟩
  have p3:(3:Nat)<2 ^ 1000:=Nat.lt_of_lt_of_le (show 3<2 ^ 2 by decide) (Nat.pow_le_pow_right (by decide) (by decide))
  have T4:(26:Nat)<2 ^ 1000:=Nat.lt_of_lt_of_le (show 26<2 ^ 6 by decide) (Nat.pow_le_pow_right (by decide) (by decide))
  have big:(100:Nat)≤sizeLine:=by decide
  refine⟨by decide,fun N hN=>?_⟩
  have nN:=hf.zj hN
  refine⟨_,rfl,_,rfl,by omega,by omega,j_ (n:=(m:Int).toNat) (fun i σ H'=>∃(fs:List Str) (v3 v4 v5:Option V),σ=[some (.ref F),some (.int (m:Nat)),some (.ref N),v3,v4,v5]∧eG F L H H'∧cj H' F L∧H' N=some (.lst (fs.map V.str))∧fs.length=i∧lE fs)
   ⟨[],none,none,none,rfl,(Same.new hN).kb2,hf.same (Same.new hN),af,rfl,⟨List.nodup_nil,fun s hs=>(by cases hs),fun s hs=>(by cases hs)⟩⟩ ?_ ?_⟩
  ·rintro i σ H1 hi ⟨fs,v3,v4,v5,rfl,k1,f1,n1,lf,ok⟩
   rw[Int.toNat_natCast] at hi
   refine⟨_,rfl,F,L,3,rfl,f1,by decide,p3,fun t H2 t1 k2 f2=>⟨_,_,rfl,rfl,_,rfl,by omega,by omega,fun C hC=>?_⟩⟩
   have n2:=k2 _ _ n1 nN.1 nN.2
   have nC:=f2.zj hC
   have T5:N≠C:=aj n2 hC
   refine jj (fun j σ H'=>∃(rs:List Nat) (v:Option V),σ=[v,some (.ref F)]∧eG F L H2 H'∧cj H' F L∧H' C=some (.lst (rs.map fun r=>V.int (r:Nat)))∧rs.length=j∧∀r∈rs,r<26)
    ⟨[],none,rfl,(Same.new hC).kb2,f2.same (Same.new hC),af,rfl,fun r hr=>(by cases hr)⟩ ?_ ?_
   ·rintro j σ H3 hj ⟨rs,v,rfl,k3,f3,c3,lr,hrs⟩
    refine⟨_,rfl,F,L,26,rfl,f3,by decide,T4,fun r H4 r1 k4 f4=>?_⟩
    have c4:=k4 _ _ c3 nC.1 nC.2
    refine⟨_,c4,?_,rs++[r],_,rfl,eG.EB (k3.trans k4) hC,f4.upd nC,?_,?_,fun x hx=>?_⟩
    ·rw[List.length_map];omega
    ·rw[af,List.map_append];rfl
    ·rw[List.length_append,lr];rfl
    ·rcases List.mem_append.mp hx with z | z
     ·exact hrs x z
     ·rw[List.mem_singleton.mp z];exact r1
   rintro σ H3 ⟨rs,v,rfl,k3,f3,c3,lr,hrs⟩
   have n3:=k3 _ _ n2 nN.1 nN.2
   have WR:rs.length=t+1:=by omega
   dsimp only[aM]
   refine⟨rfl,_,rfl,C,rfl,⟨_,.of c3⟩,fun D hD=>?_⟩
   refine fB (xs:=rs.map fun r=>V.int (r:Nat)) (fun j σ H'=>∃(v:Option V),σ=[v]∧Same H3 H'∧H' D=some (.lst (((rs.take j).map fun c=>aN [c]).map V.str)))
    ⟨none,?sg,Same.new hD,af⟩ (fun j σ H' _ ⟨_,_,s,_⟩=>.of (s _ _ c3)) ?_ ?_
   case sg=>rfl
   ·rintro j y σ H4 hy ⟨v,rfl,s4,e4⟩
    rw[List.getElem?_map] at hy
    obtain⟨r,er,rfl⟩:=Option.map_eq_some_iff.mp hy
    have hj:j<rs.length:=(List.getElem?_eq_some_iff.mp er).1
    refine⟨_,rfl,kH,_,97+r,rfl,rfl,xA,aD (CH r (hrs r (List.mem_of_getElem? er))),_,e4,?_,_,rfl,s4.kbn hD KB.write,?_⟩
    ·rw[List.length_map,List.length_map,List.length_take];omega
    ·rw[af,take_snoc er,List.map_append,List.map_append];rfl
   rintro σ H4 ⟨v,rfl,s4,e4⟩
   rw[List.length_map,List.take_length] at e4
   refine⟨"",D,rs.map fun c=>aN [c],rfl,rfl,.of e4,?jl,fun z hz Nl=>?_⟩
   case jl=>
    have e0:(Str.length ("":Str))=0:=rfl
    have e1:((rs.map fun c=>aN [c]).map (·.length)).sum=rs.length:=by
     rw[List.map_map]
     have:(fun c=>(aN [c]).length)=fun _=>1:=funext fun c=>fK [c]
     show(rs.map fun c=>(aN [c]).length).sum=_
     rw[this,List.map_const']
     induction rs.length with
     | zero=>rfl
     | succ n ih=>rw[List.replicate_succ,List.sum_cons,ih];omega
    rw[e0,e1];omega
   rw[JC rs (by omega)] at Nl
   subst Nl
   have wd:iN rs:=⟨by omega,by omega,hrs⟩
   have n4:=s4 _ _ n3
   have k4:eG F L H H4:=((k1.trans k2).trans k3).trans s4.kb2
   have f4:=f3.same s4
   dsimp only[aM]
   refine za (fun mm σ H'=>∃(l:List Nat) (vis:List Str),mm=50-vis.length∧σ=[some (.ref F),some (.int (m:Nat)),some (.ref N),some (.int (0+(i:Int))),some (.ref C),some (.str (aN l))]∧Same H4 H'∧iN l∧Met (fs++iC) l vis)
    ⟨_,rs,[],rfl,rfl,.refl _,wd,List.nodup_nil,fun v hv=>(by cases hv),rk rs,rfl,fun j v hj=>(by simp at hj)⟩ ?_ ?_
   ·rintro mm σ H5 ⟨l,vis,rfl,rfl,s5,hw,met⟩
    have n5:=s5 _ _ n4
    refine JD (c:=decide (aN l∈fs++iC)) (Same H5) (fun Qc hq=>?_) (fun H6 s6=>?_)
    ·refine⟨_,rfl,_,rfl,N,_,rfl,.inl (.of n5),rfl,G7 fs,_,rfl,?_⟩
     rw[if_neg Bool.false_ne_true,pO]
     refine bH (fun z=>?_) (fun z=>?_)
     ·have z':aN l∈fs:=of_decide_eq_true z
      have:=hq H5 (.refl _)
      rwa [decide_eq_true (List.mem_append.mpr (.inl z'))] at this
     ·have z':aN l ∉ fs:=fun y=>z (decide_eq_true y)
      refine⟨_,rfl,by show 3≤sizeLine;decide,fun Z hZ=>⟨Z,_,rfl,.inr (.of af),rfl,rfl,_,rfl,?_⟩⟩
      have:=hq _ (Same.new (o:=.tup [.str "and",.str "not",.str "or"]) hZ)
      have ee:decide (aN l∈fs++iC)=(if false=true then !inV (V.str (aN l)) [.str "and",.str "not",.str "or"] else inV (V.str (aN l)) [.str "and",.str "not",.str "or"]):=by
       rw[if_neg (by decide),show([.str "and",.str "not",.str "or"]:List V)=iC.map V.str from rfl,pO]
       exact decide_eq_decide.mpr ⟨fun y=>(List.mem_append.mp y).resolve_left z',fun y=>List.mem_append.mpr (.inr y)⟩
      rw[ee] at this
      exact this
    ·refine bH (fun z=>?_) (fun z=>?_)
     ·have z':=of_decide_eq_true z
      have lB:(fs++iC).length≤20:=by rw[List.length_append];show fs.length+3≤20;omega
      have O':=met.step hw lB z'
      have lv:=iW met.once met.sub
      refine⟨_,rfl,l,rfl,hw,50-(vis++[aN l]).length,?_,om l,vis++[aN l],rfl,rfl,s5.trans s6,EA hw,O'⟩
      rw[List.length_append]
      show 50-(vis.length+1)<_
      omega
     ·have z':aN l ∉ fs++iC:=fun y=>z (decide_eq_true y)
      have n6:=s6 _ _ n5
      refine⟨_,rfl,.inl ⟨rfl,_,.of n6⟩,_,rfl,N,_,_,rfl,rfl,n6,?_,fs++[aN l],_,_,_,rfl,?_,?_,?_,?_,?_⟩
      ·rw[List.length_map];omega
      ·exact eG.EB (k4.trans (s5.trans s6).kb2) hN
      ·exact(f4.same (s5.trans s6)).upd nN
      ·rw[af,List.map_append];rfl
      ·rw[List.length_append,lf];rfl
      ·refine⟨?_,fun s hs=>?_,fun s hs=>?_⟩
       ·rw[List.nodup_append]
        exact⟨ok.once,by simp,fun a ha b hb e=>z' (List.mem_append.mpr (.inl (by rw[←List.mem_singleton.mp hb,←e];exact ha)))⟩
       ·rcases List.mem_append.mp hs with y | y
        ·exact ok.words s y
        ·exact⟨l,hw,List.mem_singleton.mp y⟩
       ·rcases List.mem_append.mp hs with y | y
        ·exact ok.no s y
        ·rw[List.mem_singleton.mp y];exact fun x=>z' (List.mem_append.mpr (.inr x))
   ·rintro σ H Q Q' hQ ⟨v,e1,v2,e2,a,xs,e3,e4,e5,e6,b,e7,q⟩
    refine⟨v,e1,v2,e2,a,xs,e3,e4,e5,e6,b,e7,?_⟩
    revert q
    cases b with
    | true=>exact fun q=>hQ _ _ q
    | false=>
     rintro⟨v,e1,z,q⟩
     refine⟨v,e1,z,fun p hp=>?_⟩
     obtain⟨a,xs,e3,e4,e5,e6,b,e7,q⟩:=q p hp
     exact⟨a,xs,e3,e4,e5,e6,b,e7,hQ _ _ q⟩
  ·rintro σ H1 ⟨fs,v3,v4,v5,rfl,k1,f1,n1,lf,ok⟩
   rw[Int.toNat_natCast] at lf
   refine⟨_,rfl,N,fs,rfl,.of n1,by omega,fun p ss hp perm CL=>?_⟩
   have sp:=Same.new (o:=.lst (ss.map V.str)) hp
   refine⟨p,_,rfl,.inl ⟨.of af,fun D hD=>?_⟩⟩
   have sD:=Same.new (o:=.tup (ss.map V.str)) hD
   have kk:=k1.trans sp.kb2
   have ff:=f1.same sp
   exact k D ss _ (ff.lo kk hD) (kk.trans sD.kb2) (ff.same sD) af (by rw[perm.length_eq,lf]) (ok.perm perm) CL
structure Term where
 num:Int
 parts:List (Str×Int)
def jT (p:Str×Int):Dt:=.tup [.str p.1,.int p.2]
def Term.dt (t:Term):Dt:=.tup [.int t.num,.tup (t.parts.map jT)]
inductive au where
 | same (t u:Term) | less (t u:Term) | sign (a:Str) (t:Term) (s:Int) | alike (a:Str) (t:Term) (b:Str) (u:Term)
 | no (f:au) | and (f g:au) | or (f g:au) | some (n:Str) (f:au) | each (n:Str) (f:au)
def au.dt:au→Dt
 | .same t u=>.tup [.str "same",t.dt,u.dt]
 | .less t u=>.tup [.str "less",t.dt,u.dt]
 | .sign a t s=>.tup [.str "sign",.str a,t.dt,.int s]
 | .alike a t b u=>.tup [.str "alike",.str a,t.dt,.str b,u.dt]
 | .no f=>.tup [.str "not",f.dt]
 | .and f g=>.tup [.str "and",f.dt,g.dt]
 | .or f g=>.tup [.str "or",f.dt,g.dt]
 | .some n f=>.tup [.str "some",.str n,f.dt]
 | .each n f=>.tup [.str "each",.str n,f.dt]
def au.deep:au→Nat
 | .no f=>f.deep+1
 | .and f g=>max f.deep g.deep+1
 | .or f g=>max f.deep g.deep+1
 | .some _ f=>f.deep+1
 | .each _ f=>f.deep+1
 | _=>0
theorem ur:∀ps:List (Str×Int),Dt.gH (ps.map jT)=true
 | []=>by simp[Dt.gH]
 | p::ps=>by rw[List.map_cons,Dt.gH,ur ps];simp[jT,Dt.gg,Dt.gH]
theorem Term.gg (t:Term):t.dt.gg=true:=by simp[Term.dt,Dt.gg,Dt.gH,ur]
theorem au.gg (s:au):s.dt.gg=true:=by
 induction s<;>simp[au.dt,Dt.gg,Dt.gH,Term.gg, *]
def d_ (ss:List Str) (t:Term):Prop:=t.parts.length≤3∧∀q∈t.parts,q.1∈ss
def au.Over (ss:List Str):au→Prop
 | .same t u=>d_ ss t∧d_ ss u
 | .less t u=>d_ ss t∧d_ ss u
 | .sign _ t _=>d_ ss t
 | .alike _ t _ u=>d_ ss t∧d_ ss u
 | .no f=>f.Over ss
 | .and f g=>f.Over ss∧g.Over ss
 | .or f g=>f.Over ss∧g.Over ss
 | .some _ f=>f.Over ss
 | .each _ f=>f.Over ss
def au.word:au→Str
 | .same _ _=>"same" | .less _ _=>"less" | .sign _ _ _=>"sign" | .alike _ _ _ _=>"alike" | .no _=>"not" | .and _ _=>"and" | .or _ _=>"or" | .some _ _=>"some" | .each _ _=>"each"
def au.inner:au→List au
 | .no f=>[f] | .and f g=>[f,g] | .or f g=>[f,g] | .some _ f=>[f] | .each _ f=>[f] | _=>[]
def au.spots:au→List Nat
 | .no _=>[1] | .and _ _=>[1,2] | .or _ _=>[1,2] | .some _ _=>[2] | .each _ _=>[2] | _=>[]
structure kI where
 d:Addr
 no:Addr
 an:Addr
 or:Addr
 so:Addr
 ea:Addr
def da (b:kI):List (Str×Option V):=
 [("not",some (.ref b.no)),("and",some (.ref b.an)),("or",some (.ref b.or)),("some",some (.ref b.so)),("each",some (.ref b.ea)),("same",none),("less",none),("sign",none),("alike",none)]
structure iO (K:PySem.W.Frag) (pr:Params) (mg:Str→Option Value) (b:kI):Prop where
 JE:mg "PART_SPOTS"=some (.ref b.d)
 JF:kX K pr b.d (da b)
 no:∀H,aU K H b.no [.int 1]
 an:∀H,aU K H b.an [.int 1,.int 2]
 or:∀H,aU K H b.or [.int 1,.int 2]
 so:∀H,aU K H b.so [.int 2]
 ea:∀H,aU K H b.ea [.int 2]
theorem iO.spots {K:PySem.W.Frag} {pr:Params} {mg:Str→Option Value} {b:kI} (U:iO K pr mg b) (f:au) (H:Hp) (e:Addr) (he:aU K H e []):
  ∃r p,(f.word,r)∈da b∧r.getD (.ref e)=.ref p∧aU K H p (f.spots.map fun(n:Nat)=>V.int (n:Int)):=by
 cases f with
 | same t u=>exact⟨none,e,by simp[da,au.word],rfl,he⟩
 | less t u=>exact⟨none,e,by simp[da,au.word],rfl,he⟩
 | sign a t s=>exact⟨none,e,by simp[da,au.word],rfl,he⟩
 | alike a t c u=>exact⟨none,e,by simp[da,au.word],rfl,he⟩
 | no f=>exact⟨some (.ref b.no),b.no,by simp[da,au.word],rfl,U.no H⟩
 | and f g=>exact⟨some (.ref b.an),b.an,by simp[da,au.word],rfl,U.an H⟩
 | or f g=>exact⟨some (.ref b.or),b.or,by simp[da,au.word],rfl,U.or H⟩
 | some n f=>exact⟨some (.ref b.so),b.so,by simp[da,au.word],rfl,U.so H⟩
 | each n f=>exact⟨some (.ref b.ea),b.ea,by simp[da,au.word],rfl,U.ea H⟩
theorem aS {K:PySem.W.Frag} {H:Hp} {xs:List V} {d:Dt} {ds:List Dt} (h:ay K H xs (d::ds)):∃y ys,xs=y::ys∧aq K H y d∧ay K H ys ds:=by
 cases xs with
 | nil=>simp[ay] at h
 | cons y ys=>rw[ay] at h;exact⟨y,ys,rfl,h.1,h.2⟩
theorem gk {K:PySem.W.Frag} {H:Hp} {x:V} {ds:List Dt} (h:aq K H x (.tup ds)):∃a xs,x=.ref a∧aU K H a xs∧ay K H xs ds:=by rw[aq] at h;exact h
theorem au.isTup (f:au):∃ds,f.dt=.tup (.str f.word::ds):=by
 cases f<;>exact⟨_,rfl⟩
theorem JG {K:PySem.W.Frag} {H:Hp} {x:V} (f:au) (h:aq K H x f.dt):∃a xs,x=.ref a∧aU K H a xs∧xs[0]? =some (.str f.word)∧
  ∀(i n:Nat),f.spots[i]? =some n→∃y g,xs[n]? =some y∧f.inner[i]? =some g∧aq K H y g.dt:=by
 obtain⟨ds,e⟩:=f.isTup
 have h':=h
 rw[e] at h'
 obtain⟨a,xs,rfl,hq,hd⟩:=gk h'
 obtain⟨y0,ys,rfl,h0,hd1⟩:=aS hd
 clear hd
 refine⟨a,_,rfl,hq,by rw[aq] at h0;rw[h0];rfl,?_⟩
 have one:∀{i n m:Nat},([m]:List Nat)[i]? =some n→i=0∧n=m:=fun {i n m} z=>by
  cases i with
  | zero=>simp at z;exact⟨rfl,z.symm⟩
  | succ i=>simp at z
 have two:∀{i n m k:Nat},([m,k]:List Nat)[i]? =some n→(i=0∧n=m)∨(i=1∧n=k):=fun {i n m k} z=>by
  match i with
  | 0=>simp at z;exact .inl ⟨rfl,z.symm⟩
  | 1=>simp at z;exact .inr ⟨rfl,z.symm⟩
  | i+2=>simp at z
 cases f with
 | same t u=>intro i n z;simp[au.spots] at z
 | less t u=>intro i n z;simp[au.spots] at z
 | sign b t s=>intro i n z;simp[au.spots] at z
 | alike b t c u=>intro i n z;simp[au.spots] at z
 | no f=>
  cases e
  obtain⟨y1,ys,rfl,h1,_⟩:=aS hd1
  intro i n z
  obtain⟨rfl,rfl⟩:=one z
  exact⟨y1,f,rfl,rfl,h1⟩
 | and f g=>
  cases e
  obtain⟨y1,ys,rfl,h1,hd2⟩:=aS hd1
  obtain⟨y2,ys,rfl,h2,_⟩:=aS hd2
  intro i n z
  rcases two z with⟨rfl,rfl⟩ | ⟨rfl,rfl⟩
  ·exact⟨y1,f,rfl,rfl,h1⟩
  ·exact⟨y2,g,rfl,rfl,h2⟩
 | or f g=>
  cases e
  obtain⟨y1,ys,rfl,h1,hd2⟩:=aS hd1
  obtain⟨y2,ys,rfl,h2,_⟩:=aS hd2
  intro i n z
  rcases two z with⟨rfl,rfl⟩ | ⟨rfl,rfl⟩
  ·exact⟨y1,f,rfl,rfl,h1⟩
  ·exact⟨y2,g,rfl,rfl,h2⟩
 | some m f=>
  cases e
  obtain⟨y1,ys,rfl,h1,hd2⟩:=aS hd1
  obtain⟨y2,ys,rfl,h2,_⟩:=aS hd2
  intro i n z
  obtain⟨rfl,rfl⟩:=one z
  exact⟨y2,f,rfl,rfl,h2⟩
 | each m f=>
  cases e
  obtain⟨y1,ys,rfl,h1,hd2⟩:=aS hd1
  obtain⟨y2,ys,rfl,h2,_⟩:=aS hd2
  intro i n z
  obtain⟨rfl,rfl⟩:=one z
  exact⟨y2,f,rfl,rfl,h2⟩
theorem uv (f:au):f.spots.length=f.inner.length:=by cases f<;>rfl
theorem gm (f:au):f.inner.length≤2:=by cases f<;>simp[au.inner]
theorem Aw (f g:au) (h:g∈f.inner):g.deep<f.deep:=by
 cases f with
 | no f=>
  have:g=f:=by simpa[au.inner] using h
  subst this;simp[au.deep]
 | and f1 f2=>
  have:g=f1∨g=f2:=by simpa[au.inner] using h
  rcases this with rfl | rfl<;>simp only[au.deep]<;>omega
 | or f1 f2=>
  have:g=f1∨g=f2:=by simpa[au.inner] using h
  rcases this with rfl | rfl<;>simp only[au.deep]<;>omega
 | some n f=>
  have:g=f:=by simpa[au.inner] using h
  subst this;simp[au.deep]
 | each n f=>
  have:g=f:=by simpa[au.inner] using h
  subst this;simp[au.deep]
 | _=>simp[au.inner] at h
theorem xC:∀fs:List au,Dt.gH (fs.map au.dt)=true
 | []=>by simp[Dt.gH]
 | f::fs=>by rw[List.map_cons,Dt.gH,xC fs,f.gg];rfl
def sf (K:PySem.W.Frag):Sp:=fun vs H Q _=>∃(x:V) (f:au),vs=[x]∧aq K H x f.dt∧∀(D:Addr) (xs:List V) (H':Hp),H D=none→Same H H'→H' D=some (.lst xs)→ay K H' xs (f.inner.map au.dt)→Q (.ref D) H'
theorem sj:aO ["saying"] ["saying"] (ah cI):=⟨rfl,rfl,rfl,by decide+kernel,rfl,by decide+kernel,by decide+kernel⟩
theorem lF {a:bR} {b:kI} (T:Txt K mg a) (U:iO K w.params mg b):aQ P w K mg base bj 1 a.dw a.d9 ["saying"] (sf K):=by
 refine T.uJ.ok sj (fun vs H Q E h=>?_) (fun cdv A outer s H vs Q E hr h=>?_)
 ·obtain⟨x,f,rfl,_⟩:=h
  rfl
 ·obtain⟨x,f,rfl,hf,k⟩:=h
  obtain⟨a,xs,rfl,hq,h0,hsp⟩:=JG f hf
  refine⟨_,(av (aK (ck (aF.mk' (esc:=ah cI) (N:=["saying"]) (own:=["spot"]) (aB:=["saying"]) (bE:=[0]) rfl rfl (by decide+kernel)) rfl (iR (t5 U.JF rfl U.JE (aL (aJ K) (pv 0) ao (fun _ _=>rfl)) (bo ag))) (fun _ _ _ _=>(aI (i:=0) (show List.Nodup (["spot","saying"]:List Str) by decide+kernel) rfl (Or.inl rfl))) (fun _ _ _ _=>bL) (fun _ _ _ _=>(aL (aJ K) (pv 1) (pv 0) (fun _ _=>rfl)))))),?_⟩
  refine⟨_,rfl,a,xs,0,.str f.word,rfl,rfl,hq,aD (j:=0) h0,by decide,fun e he=>?_⟩
  have s1:=Same.new (o:=.tup []) he
  obtain⟨r,p,hr1,hr2,zk⟩:=U.spots f (upd H e (.tup [])) e (.of af)
  refine⟨f.word,r,rfl,hr1,p,hr2,⟨_,zk⟩,fun C hC=>?_⟩
  refine ie (xs:=f.spots.map fun(n:Nat)=>V.int (n:Int)) (fun i σ H'=>∃(ys:List V) (v:Option V),σ=[v,some (.ref a)]∧Same (upd H e (.tup [])) H'∧H' C=some (.lst ys)∧ay K H' ys ((f.inner.take i).map au.dt)∧ys.length=i)
   ⟨[],none,rfl,Same.new hC,af,eS,rfl⟩ (fun i σ H' _ ⟨_,_,_,h,_⟩=>h.pN zk) ?_ ?_
  ·rintro i y σ H1 hy ⟨ys,v,rfl,s2,e2,Fu,ly⟩
   rw[List.getElem?_map] at hy
   cases en:f.spots[i]? with
   | none=>rw[en] at hy;cases hy
   | some n=>
    rw[en] at hy
    have ey:y=.int (n:Int):=(Option.some.inj hy).symm
    subst ey
    obtain⟨z,g,hz,hg,CM⟩:=hsp i n en
    have kt:h9 K H H1:=(s1.trans s2).kts
    refine⟨_,rfl,_,rfl,a,xs,_,z,rfl,rfl,kt _ _ hq,aD hz,ys,e2,?_,ys++[z],_,rfl,s2.kbn hC KB.write,af,?_,?_⟩
    ·have:i<f.spots.length:=(List.getElem?_eq_some_iff.mp en).1
     have h2:=gm f
     rw[uv] at this
     exact Nat.lt_of_lt_of_le (show ys.length<10 by omega) (by decide)
    ·have e1:f.inner.take (i+1)=f.inner.take i++[g]:=by rw[List.take_add_one,hg];rfl
     rw[e1,List.map_append]
     have kk:h9 K H1 (upd H1 C (.lst (ys++[z]))):=KB.kts e2 KB.write
     exact wg (t6 kk _ _ (xC _) Fu) (bY (eQ (kt.trans kk) _ _ g.gg CM) eS)
    ·rw[List.length_append,ly];rfl
  ·rintro σ H1 ⟨ys,v,rfl,s2,e2,Fu,ly⟩
   rw[List.length_map,uv,List.take_length] at Fu
   exact k C ys H1 (s1.free hC) (s1.trans s2) e2 Fu
def au.terms:au→List Term
 | .same t u=>[t,u] | .less t u=>[t,u] | .sign _ t _=>[t] | .alike _ t _ u=>[t,u] | _=>[]
def au.gn:au→List Nat
 | .same _ _=>[1,2] | .less _ _=>[1,2] | .sign _ _ _=>[2] | .alike _ _ _ _=>[2,4] | _=>[]
def jh (t:Term):List Str:=t.parts.map (·.1)
def au.gq (f:au):List Str:=f.terms.flatMap jh
def au.binds:au→Option Str
 | .some n _=>Option.some n | .each n _=>Option.some n | _=>Option.none
def au.Free:au→Str→Prop
 | .same t u,y=>y∈jh t∨y∈jh u
 | .less t u,y=>y∈jh t∨y∈jh u
 | .sign _ t _,y=>y∈jh t
 | .alike _ t _ u,y=>y∈jh t∨y∈jh u
 | .no f,y=>f.Free y
 | .and f g,y=>f.Free y∨g.Free y
 | .or f g,y=>f.Free y∨g.Free y
 | .some n f,y=>f.Free y∧y≠n
 | .each n f,y=>f.Free y∧y≠n
theorem xD (f:au) (y:Str):f.Free y↔(y∈f.gq∨∃g∈f.inner,g.Free y)∧f.binds≠some y:=by
 cases f<;>simp[au.Free,au.gq,au.terms,au.inner,au.binds]
 all_goals (intro _;constructor<;>(intro h e;exact h e.symm))
theorem my {ss:List Str} {f:au} (h:f.Over ss):∀t∈f.terms,d_ ss t:=by
 cases f<;>simp[au.Over,au.terms] at h ⊢ <;>first | exact h | skip
theorem rg {ss:List Str} {f:au} (h:f.Over ss):∀g∈f.inner,g.Over ss:=by
 cases f<;>simp[au.Over,au.inner] at h ⊢ <;>first | exact h | skip
theorem jU {ss:List Str} {t:Term} (h:d_ ss t) {y:Str} (hy:y∈jh t):y∈ss:=by
 obtain⟨q,hq,rfl⟩:=List.mem_map.mp hy
 exact h.2 q hq
theorem fV {ss:List Str} {y:Str}:∀{f:au},f.Over ss→f.Free y→y∈ss
 | .same t u,h,hf=>hf.elim (jU h.1) (jU h.2)
 | .less t u,h,hf=>hf.elim (jU h.1) (jU h.2)
 | .sign _ t _,h,hf=>jU (show d_ ss t from h) hf
 | .alike _ t _ u,h,hf=>hf.elim (jU h.1) (jU h.2)
 | .no f,h,hf=>fV (f:=f) h hf
 | .and f g,h,hf=>hf.elim (fV h.1) (fV h.2)
 | .or f g,h,hf=>hf.elim (fV h.1) (fV h.2)
 | .some n f,h,hf=>fV (f:=f) h hf.1
 | .each n f,h,hf=>fV (f:=f) h hf.1
structure cR (ks:List Str) (f:au):Prop where
 sorted:PyProof.Rows.sortedS ks=true
 once:ks.Nodup
 mem:∀y,y∈ks↔f.Free y
theorem cR.uniq {ks ls:List Str} {f:au} (h:cR ks f) (g:cR ls f):ks=ls:=o9 h.sorted g.sorted h.once g.once fun y=>(h.mem y).trans (g.mem y).symm
theorem cR.len {ks ss:List Str} {f:au} (h:cR ks f) (o:f.Over ss):ks.length≤ss.length:=iW h.once fun y hy=>fV o ((h.mem y).mp hy)
theorem px (f:au):f.terms.length≤2:=by cases f<;>simp[au.terms]
theorem Ax (f:au):f.gn.length=f.terms.length:=by cases f<;>rfl
theorem mB {ss:List Str}:∀{ts:List Term},(∀t∈ts,d_ ss t)→(ts.flatMap jh).length≤3*ts.length
 | [],_=>Nat.zero_le _
 | t::ts,h=>by
  rw[List.flatMap_cons,List.length_append,List.length_cons,jh,List.length_map]
  have h1:=(h t List.mem_cons_self).1
  have h2:=mB (ts:=ts) fun u hu=>h u (List.mem_cons_of_mem _ hu)
  omega
theorem xE {ss:List Str} {f:au} (h:f.Over ss):f.gq.length≤6:=by
 have h1:=mB (my h)
 have h2:=px f
 unfold au.gq
 omega
structure mC where
 d:Addr
 sa:Addr
 le:Addr
 si:Addr
 al:Addr
def dc (b:mC):List (Str×Option V):=
 [("same",some (.ref b.sa)),("less",some (.ref b.le)),("sign",some (.ref b.si)),("alike",some (.ref b.al)),("not",none),("and",none),("or",none),("some",none),("each",none)]
structure jo (K:PySem.W.Frag) (pr:Params) (mg:Str→Option Value) (b:mC):Prop where
 JH:mg "TERM_SPOTS"=some (.ref b.d)
 JI:kX K pr b.d (dc b)
 sa:∀H,aU K H b.sa [.int 1,.int 2]
 le:∀H,aU K H b.le [.int 1,.int 2]
 si:∀H,aU K H b.si [.int 2]
 al:∀H,aU K H b.al [.int 2,.int 4]
theorem jo.spots {K:PySem.W.Frag} {pr:Params} {mg:Str→Option Value} {b:mC} (U:jo K pr mg b) (f:au) (H:Hp) (e:Addr) (he:aU K H e []):
  ∃r p,(f.word,r)∈dc b∧r.getD (.ref e)=.ref p∧aU K H p (f.gn.map fun(n:Nat)=>V.int (n:Int)):=by
 cases f with
 | same t u=>exact⟨some (.ref b.sa),b.sa,by simp[dc,au.word],rfl,U.sa H⟩
 | less t u=>exact⟨some (.ref b.le),b.le,by simp[dc,au.word],rfl,U.le H⟩
 | sign a t s=>exact⟨some (.ref b.si),b.si,by simp[dc,au.word],rfl,U.si H⟩
 | alike a t c u=>exact⟨some (.ref b.al),b.al,by simp[dc,au.word],rfl,U.al H⟩
 | no f=>exact⟨none,e,by simp[dc,au.word],rfl,he⟩
 | and f g=>exact⟨none,e,by simp[dc,au.word],rfl,he⟩
 | or f g=>exact⟨none,e,by simp[dc,au.word],rfl,he⟩
 | some n f=>exact⟨none,e,by simp[dc,au.word],rfl,he⟩
 | each n f=>exact⟨none,e,by simp[dc,au.word],rfl,he⟩
theorem uw {K:PySem.W.Frag} {H:Hp} {x:V} (f:au) (h:aq K H x f.dt):∃a xs,x=.ref a∧aU K H a xs∧xs[0]? =some (.str f.word)∧
  (∀(i n:Nat),f.gn[i]? =some n→∃y t,xs[n]? =some y∧f.terms[i]? =some t∧aq K H y t.dt)∧∀n,f.binds=some n→xs[1]? =some (.str n):=by
 obtain⟨ds,e⟩:=f.isTup
 have h':=h
 rw[e] at h'
 obtain⟨a,xs,rfl,hq,hd⟩:=gk h'
 obtain⟨y0,ys,rfl,h0,hd1⟩:=aS hd
 clear hd
 refine⟨a,_,rfl,hq,by rw[aq] at h0;rw[h0];rfl,?_⟩
 have one:∀{i n m:Nat},([m]:List Nat)[i]? =some n→i=0∧n=m:=fun {i n m} z=>by
  cases i with
  | zero=>simp at z;exact⟨rfl,z.symm⟩
  | succ i=>simp at z
 have two:∀{i n m k:Nat},([m,k]:List Nat)[i]? =some n→(i=0∧n=m)∨(i=1∧n=k):=fun {i n m k} z=>by
  match i with
  | 0=>simp at z;exact .inl ⟨rfl,z.symm⟩
  | 1=>simp at z;exact .inr ⟨rfl,z.symm⟩
  | i+2=>simp at z
 have nb:∀{P:Prop} {n:Str},(Option.none:Option Str)=some n→P:=fun z=>nomatch z
 cases f with
 | same t u=>
  cases e
  obtain⟨y1,ys,rfl,h1,hd2⟩:=aS hd1
  obtain⟨y2,ys,rfl,h2,_⟩:=aS hd2
  refine⟨fun i n z=>?_,fun n z=>nb z⟩
  rcases two z with⟨rfl,rfl⟩ | ⟨rfl,rfl⟩
  ·exact⟨y1,t,rfl,rfl,h1⟩
  ·exact⟨y2,u,rfl,rfl,h2⟩
 | less t u=>
  cases e
  obtain⟨y1,ys,rfl,h1,hd2⟩:=aS hd1
  obtain⟨y2,ys,rfl,h2,_⟩:=aS hd2
  refine⟨fun i n z=>?_,fun n z=>nb z⟩
  rcases two z with⟨rfl,rfl⟩ | ⟨rfl,rfl⟩
  ·exact⟨y1,t,rfl,rfl,h1⟩
  ·exact⟨y2,u,rfl,rfl,h2⟩
 | sign b t s=>
  cases e
  obtain⟨y1,ys,rfl,h1,hd2⟩:=aS hd1
  obtain⟨y2,ys,rfl,h2,_⟩:=aS hd2
  refine⟨fun i n z=>?_,fun n z=>nb z⟩
  obtain⟨rfl,rfl⟩:=one z
  exact⟨y2,t,rfl,rfl,h2⟩
 | alike b t c u=>
  cases e
  obtain⟨y1,ys,rfl,h1,hd2⟩:=aS hd1
  obtain⟨y2,ys,rfl,h2,T6⟩:=aS hd2
  obtain⟨y3,ys,rfl,h3,T7⟩:=aS T6
  obtain⟨y4,ys,rfl,h4,_⟩:=aS T7
  refine⟨fun i n z=>?_,fun n z=>nb z⟩
  rcases two z with⟨rfl,rfl⟩ | ⟨rfl,rfl⟩
  ·exact⟨y2,t,rfl,rfl,h2⟩
  ·exact⟨y4,u,rfl,rfl,h4⟩
 | no f=>exact⟨fun i n z=>by simp[au.gn] at z,fun n z=>nb z⟩
 | and f g=>exact⟨fun i n z=>by simp[au.gn] at z,fun n z=>nb z⟩
 | or f g=>exact⟨fun i n z=>by simp[au.gn] at z,fun n z=>nb z⟩
 | some m f=>
  cases e
  obtain⟨y1,ys,rfl,h1,hd2⟩:=aS hd1
  refine⟨fun i n z=>by simp[au.gn] at z,fun n z=>?_⟩
  have z':m=n:=Option.some.inj z
  rw[aq] at h1
  rw[←z',h1];rfl
 | each m f=>
  cases e
  obtain⟨y1,ys,rfl,h1,hd2⟩:=aS hd1
  refine⟨fun i n z=>by simp[au.gn] at z,fun n z=>?_⟩
  have z':m=n:=Option.some.inj z
  rw[aq] at h1
  rw[←z',h1];rfl
theorem G9 {K:PySem.W.Frag} {H:Hp} {x:V} {t:Term} (h:aq K H x t.dt):∃a p ys,x=.ref a∧aU K H a [.int t.num,.ref p]∧aU K H p ys∧ay K H ys (t.parts.map jT):=by
 obtain⟨a,xs,rfl,hq,hd⟩:=gk (show aq K H x (.tup [.int t.num,.tup (t.parts.map jT)]) from h)
 obtain⟨y0,ys,rfl,h0,hd1⟩:=aS hd
 obtain⟨y1,ys,rfl,h1,hd2⟩:=aS hd1
 have e:ys=[]:=by
  have:=hd2.length
  simpa using this
 subst e
 rw[aq] at h0
 subst h0
 obtain⟨p,zs,rfl,hp,hz⟩:=gk h1
 exact⟨a,p,zs,rfl,hq,hp,hz⟩
theorem EC {K:PySem.W.Frag} {H:Hp} {x:V} {p:Str×Int} (h:aq K H x (jT p)):∃a,x=.ref a∧aU K H a [.str p.1,.int p.2]:=by
 obtain⟨a,xs,rfl,hq,hd⟩:=gk (show aq K H x (.tup [.str p.1,.int p.2]) from h)
 obtain⟨y0,ys,rfl,h0,hd1⟩:=aS hd
 obtain⟨y1,ys,rfl,h1,hd2⟩:=aS hd1
 have e:ys=[]:=by
  have:=hd2.length
  simpa using this
 subst e
 rw[aq] at h0
 rw[aq] at h1
 subst h0 h1
 exact⟨a,rfl,hq⟩
theorem dJ {α:Type} {xs:List α} {i:Nat} {x:α} (h:xs[i]? =some x):xs.take (i+1)=xs.take i++[x]:=by rw[List.take_add_one,h];rfl
def pz (K:PySem.W.Frag):Sp:=fun vs H Q _=>∃(x:V) (f:au) (ss:List Str),vs=[x]∧aq K H x f.dt∧f.Over ss∧∀(D:Addr) (H':Hp),H D=none→Same H H'→H' D=some (.lst (f.gq.map V.str))→Q (.ref D) H'
theorem ja:aO ["saying","names","spot"] ["saying"] (ah dg):=⟨rfl,rfl,rfl,by decide+kernel,rfl,by decide+kernel,by decide+kernel⟩
theorem ve {a:bR} {b:mC} (T:Txt K mg a) (Y:jo K w.params mg b):aQ P w K mg base bj 1 a.fG a.gx ["saying"] (pz K):=by
 refine T.wV.ok ja (fun vs H Q E h=>?_) (fun cdv A outer s H vs Q E hr h=>?_)
 ·obtain⟨x,f,ss,rfl,_⟩:=h
  rfl
 ·obtain⟨x,f,ss,rfl,hf,ov,k⟩:=h
  obtain⟨a,xs,rfl,hq,h0,hsp,_⟩:=uw f hf
  refine⟨_,(ai (az (i:=1) ja.nd rfl (Or.inl rfl) (cD ag))
  (ai (dD PassesOwn.never rfl (iR (t5 Y.JI rfl Y.JH (aL (aJ K) (pv 0) ao (fun _ _=>rfl)) (bo ag))) (aI (i:=2) ja.nd rfl (Or.inl rfl))
   (av (cX (eO PySem.F.plainAttrs_list PySem.F.slot_list_extend PySem.F.type_list_extend nr (pv 1) (ae (ck (aF.mk' (esc:=ah dg) (N:=["saying","names","spot"]) (own:=["part"]) (aB:=[]) (bE:=[]) rfl rfl (by decide+kernel)) rfl (iR (aL (aJ K) (aL (aJ K) (pv 0) (pv 2) (fun _ _=>rfl)) ao (fun _ _=>rfl))) (fun _ _ _ _=>(aI (i:=0) (show List.Nodup (["part"]:List Str) by decide+kernel) rfl (Or.inl rfl))) (fun _ _ _ _=>bL) (fun _ _ _ _=>(aL (aJ K) (pv 0) ao (fun _ _=>rfl)))) ag)))))
  (av (aK (pv 1))))),?_⟩
  refine⟨by decide,fun N hN=>?_⟩
  have sN:=Same.new (o:=.lst []) hN
  refine⟨_,rfl,a,xs,0,.str f.word,rfl,rfl,sN.pN hq,aD (j:=0) h0,by decide,fun e he=>?_⟩
  have s1:=sN.trans (Same.new (o:=.tup []) he)
  obtain⟨r,p,hr1,hr2,zk⟩:=Y.spots f (upd (upd H N (.lst [])) e (.tup [])) e (.of af)
  have Fv:(upd (upd H N (.lst [])) e (.tup [])) N=some (.lst []):=(Same.new (o:=.tup []) he) _ _ af
  generalize upd (upd H N (.lst [])) e (.tup [])=H1 at s1 zk Fv ⊢
  refine⟨f.word,r,rfl,hr1,p,hr2,⟨_,zk⟩,yC (xs:=f.gn.map fun(n:Nat)=>V.int (n:Int)) (fun i σ H'=>∃v2:Option V,σ=[some (.ref a),some (.ref N),v2]∧KB N H1 H'∧H' N=some (.lst (((f.terms.take i).flatMap jh).map V.str)))
   ⟨none,rfl,KB.refl _ _,Fv⟩ (fun i σ H' _ ⟨_,_,h,e⟩=>(KB.kts Fv h) _ _ zk) ?_ ?_⟩
  ·rintro i y σ H2 hy ⟨v2,rfl,k2,eN⟩
   rw[List.getElem?_map] at hy
   cases en:f.gn[i]? with
   | none=>rw[en] at hy;cases hy
   | some n=>
    rw[en] at hy
    have ey:y=.int (n:Int):=(Option.some.inj hy).symm
    subst ey
    obtain⟨z,t,hz,ht,CM⟩:=hsp i n en
    have kt:h9 K H H2:=s1.kts.trans (KB.kts Fv k2)
    obtain⟨ta,pa,ys,rfl,q1,q2,q3⟩:=G9 (eQ kt _ _ t.gg CM)
    have to:=my ov t (List.mem_of_getElem? ht)
    refine⟨_,rfl,.inl ⟨rfl,_,.of eN⟩,_,rfl,_,rfl,a,xs,_,_,rfl,rfl,kt _ _ hq,aD hz,ta,_,_,_,rfl,rfl,q1,aD (j:=1) (v:=.ref pa) rfl,pa,rfl,⟨_,q2⟩,fun C hC=>?_⟩
    have T5:N≠C:=aj eN hC
    refine ie (xs:=ys) (fun j σ H'=>∃v:Option V,σ=[v]∧Same H2 H'∧H' C=some (.lst (((t.parts.take j).map (·.1)).map V.str)))
     ⟨none,?sg,Same.new hC,af⟩ (fun j σ H' _ ⟨_,_,s,_⟩=>s.pN q2) ?_ ?_
    case sg=>rfl
    ·rintro j y σ H3 hy ⟨v,rfl,s3,eC⟩
     obtain⟨d,ed,hd⟩:=q3.get hy
     rw[List.getElem?_map] at ed
     cases ep:t.parts[j]? with
     | none=>rw[ep] at ed;cases ed
     | some pp=>
      rw[ep] at ed
      have ed':jT pp=d:=Option.some.inj ed
      subst ed'
      obtain⟨qa,rfl,T9⟩:=EC hd
      refine⟨_,rfl,qa,_,_,_,rfl,rfl,s3.pN T9,aD (j:=0) (v:=.str pp.1) rfl,_,eC,?_,_,rfl,s3.kbn hC KB.write,?_⟩
      ·rw[List.length_map,List.length_map,List.length_take]
       exact Nat.lt_of_le_of_lt (show min j t.parts.length≤3 by have:=to.1;omega) (by decide)
      ·rw[af,dJ ep,List.map_append,List.map_append];rfl
    rintro σ H3 ⟨v,rfl,s3,eC⟩
    have ly:ys.length=t.parts.length:=by rw[q3.length,List.length_map]
    rw[ly,List.take_length] at eC
    have zl:=s3 _ _ eN
    have hl1:=mB (ts:=f.terms.take i) fun u hu=>my ov u (List.mem_of_mem_take hu)
    have hl2:(f.terms.take i).length≤2:=by rw[List.length_take];have:=px f;omega
    refine⟨N,C,_,_,rfl,rfl,zl,eC,?_,_,rfl,(k2.trans s3.kb).trans KB.write,?_⟩
    ·rw[List.length_map,List.length_map,List.length_map]
     exact Nat.le_trans (show _≤20 by have:=to.1;omega) (by decide)
    ·rw[af,dJ ht,List.flatMap_append,List.map_append]
     simp[jh]
  ·rintro σ H2 ⟨v2,rfl,k2,eN⟩
   rw[List.length_map,Ax,List.take_length] at eN
   exact⟨_,rfl,k N H2 hN (s1.kbn hN k2) eN⟩
def bZ (ns:List Nat):List V:=ns.map fun(n:Nat)=>V.int (n:Int)
def au.at :au→List Nat→Option au
 | f,[]=>Option.some f
 | f,n::ns=>(f.inner[n]?).bind fun g=>g.at ns
theorem CN:∀(ns:List Nat) (f g h:au) (k:Nat),f.at ns=some g→g.inner[k]? =some h→f.at (ns++[k])=some h
 | [],f,g,h,k,e,e2=>by
  have e':f=g:=Option.some.inj e
  subst e'
  show(f.inner[k]?).bind (fun g=>g.at [])=some h
  rw[e2];rfl
 | n::ns,f,g,h,k,e,e2=>by
  have e':(f.inner[n]?).bind (fun g=>g.at ns)=some g:=e
  obtain⟨u,eu,ea⟩:=Option.bind_eq_some_iff.mp e'
  show(f.inner[n]?).bind (fun g=>g.at (ns++[k]))=some h
  rw[eu]
  exact CN ns u g h k ea e2
def au.size:au→Nat
 | .no f=>f.size+1 | .and f g=>f.size+g.size+1 | .or f g=>f.size+g.size+1 | .some _ f=>f.size+1 | .each _ f=>f.size+1 | _=>1
theorem size_inner (f:au):(f.inner.map au.size).sum+1=f.size:=by cases f<;>simp[au.inner,au.size]
theorem eK:∀f:au,f.size+1≤2 ^ (f.deep+1)
 | .same _ _=>by simp[au.size,au.deep]
 | .less _ _=>by simp[au.size,au.deep]
 | .sign _ _ _=>by simp[au.size,au.deep]
 | .alike _ _ _ _=>by simp[au.size,au.deep]
 | .no f=>by
  have:=eK f
  simp only[au.size,au.deep]
  rw[Nat.pow_succ]
  omega
 | .and f g=>by
  have h1:=eK f
  have h2:=eK g
  have a1:=Nat.pow_le_pow_right (n:=2) (by decide) (show f.deep+1≤max f.deep g.deep+1 by omega)
  have a2:=Nat.pow_le_pow_right (n:=2) (by decide) (show g.deep+1≤max f.deep g.deep+1 by omega)
  simp only[au.size,au.deep]
  rw[Nat.pow_succ 2 (max f.deep g.deep+1)]
  omega
 | .or f g=>by
  have h1:=eK f
  have h2:=eK g
  have a1:=Nat.pow_le_pow_right (n:=2) (by decide) (show f.deep+1≤max f.deep g.deep+1 by omega)
  have a2:=Nat.pow_le_pow_right (n:=2) (by decide) (show g.deep+1≤max f.deep g.deep+1 by omega)
  simp only[au.size,au.deep]
  rw[Nat.pow_succ 2 (max f.deep g.deep+1)]
  omega
 | .some n f=>by
  have:=eK f
  simp only[au.size,au.deep]
  rw[Nat.pow_succ]
  omega
 | .each n f=>by
  have:=eK f
  simp only[au.size,au.deep]
  rw[Nat.pow_succ]
  omega
abbrev Ent:=List Nat×au
def kids (ns:List Nat):Nat→List au→List Ent
 | _,[]=>[]
 | k,h::t=>(ns++[k],h)::kids ns (k+1) t
theorem oU (ns:List Nat):∀(l:List au) (k i:Nat),(kids ns k l)[i]? =(l[i]?).map fun h=>(ns++[k+i],h)
 | [],k,i=>by simp[kids]
 | h::t,k,0=>rfl
 | h::t,k,i+1=>by
  rw[kids,List.getElem?_cons_succ,List.getElem?_cons_succ,oU ns t (k+1) i,show k+1+i=k+(i+1) by omega]
theorem qb (ns:List Nat):∀(l:List au) (k:Nat),(kids ns k l).length=l.length
 | [],_=>rfl
 | h::t,k=>by rw[kids,List.length_cons,qb ns t,List.length_cons]
theorem xF (ns:List Nat):∀(l:List au) (k:Nat),((kids ns k l).map fun e=>e.2.size).sum=(l.map au.size).sum
 | [],_=>rfl
 | h::t,k=>by rw[kids,List.map_cons,List.map_cons,List.sum_cons,List.sum_cons,xF ns t]
def qc (K:PySem.W.Frag) (H:Hp) (q:Addr) (e:Ent):Prop:=∃pl y,H q=some (.tup [.ref pl,y])∧H pl=some (.tup (bZ e.1))∧aq K H y e.2.dt
theorem qc.keep {K:PySem.W.Frag} {H H':Hp} {q:Addr} {e:Ent} (h:qc K H q e) (k:aZ H H') (ks:h9 K H H'):qc K H' q e:=by
 obtain⟨pl,y,h1,h2,h3⟩:=h
 exact⟨pl,y,k _ _ h1,k _ _ h2,eQ ks _ _ e.2.gg h3⟩
abbrev bK (K:PySem.W.Frag) (H:Hp):List Addr→List Ent→Prop:=Paired (qc K H)
theorem bK.keep {K:PySem.W.Frag} {H H':Hp} (k:aZ H H') (ks:h9 K H H'):∀{qs:List Addr} {es:List Ent},bK K H qs es→bK K H' qs es
 | _,_,.nil=>.nil
 | _,_,.cons h t=>.cons (h.keep k ks) (bK.keep k ks t)
theorem oW {K:PySem.W.Frag} {H:Hp} {qs rs:List Addr} {es ds:List Ent} (a:bK K H qs es) (b:bK K H rs ds):bK K H (qs++rs) (es++ds):=bw a b
theorem zm {K:PySem.W.Frag} {H:Hp}:∀{qs:List Addr} {es:List Ent} {i:Nat} {q:Addr},bK K H qs es→qs[i]? =some q→∃e,es[i]? =some e∧qc K H q e
 | _,_,_,_,.nil,h=>by simp at h
 | _,_,0,_,.cons a _,h=>by simp at h;subst h;exact⟨_,rfl,a⟩
 | _,_,i+1,_,.cons _ t,h=>by
  simp only[List.getElem?_cons_succ] at h ⊢
  exact zm t h
theorem xG {K:PySem.W.Frag} {H:Hp}:∀{qs:List Addr} {es:List Ent},bK K H qs es→qs≠[]→∃Fw q es' e,qs=Fw++[q]∧es=es'++[e]∧bK K H Fw es'∧qc K H q e
 | _,_,.nil,h=>absurd rfl h
 | [q],[e],.cons a .nil,_=>⟨[],q,[],e,rfl,rfl,.nil,a⟩
 | q::q2::qs,e::e2::es,.cons a (.cons b t),_=>by
  obtain⟨Fw,r,es',d,e1,e3,h1,h2⟩:=xG (.cons b t) (by simp)
  exact⟨q::Fw,r,e::es',d,by rw[e1];rfl,by rw[e3];rfl,.cons a h1,h2⟩
structure Ord (f:au) (we fe:List Ent):Prop where
 here:∀e,e∈we∨e∈fe→f.at e.1=some e.2
 kid:∀(i:Nat) (ns:List Nat) (g:au),fe[i]? =some (ns,g)→∀k h,g.inner[k]? =some h→(ns++[k],h)∈we∨∃j,i<j∧fe[j]? =some (ns++[k],h)
 root:([],f)∈we∨([],f)∈fe
theorem Ord.step {f:au} {we fe:List Ent} {ns:List Nat} {g:au} (o:Ord f (we++[(ns,g)]) fe):Ord f (we++kids ns 0 g.inner) (fe++[(ns,g)]) where
 here:=fun e he=>by
  have hg:f.at ns=some g:=o.here (ns,g) (.inl (by simp))
  rcases he with he | he
  ·rcases List.mem_append.mp he with he | he
   ·exact o.here e (.inl (List.mem_append.mpr (.inl he)))
   ·obtain⟨i,hi⟩:=List.getElem?_of_mem he
    rw[oU] at hi
    cases eh:g.inner[i]? with
    | none=>rw[eh] at hi;cases hi
    | some h=>
     rw[eh] at hi
     have hi':(ns++[0+i],h)=e:=Option.some.inj hi
     rw[←hi',Nat.zero_add]
     exact CN ns f g h i hg eh
  ·rcases List.mem_append.mp he with he | he
   ·exact o.here e (.inr he)
   ·rw[List.mem_singleton.mp he];exact hg
 kid:=fun i ms u hi k h hk=>by
  by_cases lt:i<fe.length
  ·rw[List.getElem?_append_left lt] at hi
   rcases o.kid i ms u hi k h hk with z | ⟨j,hj,z⟩
   ·rcases List.mem_append.mp z with z | z
    ·exact .inl (List.mem_append.mpr (.inl z))
    ·refine .inr ⟨fe.length,lt,?_⟩
     rw[List.getElem?_append_right (Nat.le_refl _),Nat.sub_self,List.mem_singleton.mp z];rfl
   ·have hj2:=(List.getElem?_eq_some_iff.mp z).1
    exact .inr ⟨j,hj,by rw[List.getElem?_append_left hj2];exact z⟩
  ·have hl:=(List.getElem?_eq_some_iff.mp hi).1
   rw[List.length_append] at hl
   have hl':i<fe.length+1:=hl
   have e:i=fe.length:=by omega
   subst e
   rw[List.getElem?_append_right (Nat.le_refl _),Nat.sub_self] at hi
   have hi':(ns,g)=(ms,u):=Option.some.inj hi
   cases hi'
   refine .inl (List.mem_append.mpr (.inr (List.mem_of_getElem? (i:=k) ?_)))
   rw[oU,hk,Nat.zero_add];rfl
 root:=by
  rcases o.root with z | z
  ·rcases List.mem_append.mp z with z | z
   ·exact .inl (List.mem_append.mpr (.inl z))
   ·exact .inr (List.mem_append.mpr (.inr z))
  ·exact .inr (List.mem_append.mpr (.inl z))
structure JJ (f:au) (es:List Ent):Prop where
 here:∀e∈es,f.at e.1=some e.2
 kid:∀(i:Nat) (ns:List Nat) (g:au),es[i]? =some (ns,g)→∀k h,g.inner[k]? =some h→∃j,j<i∧es[j]? =some (ns++[k],h)
 root:([],f)∈es
theorem Ord.late {f:au} {fe:List Ent} (o:Ord f [] fe):JJ f fe.reverse where
 here:=fun e he=>o.here e (.inr (List.mem_reverse.mp he))
 kid:=fun i ns g hi k h hk=>by
  have lt:i<fe.length:=by have:=(List.getElem?_eq_some_iff.mp hi).1;rwa [List.length_reverse] at this
  rw[List.getElem?_reverse lt] at hi
  rcases o.kid _ ns g hi k h hk with z | ⟨j,hj,z⟩
  ·cases z
  ·have hj2:=(List.getElem?_eq_some_iff.mp z).1
   refine⟨fe.length-1-j,by omega,?_⟩
   rw[List.getElem?_reverse (by omega),show fe.length-1-(fe.length-1-j)=j by omega]
   exact z
 root:=by
  rcases o.root with z | z
  ·cases z
  ·exact List.mem_reverse.mpr z
theorem zo:∀we:List Ent,we.length≤(we.map fun e=>e.2.size).sum
 | []=>Nat.le_refl _
 | e::we=>by
  have h1:=zo we
  have h2:=size_inner e.2
  rw[List.map_cons,List.sum_cons,List.length_cons]
  omega
theorem zp:∀(ns:List Nat) (f g:au),f.at ns=some g→ns.length+g.deep≤f.deep
 | [],f,g,e=>by
  have e':f=g:=Option.some.inj e
  subst e'
  simp
 | n::ns,f,g,e=>by
  have e':(f.inner[n]?).bind (fun g=>g.at ns)=some g:=e
  obtain⟨u,eu,ea⟩:=Option.bind_eq_some_iff.mp e'
  have h1:=zp ns u g ea
  have h2:=Aw f u (List.mem_of_getElem? eu)
  rw[List.length_cons]
  omega
theorem xH {f g:au} {ns:List Nat} (h:f.deep≤15) (e:f.at ns=some g):ns.length≤15:=by
 have:=zp ns f g e
 omega
theorem zq {K:PySem.W.Frag} {H:Hp}:∀{qs:List Addr} {es:List Ent},bK K H qs es→bK K H qs.reverse es.reverse
 | _,_,.nil=>.nil
 | _,_,.cons a t=>by
  rw[List.reverse_cons,List.reverse_cons]
  exact oW (zq t) (.cons a .nil)
def zr (K:PySem.W.Frag):Sp:=fun vs H Q _=>∃(x:V) (f:au),vs=[x]∧aq K H x f.dt∧f.deep≤15∧
 ∀(D:Addr) (qs:List Addr) (es:List Ent) (H':Hp),H D=none→Same H H'→H' D=some (.lst (qs.map V.ref))→bK K H' qs es→JJ f es→es.length≤100000→Q (.ref D) H'
theorem xI {rs:List Addr} {i:Nat} {x:V} (h:(rs.map V.ref)[i]? =some x):∃r,x=.ref r∧rs[i]? =some r:=by
 rw[List.getElem?_map] at h
 cases e:rs[i]? with
 | none=>rw[e] at h;cases h
 | some r=>rw[e] at h;exact⟨r,(Option.some.inj h).symm,rfl⟩
theorem cm:aO ["saying","waiting","found","pair","number","part"] ["saying"] (ah cz):=⟨rfl,rfl,rfl,by decide+kernel,rfl,by decide+kernel,by decide+kernel⟩
theorem oY {a:bR} {b:kI} (T:Txt K mg a) (U:iO K w.params mg b):aQ P w K mg base bj 2 a.di a.dY ["saying"] (zr K):=by
 have jb:aQ P w K mg base bj 1 a.dw a.d9 ["saying"] (sf K):=lF T U
 refine T.pX.ok cm (fun vs H Q E h=>?_) (fun cdv A outer s H vs Q E hr h=>?_)
 ·obtain⟨x,f,rfl,_⟩:=h
  rfl
 ·obtain⟨x,f,rfl,hf,hdp,k⟩:=h
  have iD:aP 1 _:=hr
  refine⟨_,(ai (az (i:=1) cm.nd rfl (Or.inl rfl) (cD (ae (bo (ae (bo ag) (ae (pv 0) ag))) ag)))
  (ai (az (i:=2) cm.nd rfl (Or.inl rfl) (cD ag))
  (ai (jA PassesOwn.never (jD (pv 1) (fun _=>rfl))
   (ai (az (i:=3) cm.nd rfl (Or.inl rfl) (Bd PySem.F.plainAttrs_list PySem.F.slot_list_pop PySem.F.type_list_pop Be (pv 1)))
   (ai (cX (eO PySem.F.plainAttrs_list PySem.F.slot_list_append PySem.F.type_list_append cV (pv 2) (ae (pv 3) ag)))
   (av (dD PassesOwn.never rfl (Gz rfl T.yr (ae (aC jb iD rfl T.mS T.mT T.mU .nil aR (ae (aL (aJ K) (pv 3) ao (fun _ _=>rfl)) ag)) ag)) (vK rfl (cG (aI (i:=4) cm.nd rfl (Or.inl rfl)) (cG (aI (i:=5) cm.nd rfl (Or.inl rfl)) js)))
    (av (cX (eO PySem.F.plainAttrs_list PySem.F.slot_list_append PySem.F.type_list_append cV (pv 1) (ae (bo (ae (aH (lX K) (aL (aJ K) (pv 3) ao (fun _ _=>rfl)) (bo (ae (pv 4) ag))) (ae (pv 5) ag))) ag)))))))))
  (av (aK (zT K rfl rfl T.qS rfl T.Am (ae (pv 2) ag))))))),?_⟩
  have Ua:f.size≤70000:=by
   have h1:=eK f
   have h2:=Nat.pow_le_pow_right (n:=2) (by decide) (show f.deep+1≤16 by omega)
   have h3:(2:Nat) ^ 16=65536:=by decide
   omega
  refine⟨by decide,fun e0 Ub=>⟨_,rfl,by show 2≤sizeLine;decide,fun q0 hq0=>⟨by show 1≤sizeLine;decide,fun Wt Nm=>?_⟩⟩⟩
  have s0:=Same.new (o:=.tup []) Ub
  have s1:=Same.new (o:=.tup [.ref e0,x]) hq0
  have s2:=Same.new (o:=.lst [.ref q0]) Nm
  refine⟨by decide,fun Fo JK=>?_⟩
  have s3:=Same.new (o:=.lst []) JK
  have eW:=s3 _ _ (af (H:=upd (upd H e0 (.tup [])) q0 (.tup [.ref e0,x])) (a:=Wt) (o:=.lst [.ref q0]))
  have eF:(upd (upd (upd (upd H e0 (.tup [])) q0 (.tup [.ref e0,x])) Wt (.lst [.ref q0])) Fo (.lst [])) Fo=some (.lst []):=af
  have pr:qc K (upd (upd (upd (upd H e0 (.tup [])) q0 (.tup [.ref e0,x])) Wt (.lst [.ref q0])) Fo (.lst [])) q0 ([],f):=
   ⟨e0,x,s3 _ _ (s2 _ _ af),s3 _ _ (s2 _ _ (s1 _ _ af)),eQ (((s0.trans s1).trans s2).trans s3).kts _ _ f.gg hf⟩
  have sA:=((s0.trans s1).trans s2).trans s3
  have JL:Wt≠Fo:=aj af JK
  have hW0:H Wt=none:=(s0.trans s1).free Nm
  have Uc:H Fo=none:=((s0.trans s1).trans s2).free JK
  generalize upd (upd (upd (upd H e0 (.tup [])) q0 (.tup [.ref e0,x])) Wt (.lst [.ref q0])) Fo (.lst [])=H1 at eW eF pr sA ⊢
  refine⟨fun m σ H'=>∃(ws fs:List Addr) (we fe:List Ent) (v3 v4 v5:Option V),σ=[some x,some (.ref Wt),some (.ref Fo),v3,v4,v5]∧Same H H'∧H' Wt=some (.lst (ws.map V.ref))∧H' Fo=some (.lst (fs.map V.ref))∧bK K H' ws we∧bK K H' fs fe∧Ord f we fe∧
    m=(we.map fun e=>e.2.size).sum∧fe.length+(we.map fun e=>e.2.size).sum≤70000,
   ⟨_,[q0],[],[([],f)],[],none,none,none,rfl,sA,eW,eF,.cons pr .nil,.nil,⟨fun e he=>?_,fun i ns g z=>by simp at z,.inl (by simp)⟩,rfl,by simpa using Ua⟩,?_⟩
  ·have e':e=([],f):=by simpa using he
   rw[e'];rfl
  rintro m σ H2 ⟨ws,fs,we,fe,v3,v4,v5,rfl,s2',CO,Nn,pw,pf,od,rfl,hsz⟩
  refine⟨_,rfl, !(ws.map V.ref).isEmpty,.inl ⟨_,.of CO,rfl⟩,?_⟩
  refine bH (fun hne=>?_) (fun hem=>?_)
  ·have Ud:ws≠[]:=fun z=>by subst z;simp at hne
   obtain⟨ws',q,xJ,⟨ns,g⟩,rfl,rfl,pw',pq⟩:=xG pw Ud
   refine⟨fun σ' H'=>∃(ws fs:List Addr) (we fe:List Ent) (v3 v4 v5:Option V),σ'=[some x,some (.ref Wt),some (.ref Fo),v3,v4,v5]∧Same H H'∧H' Wt=some (.lst (ws.map V.ref))∧H' Fo=some (.lst (fs.map V.ref))∧bK K H' ws we∧bK K H' fs fe∧Ord f we fe∧
     (we.map fun e=>e.2.size).sum<((xJ++[(ns,g)]).map fun e=>e.2.size).sum∧fe.length+(we.map fun e=>e.2.size).sum≤70000,
    fun σ' H' ⟨ws,fs,we,fe,v3,v4,v5,a1,a2,a3,a4,a5,a6,a7,a8,a9⟩=>⟨_,a8,ws,fs,we,fe,v3,v4,v5,a1,a2,a3,a4,a5,a6,a7,rfl,a9⟩,?_⟩
   refine⟨_,rfl,.inl ⟨rfl,_,.of CO⟩,Wt,_,.ref q,rfl,rfl,CO,by simp,?_⟩
   have dl:((ws'++[q]).map V.ref).dropLast=ws'.map V.ref:=by rw[List.map_append];simp
   rw[dl]
   have kW:=KB.write (d:=Wt) (H:=H2) (o:=.lst (ws'.map V.ref))
   have JM:=aZ.lst (o:=.lst (ws'.map V.ref)) CO
   have JN:=KB.kts (K:=K) CO kW
   have Np:(upd H2 Wt (.lst (ws'.map V.ref))) Wt=some (.lst (ws'.map V.ref)):=af
   have CP:=kW _ _ Nn JL.symm
   have Nq:=bK.keep JM JN pw'
   have Nr:=bK.keep JM JN pf
   have Nt:=pq.keep JM JN
   have uq:=s2'.kbn hW0 kW
   generalize upd H2 Wt (.lst (ws'.map V.ref))=H3 at Np CP Nq Nr Nt uq ⊢
   have WS:fs.length=fe.length:=Paired.length pf
   refine⟨_,rfl,.inl ⟨rfl,_,.of CP⟩,_,rfl,Fo,_,_,rfl,rfl,CP,?_,?_⟩
   ·rw[List.length_map];exact Nat.lt_of_le_of_lt (show fs.length≤70000 by omega) (by decide)
   have kF:=KB.write (d:=Fo) (H:=H3) (o:=.lst (fs.map V.ref++[.ref q]))
   have JO:=aZ.lst (o:=.lst (fs.map V.ref++[.ref q])) CP
   have JP:=KB.kts (K:=K) CP kF
   have Nu:(upd H3 Fo (.lst (fs.map V.ref++[.ref q]))) Fo=some (.lst ((fs++[q]).map V.ref)):=by rw[af,List.map_append];rfl
   have JQ:=kF _ _ Np JL
   have Nv:=bK.keep JO JP Nq
   have Nw:=bK.keep JO JP Nr
   have JR:=Nt.keep JO JP
   have Nx:=uq.kbn Uc kF
   generalize upd H3 Fo (.lst (fs.map V.ref++[.ref q]))=H4 at Nu JQ Nv Nw JR Nx ⊢
   obtain⟨pl,y,eq,rh,dy⟩:=id JR
   refine⟨_,rfl,q,_,_,_,rfl,rfl,.of eq,aD (j:=1) (v:=y) rfl,y,g,rfl,dy,fun D xs H5 hD s5 eD Fx=>?_⟩
   have CQ:=s5 _ _ JQ
   have Ue:D≠Wt:=(aj JQ hD).symm
   have lx:xs.length=g.inner.length:=by rw[Fx.length,List.length_map]
   have Ny:=gm g
   refine⟨D,rfl,⟨_,.of eD⟩,DF (xs:=xs) (fun i σ H'=>∃(rs:List Addr) (v4 v5:Option V),σ=[some x,some (.ref Wt),some (.ref Fo),some (.ref q),v4,v5]∧KB Wt H5 H'∧H' Wt=some (.lst ((ws'++rs).map V.ref))∧bK K H' rs ((kids ns 0 g.inner).take i))
    ⟨[],_,_,rfl,KB.refl _ _,by rw[List.append_nil];exact CQ,.nil⟩ (fun i σ H' _ ⟨_,_,_,_,h,_⟩=>.of (h _ _ eD Ue)) ?_ ?_⟩
   ·rintro i z pp σ H6 hz ⟨rs,v4,v5,rfl,k6,JS,Fy⟩ hpp
    have sp:=Same.new (o:=.tup [.int i,z]) hpp
    refine⟨pp,_,rfl,.of af,rfl,_,_,rfl,_,_,rfl,rfl,?_⟩
    obtain⟨dz,CS,CM⟩:=Fx.get hz
    rw[List.getElem?_map] at CS
    cases eh:g.inner[i]? with
    | none=>rw[eh] at CS;cases CS
    | some h=>
     rw[eh] at CS
     have Pa:h.dt=dz:=Option.some.inj CS
     subst Pa
     have pj:aZ H5 H6:=aZ.kb CQ k6
     have CT:h9 K H5 H6:=KB.kts CQ k6
     have qd:H6 pl=some (.tup (bZ ns)):=pj _ _ (s5 _ _ rh)
     have Ug:H6 q=some (.tup [.ref pl,y]):=pj _ _ (s5 _ _ eq)
     have JT:=sp _ _ JS
     have JU:=eQ (CT.trans sp.kts) _ _ h.gg CM
     have JV:=bK.keep sp.kt sp.kts Fy
     have JW:=sp _ _ qd
     have Nz:=sp _ _ Ug
     have k7:KB Wt H5 (upd H6 pp (.tup [.int i,z])):=k6.trans sp.kb
     generalize upd H6 pp (.tup [.int i,z])=H7 at JT JU JV JW Nz k7 ⊢
     refine⟨_,rfl,.inl ⟨rfl,_,.of JT⟩,_,rfl,q,_,_,_,rfl,rfl,.of Nz,aD (j:=0) (v:=.ref pl) rfl,_,rfl,by show 1≤sizeLine;decide,fun oo hoo=>?_⟩
     have so:=Same.new (o:=.tup [.int (i:Int)]) hoo
     have CU:(upd H7 oo (.tup [.int (i:Int)])) oo=some (.tup [.int (i:Int)]):=af
     have done:∀(pn:Addr) (H8:Hp),Same H7 H8→H8 pn=some (.tup (bZ (ns++[i])))→∀i3,H8 i3=none→
       H8 Wt=some (.lst ((ws'++rs).map V.ref))∧(∃(rs':List Addr) (v4 v5:Option V),[some x,some (.ref Wt),some (.ref Fo),some (.ref q),some (.int (i:Int)),some z]=[some x,some (.ref Wt),some (.ref Fo),some (.ref q),v4,v5]∧
        KB Wt H5 (upd (upd H8 i3 (.tup [.ref pn,z])) Wt (.lst ((ws'++rs).map V.ref++[.ref i3])))∧(upd (upd H8 i3 (.tup [.ref pn,z])) Wt (.lst ((ws'++rs).map V.ref++[.ref i3]))) Wt=some (.lst ((ws'++rs').map V.ref))∧
        bK K (upd (upd H8 i3 (.tup [.ref pn,z])) Wt (.lst ((ws'++rs).map V.ref++[.ref i3]))) rs' ((kids ns 0 g.inner).take (i+1))):=fun pn H8 s8 JX i3 qe=>by
      have NA:=s8 _ _ JT
      have s9:=Same.new (o:=.tup [.ref pn,z]) qe
      have zt:=s9 _ _ NA
      have kt9:=aZ.lst (o:=.lst ((ws'++rs).map V.ref++[.ref i3])) zt
      have NB:h9 K (upd H8 i3 (.tup [.ref pn,z])) (upd (upd H8 i3 (.tup [.ref pn,z])) Wt (.lst ((ws'++rs).map V.ref++[.ref i3]))):=KB.kts zt KB.write
      refine⟨NA,rs++[i3],_,_,rfl,((k7.trans s8.kb).trans s9.kb).trans KB.write,?_,?_⟩
      ·rw[af];simp
      ·have ek:(kids ns 0 g.inner).take (i+1)=(kids ns 0 g.inner).take i++[(ns++[i],h)]:=dJ (by rw[oU,eh,Nat.zero_add];rfl)
       rw[ek]
       refine oW (bK.keep ((s8.kt.trans s9.kt).trans kt9) ((s8.kts.trans s9.kts).trans NB) JV) (.cons ⟨pn,z,kt9 _ _ af,kt9 _ _ (s9 _ _ JX),eQ ((s8.kts.trans s9.kts).trans NB) _ _ h.gg JU⟩ .nil)
     have lr:rs.length≤2:=by rw[Paired.length JV,List.length_take,qb];omega
     have lw:((ws'++rs).map V.ref).length<sizeLine:=by
      rw[List.length_map,List.length_append]
      have WT:ws'.length=xJ.length:=Paired.length pw'
      have:xJ.length≤(xJ.map fun e=>e.2.size).sum:=zo xJ
      rw[List.map_append,List.sum_append] at hsz
      exact Nat.lt_of_le_of_lt (show _≤80000 by omega) (by decide)
     refine⟨pl,oo,bZ ns,[.int (i:Int)],rfl,rfl,.of (so _ _ JW),.of CU,by simp,?_,fun hn=>?_,fun hn pn hpn=>?_⟩
     ·have:ns.length≤15:=xH hdp (od.here (ns,g) (.inl (by simp)))
      show(bZ ns).length+1≤sizeLine
      rw[bZ,List.length_map]
      exact Nat.le_trans (show _≤100 by omega) (by decide)
     ·have hn':ns=[]:=by cases ns with | nil=>rfl | cons _ _=>cases hn
      subst hn'
      refine⟨_,rfl,by show 2≤sizeLine;decide,fun i3 qe=>?_⟩
      obtain⟨d1,d2⟩:=done oo _ so CU i3 qe
      exact⟨Wt,_,_,rfl,rfl,(Same.new qe) _ _ d1,lw,d2⟩
     ·have Uh:=Same.new (o:=.tup (bZ ns++[.int (i:Int)])) hpn
      refine⟨_,rfl,by show 2≤sizeLine;decide,fun i3 qe=>?_⟩
      obtain⟨d1,d2⟩:=done pn _ (so.trans Uh) (by rw[af,bZ,bZ,List.map_append];rfl) i3 qe
      exact⟨Wt,_,_,rfl,rfl,(Same.new qe) _ _ d1,lw,d2⟩
   ·rintro σ H6 ⟨rs,v4,v5,rfl,k6,JS,Fy⟩
    rw[lx,List.take_of_length_le (by rw[qb];exact Nat.le_refl _)] at Fy
    have pj:aZ H4 H6:=s5.kt.trans (aZ.kb CQ k6)
    have CT:h9 K H4 H6:=s5.kts.trans (KB.kts CQ k6)
    have Ui:=JL.symm
    have sz:=xF ns g.inner 0
    have sg:=size_inner g
    refine⟨ws'++rs,fs++[q],xJ++kids ns 0 g.inner,fe++[(ns,g)],_,_,_,rfl,(Nx.trans s5).kbn hW0 k6,JS,k6 _ _ (s5 _ _ Nu) Ui,oW (bK.keep pj CT Nv) Fy,oW (bK.keep pj CT Nw) (.cons (JR.keep pj CT) .nil),od.step,?_,?_⟩
    ·rw[List.map_append,List.map_append,List.sum_append,List.sum_append,sz]
     show _<_+(g.size+0)
     omega
    ·rw[List.map_append,List.sum_append,sz,List.length_append]
     rw[List.map_append,List.sum_append] at hsz
     have hsz':fe.length+((xJ.map fun e=>e.2.size).sum+(g.size+0))≤70000:=hsz
     show fe.length+1+_≤70000
     omega
  ·have Uj:ws=[]:=by
    cases ws with
    | nil=>rfl
    | cons q qs=>exact absurd rfl hem
   subst Uj
   have Uk:we=[]:=by cases pw;rfl
   subst Uk
   refine⟨_,rfl,Fo,_,rfl,.of Nn,fun l hl=>?_⟩
   have sl:=Same.new (o:=.lst (fs.map V.ref).reverse) hl
   refine k l fs.reverse fe.reverse _ (s2'.free hl) (s2'.trans sl) (by rw[af,List.map_reverse]) ?_ od.late (by rw[List.length_reverse];omega)
   exact zq (bK.keep sl.kt sl.kts pf)
theorem KB.Pb {K:PySem.W.Frag} {d:Addr} {kvs:List (List Key×V)} {H H':Hp} (h:H d=some (.dT kvs)) (k:KB d H H'):h9 K H H':=fun a ys e=>by
 rcases e with(e | ⟨o,e⟩) | e
 ·exact .inl (.inl (k _ _ e (fL e h (fun z=>nomatch z))))
 ·exact .inl (.inr ⟨o,k _ _ e (fL e h (fun z=>nomatch z))⟩)
 ·exact .inr e
theorem aZ.dT {d:Addr} {kvs:List (List Key×V)} {H H':Hp} (h:H d=some (.dT kvs)) (k:KB d H H'):aZ H H':=fun b ys e=>k b _ e (fL e h (fun z=>nomatch z))
def gF (H:Hp):List Addr→List (List Str)→Prop:=Paired fun r ks=>H r=some (.tup (ks.map V.str))
theorem gF.keep {H H':Hp} (k:aZ H H'):∀{rs:List Addr} {bS:List (List Str)},gF H rs bS→gF H' rs bS
 | _,_,.nil=>.nil
 | _,_,.cons a t=>.cons (k _ _ a) (gF.keep k t)
theorem gF.get {H:Hp}:∀{rs:List Addr} {bS:List (List Str)} {i:Nat} {r:Addr},gF H rs bS→rs[i]? =some r→∃ks,bS[i]? =some ks∧H r=some (.tup (ks.map V.str))
 | _,_,_,_,.nil,h=>by simp at h
 | _,_,0,_,.cons a _,h=>by simp at h;subst h;exact⟨_,rfl,a⟩
 | _,_,i+1,_,.cons _ t,h=>by
  simp only[List.getElem?_cons_succ] at h ⊢
  exact gF.get t h
theorem Ay (f:au):inV (V.str f.word) [V.str "some",V.str "each"]=f.binds.isSome:=by
 have e:inV (V.str f.word) [V.str "some",V.str "each"]=decide (f.word∈[("some":Str),"each"]):=pO f.word [("some":Str),"each"]
 rw[e]
 have w1:decide (("same":Str)∈[("some":Str),"each"])=false:=by decide+kernel
 have w2:decide (("less":Str)∈[("some":Str),"each"])=false:=by decide+kernel
 have w3:decide (("sign":Str)∈[("some":Str),"each"])=false:=by decide+kernel
 have w4:decide (("alike":Str)∈[("some":Str),"each"])=false:=by decide+kernel
 have w5:decide (("not":Str)∈[("some":Str),"each"])=false:=by decide+kernel
 have w6:decide (("and":Str)∈[("some":Str),"each"])=false:=by decide+kernel
 have w7:decide (("or":Str)∈[("some":Str),"each"])=false:=by decide+kernel
 have w8:decide (("some":Str)∈[("some":Str),"each"])=true:=by decide+kernel
 have w9:decide (("each":Str)∈[("some":Str),"each"])=true:=by decide+kernel
 cases f with
 | same t u=>exact w1
 | less t u=>exact w2
 | sign a t s=>exact w3
 | alike a t c u=>exact w4
 | no f=>exact w5
 | and f g=>exact w6
 | or f g=>exact w7
 | some n f=>exact w8
 | each n f=>exact w9
theorem oq {N:Nat}:∀{bS:List (List Str)},(∀ks∈bS,ks.length≤N)→bS.flatten.length≤N*bS.length
 | [],_=>Nat.zero_le _
 | ks::bS,h=>by
  rw[List.flatten_cons,List.length_append,List.length_cons]
  have h1:=h ks List.mem_cons_self
  have h2:=oq (bS:=bS) fun x hx=>h x (List.mem_cons_of_mem _ hx)
  rw[Nat.mul_succ]
  omega
def CV (K:PySem.W.Frag):Sp:=fun vs H Q _=>∃(x:V) (f:au) (ss:List Str) (I:Addr) (rs:List Addr) (bS:List (List Str)),vs=[x,.ref I]∧aq K H x f.dt∧f.Over ss∧ss.length≤10∧H I=some (.lst (rs.map V.ref))∧gF H rs bS∧bS.length=f.inner.length∧
 (∀(j:Nat) (ks:List Str) (g:au),bS[j]? =some ks→f.inner[j]? =some g→cR ks g)∧∀(D:Addr) (ks:List Str) (H':Hp),H D=none→Same H H'→H' D=some (.tup (ks.map V.str))→cR ks f→Q (.ref D) H'
theorem gG:aO ["saying","inner","names","some"] ["saying","inner"] (ah dh):=⟨rfl,rfl,rfl,by decide+kernel,rfl,by decide+kernel,by decide+kernel⟩
theorem vf {a:bR} {b:mC} (T:Txt K mg a) (Y:jo K w.params mg b):aQ P w K mg base bj 2 a.fH a.gy ["saying","inner"] (CV K):=by
 have xK:aQ P w K mg base bj 1 a.fG a.gx ["saying"] (pz K):=ve T Y
 refine T.wZ.ok gG (fun vs H Q E h=>?_) (fun cdv A outer s H vs Q E hr h=>?_)
 ·obtain⟨x,f,ss,I,rs,bS,rfl,_⟩:=h
  rfl
 ·obtain⟨x,f,ss,I,rs,bS,rfl,hf,ov,hss,eI,tp,lk,fr,k⟩:=h
  have vg:aP 1 _:=hr
  obtain⟨a,xs,rfl,hq,h0,_,hbd⟩:=uw f hf
  refine⟨_,(ai (az (i:=2) gG.nd rfl (Or.inl rfl) (aC xK vg rfl T.wW T.wX T.wY .nil aR (ae (pv 0) ag)))
  (ai (dD PassesOwn.never rfl (dn (pv 1)) (aI (i:=3) gG.nd rfl (Or.inl rfl))
   (av (cX (eO PySem.F.plainAttrs_list PySem.F.slot_list_extend PySem.F.type_list_extend (Aa K) (pv 2) (ae (pv 3) ag)))))
  (ai (cu (a_ (wb K) (aL (aJ K) (pv 0) ao (fun _ _=>rfl)) (bo (ae bb (ae bb ag))) (by with_unfolding_all rfl))
   (av (g7 (i:=2) (aF.mk' (esc:=ah dh) (N:=["saying","inner","names","some"]) (own:=["name"]) (aB:=["saying"]) (bE:=[0]) rfl rfl (by decide+kernel)) rfl (dn (pv 2)) (fun _ _ _ _=>(aI (i:=0) (show List.Nodup (["name","saying"]:List Str) by decide+kernel) rfl (Or.inl rfl))) (fun _ _ _ _=>(lW (a_ oE (pv 0) (aL (aJ K) (pv 1) ao (fun _ _=>rfl)) (aY _)))) (fun _ _ _ _=>(pv 0)) gG.nd rfl rfl))
   bD)
  (av (aK (bC (cb K) (by rfl) T.cZ cy (ae (aG (wq rfl) (by rfl) T.xl tY (ae (bC (BG rfl) (by rfl) T.Ml HX (ae (pv 2) ag)) ag)) ag))))))),?_⟩
  refine⟨_,rfl,_,f,ss,rfl,hf,ov,fun N H1 hN s1 eN=>?_⟩
  have Ul:I≠N:=aj eI hN
  have lr:rs.length=bS.length:=Paired.length tp
  have li:=gm f
  have WU:=xE ov
  have kl:∀ks∈bS,ks.length≤10:=fun ks hks=>by
   obtain⟨j,hj⟩:=List.getElem?_of_mem hks
   have hl:j<f.inner.length:=by rw[←lk];exact(List.getElem?_eq_some_iff.mp hj).1
   have:=(fr j ks _ hj (List.getElem?_eq_getElem hl)).len (rg ov _ (List.getElem_mem hl))
   omega
  refine⟨_,rfl,I,rfl,⟨_,.of (s1 _ _ eI)⟩,jC (xs:=rs.map V.ref) (fun i σ H'=>∃v3:Option V,σ=[some (.ref a),some (.ref I),some (.ref N),v3]∧KB N H1 H'∧H' N=some (.lst ((f.gq++(bS.take i).flatten).map V.str)))
   ⟨none,rfl,KB.refl _ _,by rw[List.take_zero,List.flatten_nil,List.append_nil];exact eN⟩ (fun i σ H' _ ⟨_,_,h,_⟩=>.of (h _ _ (s1 _ _ eI) Ul)) ?_ ?_⟩
  ·rintro i y σ H2 hy ⟨v3,rfl,k2,zu⟩
   obtain⟨r,rfl,hr'⟩:=xI hy
   obtain⟨ks,NC,er⟩:=gF.get tp hr'
   have kt:aZ H1 H2:=aZ.kb eN k2
   have Um:=kt _ _ (s1 _ _ er)
   have l1:=oq (N:=10) (bS:=bS.take i) fun z hz=>kl z (List.mem_of_mem_take hz)
   have l2:(bS.take i).length≤2:=by rw[List.length_take];omega
   have l3:=kl ks (List.mem_of_getElem? NC)
   refine⟨_,rfl,.inl ⟨rfl,_,.of zu⟩,_,rfl,N,r,_,_,rfl,rfl,zu,.of Um,?_,_,rfl,k2.trans KB.write,?_⟩
   ·rw[List.length_map,List.length_map,List.length_append]
    exact Nat.le_trans (show _≤100 by omega) (by decide)
   ·rw[af,dJ NC,List.flatten_append,←List.append_assoc,List.map_append]
    simp
  rintro σ H2 ⟨v3,rfl,k2,zu⟩
  rw[List.length_map,lr,List.take_length] at zu
  have s2:Same H H2:=s1.kbn hN k2
  have l1:=oq kl
  have ED:∀y,y∈f.gq++bS.flatten↔(y∈f.gq∨∃g∈f.inner,g.Free y):=fun y=>by
   rw[List.mem_append,List.mem_flatten]
   constructor
   ·rintro(z | ⟨ks,hks,hy⟩)
    ·exact .inl z
    ·obtain⟨j,hj⟩:=List.getElem?_of_mem hks
     have hl:j<f.inner.length:=by rw[←lk];exact(List.getElem?_eq_some_iff.mp hj).1
     exact .inr ⟨_,List.getElem_mem hl,((fr j ks _ hj (List.getElem?_eq_getElem hl)).mem y).mp hy⟩
   ·rintro(z | ⟨g,hg,hy⟩)
    ·exact .inl z
    ·obtain⟨j,hj⟩:=List.getElem?_of_mem hg
     have hl:j<bS.length:=by rw[lk];exact(List.getElem?_eq_some_iff.mp hj).1
     exact .inr ⟨_,List.getElem_mem hl,((fr j _ g (List.getElem?_eq_getElem hl) hj).mem y).mpr hy⟩
  have len0:(f.gq++bS.flatten).length≤40:=by rw[List.length_append];omega
  generalize f.gq++bS.flatten=Fz at zu ED len0
  dsimp only[aM]
  refine DH (t:=zG _ _ _) (u:=Ht _) (fun σ H'=>∃(L:Addr) (ls:List Str) (v3:Option V),σ=[some (.ref a),some (.ref I),some (.ref L),v3]∧Same H H'∧H' L=some (.lst (ls.map V.str))∧(∀y,y∈ls↔f.Free y)∧ls.length≤40) ?re (fun rest=>?Uo)
  case re=>
   rintro σ H3 ⟨L,ls,v3,rfl,s3,eL,mem,ll⟩
   refine⟨_,rfl,L,ls,rfl,.of eL,Nat.lt_of_le_of_lt (show ls.length+1≤41 by omega) (by decide),fun p ks hp nd mk WV=>?_⟩
   have m7:∀y,y∈ks↔f.Free y:=fun y=>(mk y).trans (mem y)
   have l10:ks.length≤ss.length:=iW nd fun y hy=>fV ov ((m7 y).mp hy)
   have sp:=Same.new (o:=wm P w p ks) hp
   refine⟨p,ks,rfl,af,by omega,fun p2 zs hp2 perm CL=>?_⟩
   have Cs:=Same.new (o:=.lst (zs.map V.str)) hp2
   refine⟨p2,_,rfl,.inl ⟨.of af,fun D hD=>?_⟩⟩
   have sD:=Same.new (o:=.tup (zs.map V.str)) hD
   exact k D zs _ ((s3.trans (sp.trans Cs)).free hD) (s3.trans ((sp.trans Cs).trans sD)) af ⟨CL,perm.nodup_iff.mpr nd,fun y=>perm.mem_iff.trans (m7 y)⟩
  case Uo=>
   refine⟨_,rfl,a,xs,0,.str f.word,rfl,rfl,s2.pN hq,aD (j:=0) h0,by show 2≤sizeLine;decide,fun Z hZ=>⟨Z,_,rfl,.inr (.of af),rfl,rfl,_,rfl,?_⟩⟩
   have sZ:=Same.new (o:=.tup [.str "some",.str "each"]) hZ
   have s3:=s2.trans sZ
   have zl:=sZ _ _ zu
   generalize upd H2 Z (.tup [.str "some",.str "each"])=H3 at s3 zl ⊢
   have ew:(if false=true then !inV (V.str f.word) [V.str "some",V.str "each"] else inV (V.str f.word) [V.str "some",V.str "each"])=f.binds.isSome:=by rw[if_neg (by decide),Ay]
   rw[ew]
   cases eb:f.binds with
   | none=>
    refine de (rest _ _ ⟨N,Fz,_,rfl,s3,zl,fun y=>?_,len0⟩)
    rw[ED y,xD,eb]
    simp
   | some n=>
    refine ic ?_
    have at1:=hbd n eb
    refine⟨_,rfl,N,rfl,⟨_,.of zl⟩,fun C hC=>?_⟩
    refine fB (xs:=Fz.map V.str) (fun j σ H'=>∃v:Option V,σ=[v,some (.ref a)]∧Same H3 H'∧H' C=some (.lst (((Fz.take j).filter fun y=> !decide (y=n)).map V.str)))
     ⟨none,?sg,Same.new hC,af⟩ (fun j σ H' _ ⟨_,_,s,_⟩=>.of (s _ _ zl)) ?_ ?_
    case sg=>rfl
    ·rintro j y σ H4 hy ⟨v,rfl,s4,eC⟩
     obtain⟨z,rfl,ez⟩:=kZ hy
     have ed:decide (V.str z=V.str n)=decide (z=n):=decide_eq_decide.mpr ⟨fun h=>by injection h,fun h=>by rw[h]⟩
     refine⟨_,rfl,_,rfl,a,xs,1,.str n,rfl,rfl,(s3.trans s4).pN hq,aD (j:=1) at1,rfl,_,rfl,?_⟩
     rw[ed]
     refine bH (fun hh=>?_) (fun hh=>?_)
     ·refine⟨_,rfl,_,eC,?_,_,rfl,s4.kbn hC KB.write,?_⟩
      ·rw[List.length_map]
       refine Nat.lt_of_le_of_lt (List.length_filter_le _ _) ?_
       rw[List.length_take]
       exact Nat.lt_of_le_of_lt (show min j Fz.length≤40 by omega) (by decide)
      ·rw[af,dJ ez,List.filter_append,List.map_append]
       simp[hh]
     ·refine⟨_,rfl,s4,?_⟩
      have hh':(!decide (z=n))=false:=by simpa using hh
      rw[eC,dJ ez,List.filter_append]
      simp[hh']
    rintro σ H4 ⟨v,rfl,s4,eC⟩
    rw[List.length_map,List.take_length] at eC
    refine rest _ _ ⟨C,_,_,rfl,s3.trans s4,eC,fun y=>?_,Nat.le_trans (List.length_filter_le _ _) len0⟩
    rw[List.mem_filter,ED y,xD,eb]
    constructor
    ·rintro⟨a1,a2⟩
     exact⟨a1,fun z=>by rw[←Option.some.inj z] at a2;simp at a2⟩
    ·rintro⟨a1,a2⟩
     exact⟨a1,by simpa using fun z=>a2 (by rw[z])⟩
def keyOf (ns:List Nat):List Key:=ns.map fun(n:Nat)=>Sum.inl (n:Int)
theorem xM (ns:List Nat):bZ ns=(keyOf ns).map kV:=by
 unfold bZ keyOf
 rw[List.map_map]
 rfl
theorem zv {ss:List Str}:∀(ns:List Nat) (f g:au),f.Over ss→f.at ns=some g→g.Over ss
 | [],f,g,o,e=>by
  have e':f=g:=Option.some.inj e
  rw[←e'];exact o
 | n::ns,f,g,o,e=>by
  have e':(f.inner[n]?).bind (fun g=>g.at ns)=some g:=e
  obtain⟨u,eu,ea⟩:=Option.bind_eq_some_iff.mp e'
  exact zv ns u g (rg o u (List.mem_of_getElem? eu)) ea
theorem ux:∀{ns ms:List Nat},keyOf ns=keyOf ms→ns=ms
 | [],[],_=>rfl
 | [],_::_,h=>by cases h
 | _::_,[],h=>by cases h
 | n::ns,m::ms,h=>by
  have h1:(Sum.inl (n:Int):Key)=Sum.inl (m:Int):=(List.cons.inj h).1
  have h2:(n:Int)=m:=Sum.inl.inj h1
  rw[ux (List.cons.inj h).2,Int.ofNat_inj.mp h2]
def Known (H:Hp) (kvs:List (List Key×V)) (es:List Ent):Prop:=∀e∈es,∃r ks,aV kvs (keyOf e.1)=some (.ref r)∧H r=some (.tup (ks.map V.str))∧cR ks e.2
theorem Az {H:Hp} {kvs:List (List Key×V)} {g:au} {ns:List Nat} {es:List Ent} (kn:Known H kvs es) (hk:∀(j:Nat) (h:au),g.inner[j]? =some h→(ns++[j],h)∈es):
  ∃(rs:List Addr) (bS:List (List Str)),gF H rs bS∧bS.length=g.inner.length∧(∀(j:Nat) (u:V),(rs.map V.ref)[j]? =some u→aV kvs (keyOf (ns++[j]))=some u)∧
   ∀(j:Nat) (ks:List Str) (h:au),bS[j]? =some ks→g.inner[j]? =some h→cR ks h:=by
 have all:∀n,n≤g.inner.length→∃(rs:List Addr) (bS:List (List Str)),gF H rs bS∧bS.length=n∧(∀(j:Nat) (u:V),(rs.map V.ref)[j]? =some u→aV kvs (keyOf (ns++[j]))=some u)∧
   ∀(j:Nat) (ks:List Str) (h:au),bS[j]? =some ks→g.inner[j]? =some h→cR ks h:=by
  intro n
  induction n with
  | zero=>exact fun _=>⟨[],[],.nil,rfl,fun j u z=>by simp at z,fun j ks h z=>by simp at z⟩
  | succ n ih=>
   intro hn
   obtain⟨rs,bS,tp,lk,vs,fr⟩:=ih (by omega)
   have lrs:rs.length=bS.length:=Paired.length tp
   obtain⟨h,hh⟩:∃h,g.inner[n]? =some h:=⟨_,List.getElem?_eq_getElem hn⟩
   obtain⟨r,ks,ev,er,CW⟩:=kn _ (hk n h hh)
   refine⟨rs++[r],bS++[ks],bw tp (.cons er .nil),by rw[List.length_append,lk];rfl,fun j u z=>?_,fun t ks' h' z1 z2=>?_⟩
   ·rw[List.map_append] at z
    by_cases lt:j<rs.length
    ·rw[List.getElem?_append_left (by rw[List.length_map];exact lt)] at z
     exact vs j u z
    ·have hl:=(List.getElem?_eq_some_iff.mp z).1
     rw[List.length_append,List.length_map] at hl
     have hl':j<rs.length+1:=hl
     have e:j=n:=by omega
     subst e
     rw[List.getElem?_append_right (by rw[List.length_map];omega),List.length_map,lrs,lk,Nat.sub_self] at z
     have z':V.ref r=u:=Option.some.inj z
     rw[←z'];exact ev
   ·by_cases lt:t<bS.length
    ·rw[List.getElem?_append_left lt] at z1
     exact fr t ks' h' z1 z2
    ·have hl:=(List.getElem?_eq_some_iff.mp z1).1
     rw[List.length_append] at hl
     have hl':t<bS.length+1:=hl
     have e:t=bS.length:=by omega
     subst e
     rw[List.getElem?_append_right (Nat.le_refl _),Nat.sub_self] at z1
     have Up:ks=ks':=Option.some.inj z1
     rw[lk,hh] at z2
     have Uq:h=h':=Option.some.inj z2
     rw[←Up,←Uq];exact CW
 exact all _ (Nat.le_refl _)
def xN (K:PySem.W.Frag):Sp:=fun vs H Q _=>∃(D pl:Addr) (y:V) (g:au) (kvs:List (List Key×V)) (ns:List Nat) (us:List V),vs=[.ref D,.ref pl,y]∧aq K H y g.dt∧H D=some (.dT kvs)∧H pl=some (.tup (bZ ns))∧ns.length≤15∧us.length=g.inner.length∧
 (∀(j:Nat) (u:V),us[j]? =some u→aV kvs (keyOf (ns++[j]))=some u)∧∀(C:Addr) (H':Hp),H C=none→Same H H'→H' C=some (.lst us)→Q (.ref C) H'
def uy (K:PySem.W.Frag):Sp:=fun vs H Q _=>∃(x:V) (f:au) (ss:List Str),vs=[x]∧aq K H x f.dt∧f.deep≤15∧f.Over ss∧ss.length≤10∧
 ∀(D:Addr) (kvs:List (List Key×V)) (r:Addr) (ks:List Str) (H':Hp),Same H H'→H' D=some (.dT kvs)→aV kvs []=some (.ref r)→H' r=some (.tup (ks.map V.str))→cR ks f→Q (.ref D) H'
def CY (K:PySem.W.Frag):Sp:=fun vs H Q _=>∃(x:V) (f:au) (ss:List Str),vs=[x]∧aq K H x f.dt∧f.deep≤15∧f.Over ss∧ss.length≤10∧
 ∀(r:Addr) (ks:List Str) (H':Hp),Same H H'→H' r=some (.tup (ks.map V.str))→cR ks f→Q (.ref r) H'
theorem qf:aO ["told","place","saying"] ["told","place","saying"] (ah cg):=⟨rfl,rfl,rfl,by decide+kernel,rfl,by decide+kernel,by decide+kernel⟩
theorem qg {a:bR} {b:kI} (T:Txt K mg a) (U:iO K w.params mg b):aQ P w K mg base bj 2 a.dG a.eZ ["told","place","saying"] (xN K):=by
 have jb:aQ P w K mg base bj 1 a.dw a.d9 ["saying"] (sf K):=lF T U
 refine T.qL.ok qf (fun vs H Q E h=>?_) (fun cdv A outer s H vs Q E hr h=>?_)
 ·obtain⟨D,pl,y,g,kvs,ns,us,rfl,_⟩:=h
  rfl
 ·obtain⟨D,pl,y,g,kvs,ns,us,rfl,dy,eD,rh,hns,zi,hus,k⟩:=h
  have iD:aP 1 _:=hr
  refine⟨_,(av (aK (ck (aF.mk' (esc:=ah cg) (N:=["told","place","saying"]) (own:=["number"]) (aB:=["told","place"]) (bE:=[0,1]) rfl rfl (by decide+kernel)) rfl (dC rfl T.fS (ae (aG (bt K) (by rfl) T.cS cf (ae (aC jb iD rfl T.mS T.mT T.mU .nil aR (ae (pv 2) ag)) ag)) ag)) (fun _ _ _ _=>(aI (i:=0) (show List.Nodup (["number","told","place"]:List Str) by decide+kernel) rfl (Or.inl rfl))) (fun _ _ _ _=>bL) (fun _ _ _ _=>(d5 (bN hr) (pv 1) (aH (lX K) (pv 2) (bo (ae (pv 0) ag))) (fun _ _=>rfl)))))),?_⟩
  refine⟨_,rfl,y,g,rfl,dy,fun D2 xs H4 hD2 s4 Pc Fx=>?_⟩
  have lx:xs.length=g.inner.length:=by rw[Fx.length,List.length_map]
  refine⟨_,xs.length,rfl,.inl ⟨_,.of Pc,rfl⟩,?_⟩
  have Ny:=gm g
  have Ur:=s4 _ _ eD
  have xO:=s4 _ _ rh
  refine⟨_,rfl,by omega,by omega,fun C hC=>?_⟩
  refine jj (lo:=0) (fun j σ H'=>∃(v:Option V),σ=[v,some (.ref D),some (.ref pl)]∧Same H4 H'∧H' C=some (.lst (us.take j)))
   ⟨none,?sg,Same.new hC,af⟩ ?_ ?_
  case sg=>rfl
  ·rintro j σ H5 hj ⟨v,rfl,s5,eC⟩
   have hj':j<us.length:=by omega
   have ej:(0:Int)+(j:Int)=(j:Int):=by omega
   obtain⟨u,hu⟩:∃u,us[j]? =some u:=⟨_,List.getElem?_eq_getElem hj'⟩
   have ev:=hus j u hu
   have done:∀(pn:Addr) (H6:Hp),Same H5 H6→H6 pn=some (.tup (bZ (ns++[j])))→∃(a:Addr) (v:V),V.ref D=.ref a∧lQ H6 a (.ref pn) (some v)∧∃ys,H6 C=some (.lst ys)∧ys.length<sizeLine∧
     ∃(v':Option V),[some (V.int (0+(j:Int))),some (.ref D),some (.ref pl)]=[v',some (.ref D),some (.ref pl)]∧Same H4 (upd H6 C (.lst (ys++[v])))∧(upd H6 C (.lst (ys++[v]))) C=some (.lst (us.take (j+1))):=fun pn H6 s6 JX=>by
    have ND:=s5.trans s6
    have Us:=s6 _ _ eC
    refine⟨D,u,rfl,.inr ⟨kvs,keyOf (ns++[j]),pn,.inl (ND _ _ Ur),rfl,by rw[JX,xM],ev.symm⟩,_,Us,?_,_,rfl,ND.kbn hC KB.write,by rw[af,dJ hu]⟩
    rw[List.length_take];exact Nat.lt_of_lt_of_le (show min j us.length<10 by omega) (by decide)
   refine⟨_,rfl,_,rfl,_,rfl,by show 1≤sizeLine;decide,fun oo hoo=>?_⟩
   have so:=Same.new (o:=.tup [.int (0+(j:Int))]) hoo
   have CU:(upd H5 oo (.tup [.int (0+(j:Int))])) oo=some (.tup (bZ [j])):=by rw[af,ej];rfl
   have xP:=s5 _ _ xO
   refine⟨pl,oo,bZ ns,bZ [j],rfl,rfl,.of (so _ _ xP),.of CU,by simp[bZ],?_,fun hn=>?_,fun hn pn hpn=>?_⟩
   ·rw[bZ,bZ,List.length_map,List.length_map]
    exact Nat.le_trans (show _≤100 by simp;omega) (by decide)
   ·have hn':ns=[]:=by cases ns with | nil=>rfl | cons _ _=>cases hn
    have e1:bZ (ns++[j])=bZ [j]:=by rw[hn'];rfl
    exact done oo _ so (by rw[e1];exact CU)
   ·exact done pn _ (so.trans (Same.new hpn)) (by rw[af,bZ,bZ,bZ,List.map_append])
  rintro σ H5 ⟨v,rfl,s5,eC⟩
  rw[Int.toNat_natCast,lx,←zi,List.take_length] at eC
  exact k C H5 (s4.free hC) (s4.trans s5) eC
theorem d4:aO ["saying","names","place","part"] ["saying"] (ah cA):=⟨rfl,rfl,rfl,by decide+kernel,rfl,by decide+kernel,by decide+kernel⟩
theorem oZ {a:bR} {b:kI} {c:mC} (T:Txt K mg a) (U:iO K w.params mg b) (Y:jo K w.params mg c):aQ P w K mg base bj 3 a.dj a.dZ ["saying"] (uy K):=by
 have ri:aQ P w K mg base bj 2 a.dG a.eZ ["told","place","saying"] (xN K):=qg T U
 have qh:aQ P w K mg base bj 2 a.di a.dY ["saying"] (zr K):=oY T U
 have xQ:aQ P w K mg base bj 2 a.fH a.gy ["saying","inner"] (CV K):=vf T Y
 refine T.p6.ok d4 (fun vs H Q E h=>?_) (fun cdv A outer s H vs Q E hr h=>?_)
 ·obtain⟨x,f,ss,rfl,_⟩:=h
  rfl
 ·obtain⟨x,f,ss,rfl,hf,hdp,ov,hss,k⟩:=h
  have qi:aP 2 _:=hr
  have o_:aP 2 _:=hr
  have vh:aP 2 _:=hr
  refine⟨_,(ai (az (i:=1) d4.nd rfl (Or.inl rfl) DE)
  (ai (dD PassesOwn.never rfl (dn (aC qh o_ rfl T.pY T.pZ T.p_ .nil aR (ae (pv 0) ag))) (vK rfl (cG (aI (i:=2) d4.nd rfl (Or.inl rfl)) (cG (aI (i:=3) d4.nd rfl (Or.inl rfl)) js)))
   (av (oI (bN hr) (pv 1) (pv 2) (aC xQ vh rfl T.w_ T.xa T.xb .nil aR (ae (pv 3) (ae (aC ri qi rfl T.qM T.qN T.qO .nil aR (ae (pv 1) (ae (pv 2) (ae (pv 3) ag)))) ag))) rfl)))
  (av (aK (pv 1))))),?_⟩
  refine fun D hD=>?_
  have sD:=Same.new (o:=.dT []) hD
  refine⟨_,rfl,x,f,rfl,eQ sD.kts _ _ f.gg hf,hdp,fun L qs es H2 hL s2 eL prs late WW=>?_⟩
  have nW:H2 D=some (.dT []):=s2 _ _ af
  have Ut:L≠D:=(aj af hL).symm
  have Jk:qs.length=es.length:=Paired.length prs
  have Uu:=sD.trans s2
  refine⟨L,rfl,⟨_,.of eL⟩,jC (xs:=qs.map V.ref) (fun i σ H'=>∃(kvs:List (List Key×V)) (v2 v3:Option V),σ=[some x,some (.ref D),v2,v3]∧KB D H2 H'∧H' D=some (.dT kvs)∧kvs.length≤i∧Known H' kvs (es.take i))
   ⟨[],none,none,rfl,KB.refl _ _,nW,Nat.le_refl _,fun e he=>by simp at he⟩ (fun i σ H' _ ⟨_,_,_,_,h,_⟩=>.of (h _ _ eL Ut)) ?_ ?_⟩
  ·rintro i y0 σ H3 hy ⟨kvs,v2,v3,rfl,k3,FA,Uv,kn⟩
   obtain⟨q,rfl,hq⟩:=xI hy
   obtain⟨⟨ns,g⟩,he,pq⟩:=zm prs hq
   have Uw:aZ H2 H3:=aZ.dT nW k3
   have Ux:h9 K H2 H3:=KB.Pb nW k3
   obtain⟨pl,y,eq,rh,dy⟩:=pq.keep Uw Ux
   have hin:=List.mem_of_getElem? he
   have FC:f.at ns=some g:=late.here _ hin
   have Uy:=zv ns f g ov FC
   have hi:i<es.length:=(List.getElem?_eq_some_iff.mp he).1
   refine⟨q,_,rfl,.of eq,rfl,_,_,rfl,_,_,rfl,rfl,?_⟩
   have Ny:=gm g
   obtain⟨rs,bS,tp,lk,vs',fr⟩:=Az (kvs:=kvs) (H:=H3) (g:=g) (ns:=ns) (es:=es.take i) kn (fun j h hh=>by
    obtain⟨j',hj2,ee⟩:=late.kid i ns g he j h hh
    exact List.mem_of_getElem? (i:=j') (by rw[List.getElem?_take_of_lt hj2];exact ee))
   have lrs:rs.length=bS.length:=Paired.length tp
   refine⟨_,rfl,_,rfl,_,rfl,_,rfl,D,pl,y,g,kvs,ns,rs.map V.ref,rfl,dy,FA,rh,xH hdp FC,by rw[List.length_map,lrs,lk],vs',fun C H5 hC s5 eC=>?_⟩
   refine⟨y,g,ss,C,rs,bS,rfl,eQ s5.kts _ _ g.gg dy,Uy,hss,eC,gF.keep s5.kt tp,lk,fr,fun D3 ks H6 WX s6 Pd CW=>?_⟩
   have FD:=s5.trans s6
   have NF:=FD _ _ FA
   have qd:=FD _ _ rh
   refine⟨_,rfl,_,rfl,D,_,rfl,ky.t (k:=keyOf ns) NF (by rw[qd,xM]) (Nat.lt_of_le_of_lt (show kvs.length≤100000 by omega) (by decide)),?_⟩
   have NG:aZ H6 (upd H6 D (.dT (putK kvs (keyOf ns) (.ref D3)))):=aZ.dT NF KB.write
   refine⟨_,_,_,rfl,(k3.trans FD.kb).trans KB.write,af,Nat.le_trans (gf _ _ _) (by omega),fun e hm=>?_⟩
   rw[dJ he] at hm
   by_cases ek:keyOf e.1=keyOf ns
   ·have en:=ux ek
    have eg:e.2=g:=by
     have h1:f.at e.1=some e.2:=by
      rcases List.mem_append.mp hm with z | z
      ·exact late.here e (List.mem_of_mem_take z)
      ·rw[List.mem_singleton.mp z];exact FC
     rw[en,FC] at h1
     exact(Option.some.inj h1).symm
    exact⟨D3,ks,by rw[lN,if_pos ek],NG _ _ Pd,by rw[eg];exact CW⟩
   ·rcases List.mem_append.mp hm with z | z
    ·obtain⟨r,ks',a1,a2,a3⟩:=kn e z
     exact⟨r,ks',by rw[lN,if_neg ek];exact a1,NG _ _ (FD.kt _ _ a2),a3⟩
    ·exact absurd (by rw[List.mem_singleton.mp z]) ek
  ·rintro σ H3 ⟨kvs,v2,v3,rfl,k3,FA,Uv,kn⟩
   rw[List.length_map,Jk,List.take_length] at kn
   obtain⟨r,ks,a1,a2,a3⟩:=kn _ late.root
   exact⟨_,rfl,k D kvs r ks H3 (Uu.kbn hD k3) FA a1 a2 a3⟩
theorem vi:aO ["saying"] ["saying"] (ah d8):=⟨rfl,rfl,rfl,by decide+kernel,rfl,by decide+kernel,by decide+kernel⟩
theorem vj {a:bR} {b:kI} {c:mC} (T:Txt K mg a) (U:iO K w.params mg b) (Y:jo K w.params mg c):aQ P w K mg base bj 4 a.fI a.gA ["saying"] (CY K):=by
 have qj:aQ P w K mg base bj 3 a.dj a.dZ ["saying"] (uy K):=oZ T U Y
 refine T.xc.ok vi (fun vs H Q E h=>?_) (fun cdv A outer s H vs Q E hr h=>?_)
 ·obtain⟨x,f,ss,rfl,_⟩:=h
  rfl
 ·obtain⟨x,f,ss,rfl,hf,hdp,ov,hss,k⟩:=h
  have o3:aP 3 _:=hr
  refine⟨_,(av (aK (d5 (bN hr) (aC qj o3 rfl T.p7 T.p8 T.p9 .nil aR (ae (pv 0) ag)) (bo ag) (fun _ _=>rfl)))),?_⟩
  refine⟨_,rfl,x,f,ss,rfl,hf,hdp,ov,hss,fun D kvs r ks H1 s1 eD ev er CW=>⟨by decide,fun e he=>?_⟩⟩
  have se:=Same.new (o:=.tup []) he
  exact⟨D,.ref r,rfl,.inr ⟨kvs,[],e,.inl (se _ _ eD),rfl,af,ev.symm⟩,k r ks _ (s1.trans se) (se _ _ er) CW⟩
def cx (H:Hp) (a:Addr) (t:Term):Prop:=∃(b:Addr) (ps:List Addr),H a=some (.tup [.int t.num,.ref b])∧H b=some (.tup (ps.map V.ref))∧Paired (fun(p:Addr) (q:Str×Int)=>H p=some (.tup [.str q.1,.int q.2])) ps t.parts
theorem cx.keep {H H':Hp} {a:Addr} {t:Term} (h:cx H a t) (k:aZ H H'):cx H' a t:=by
 obtain⟨b,ps,h1,h2,h3⟩:=h
 exact⟨b,ps,k _ _ h1,k _ _ h2,Paired.lJ h3 fun _ _ z=>k _ _ z⟩
def xR (n:Str):List (Str×Int)→Int→Int
 | [],d=>d
 | p::ps,d=>xR n ps (if n=p.1 then p.2 else d)
def Term.at (t:Term) (n:Str):Int:=xR n t.parts 0
def fu (p:Str×Int):Key×V:=(Sum.inr p.1,.int p.2)
theorem rj (n:Str):∀(ps:List (Str×Int)) (kvs:List (Key×V)) (d:Int),(aV kvs (Sum.inr n)).getD (.int 0)=.int d→(aV (bQ kvs (ps.map fu)) (Sum.inr n)).getD (.int 0)=.int (xR n ps d)
 | [],kvs,d,h=>h
 | p::ps,kvs,d,h=>by
  show(aV (bQ (putK kvs (Sum.inr p.1) (.int p.2)) (ps.map fu)) (Sum.inr n)).getD (.int 0)=_
  refine rj n ps _ _ ?_
  rw[lN]
  by_cases e:n=p.1
  ·rw[if_pos (by rw[e]),if_pos e];rfl
  ·rw[if_neg (fun z=>e (Sum.inr.inj z)),if_neg e];exact h
theorem Term.xS (t:Term) (n:Str):(aV (bQ [] (t.parts.map fu)) (Sum.inr n)).getD (.int 0)=.int (t.at n):=rj n t.parts [] 0 rfl
def G':Sp:=fun vs H Q _=>∃(a nm:Addr) (t:Term) (ss:List Str),vs=[.ref a,.ref nm]∧cx H a t∧t.parts.length≤100∧H nm=some (.tup (ss.map V.str))∧ss.length≤100∧∀(D:Addr) (H':Hp),H D=none→Same H H'→H' D=some (.lst ((ss.map t.at).map V.int))→Q (.ref D) H'
theorem pA:aO ["term","names","times"] ["term","names"] (ah eX):=⟨rfl,rfl,rfl,by decide+kernel,rfl,by decide+kernel,by decide+kernel⟩
theorem yu {a:bR} (T:Txt K mg a):aQ P w K mg base bj 1 a.jn a.kE ["term","names"] G':=by
 refine T.Al.ok pA (fun vs H Q E h=>?_) (fun cdv A outer s H vs Q E hr h=>?_)
 ·obtain⟨ta,nm,t,ss,rfl,_⟩:=h
  rfl
 ·obtain⟨ta,nm,t,ss,rfl,⟨b,ps,e1,e2,e3⟩,lp,en,ls,k⟩:=h
  refine⟨_,(ai (az (i:=2) pA.nd rfl (Or.inr rfl) (bC (jm hr.hd) (by rfl) T.qT oK (ae (aL (aJ K) (pv 0) ao (fun _ _=>rfl)) ag)))
  (av (aK (ck (aF.mk' (esc:=ah eX) (N:=["term","names","times"]) (own:=["name"]) (aB:=["times"]) (bE:=[2]) rfl rfl (by decide+kernel)) rfl (iR (pv 1)) (fun _ _ _ _=>(aI (i:=0) (show List.Nodup (["name","times"]:List Str) by decide+kernel) rfl (Or.inl rfl))) (fun _ _ _ _=>bL) (fun _ _ _ _=>(pM (bN hr) (pv 1) (pv 0) ao ⟨rfl,rfl,rfl,rfl⟩)))))),?_⟩
  have big:(10000:Nat)≤sizeLine:=by decide
  have pk:Paired (fun(p:Addr) (q:Key×V)=>H p=some (.tup [kV q.1,q.2])) ps (t.parts.map fu):=by
   clear lp e1 e2
   generalize t.parts=l at e3
   induction e3 with
   | nil=>exact .nil
   | cons h _ ih=>exact .cons h ih
  refine⟨_,rfl,ta,_,_,.ref b,rfl,rfl,.of e1,aD (j:=1) rfl,b,ps,_,rfl,e2,pk,by rw[List.length_map];omega,fun D hD=>?_⟩
  have sD:=Same.new (o:=.dK (bQ [] (t.parts.map fu))) hD
  dsimp only[aM]
  refine⟨_,rfl,nm,rfl,⟨_,.of (sD _ _ en)⟩,fun C hC=>?_⟩
  have hCD:D≠C:=aj (show(upd H D (.dK (bQ [] (t.parts.map fu)))) D=some _ from af) hC
  have NH:H C=none:=sD.free hC
  refine ie (xs:=ss.map V.str) (fun i σ H'=>∃v:Option V,σ=[v,some (.ref D)]∧Same H H'∧H' D=some (.dK (bQ [] (t.parts.map fu)))∧H' C=some (.lst (((ss.take i).map t.at).map V.int)))
   ⟨none,?sg,sD.trans (Same.new hC),by rw[ak hCD];exact af,af⟩ (fun i σ H' _ ⟨_,_,s',_⟩=>.of (s' _ _ en)) ?_ ?_
  case sg=>rfl
  ·rintro i x σ H' hx ⟨v,rfl,s',d',c'⟩
   obtain⟨n,rfl,en'⟩:=kZ hx
   have hi:=(List.getElem?_eq_some_iff.mp en').1
   refine⟨_,rfl,D,rfl,.inl ⟨_,.inl d'⟩,_,rfl,_,.inl ⟨_,Sum.inr n,.inl d',rfl,rfl⟩,?_⟩
   rw[t.xS n]
   refine⟨_,c',?_,_,rfl,s'.kbn NH KB.write,by rw[ak hCD];exact d',?_⟩
   ·rw[List.length_map,List.length_map,List.length_take];omega
   ·rw[af,take_snoc en',List.map_append,List.map_append];rfl
  rintro σ H' ⟨v,rfl,s',d',c'⟩
  rw[List.length_map,List.take_length] at c'
  exact k C H' NH s' c'
def dot:List Int→List Int→Int
 | x::xs,y::ys=>x*y+dot xs ys
 | _,_=>0
def Mp:Sp:=fun vs H Q _=>∃(a b:Addr) (xs ys:List Int),vs=[.ref a,.ref b]∧H a=some (.tup (xs.map V.int))∧H b=some (.lst (ys.map V.int))∧xs.length=ys.length∧ys.length≤100∧(∀x∈xs,0≤x∧x<100)∧∀H',Same H H'→Q (.int (dot xs ys)) H'
theorem sk:∀(xs ys:List Int),(List.zipWith (· * ·) xs ys).sum=dot xs ys
 | [],_=>rfl
 | _::_,[]=>rfl
 | x::xs,y::ys=>by rw[List.zipWith_cons_cons,List.sum_cons,sk xs ys];rfl
theorem zx {xs ys:List Int} {i:Nat} {x y:Int} (hx:xs[i]? =some x) (hy:ys[i]? =some y):List.zipWith (· * ·) (xs.take (i+1)) (ys.take (i+1))=List.zipWith (· * ·) (xs.take i) (ys.take i)++[x*y]:=by
 rw[take_snoc hx,take_snoc hy,List.zipWith_append]
 ·rfl
 ·have h1:=(List.getElem?_eq_some_iff.mp hx).1
  have h2:=(List.getElem?_eq_some_iff.mp hy).1
  rw[List.length_take,List.length_take];omega
theorem CZ:aO ["letter","times"] ["letter","times"] (ah gM):=⟨rfl,rfl,rfl,by decide+kernel,rfl,by decide+kernel,by decide+kernel⟩
theorem C_ {a:bR} (T:Txt K mg a):aQ P w K mg base bj 1 a.mf a.nJ ["letter","times"] Mp:=by
 refine T.Eg.ok CZ (fun vs H Q E h=>?_) (fun cdv A outer s H vs Q E hr h=>?_)
 ·obtain⟨a1,a2,xs,ys,rfl,_⟩:=h
  rfl
 ·obtain⟨a1,a2,xs,ys,rfl,e1,e2,hl,hy,hx,k⟩:=h
  refine⟨_,(av (aK (aG (tZ K) (by rfl) T.Fp Bq (ae (ck (aF.mk' (esc:=ah gM) (N:=["letter","times"]) (own:=["figure","many"]) (aB:=[]) (bE:=[]) rfl rfl (by decide+kernel)) rfl (y8 rfl T.vA (ae (pv 0) (ae (pv 1) ag))) (fun _ _ _ _=>(oM K (n:=2) rfl (cG (aI (i:=0) (show List.Nodup (["figure","many"]:List Str) by decide+kernel) rfl (Or.inl rfl)) (cG (aI (i:=1) (show List.Nodup (["figure","many"]:List Str) by decide+kernel) rfl (Or.inl rfl)) js)))) (fun _ _ _ _=>bL) (fun _ _ _ _=>(aH iT (pv 0) (pv 1)))) ag)))),?_⟩
  have big:(10000:Nat)≤sizeLine:=by decide
  refine⟨_,rfl,_,rfl,a1,a2,rfl,⟨_,.of e1⟩,⟨_,.of e2⟩,fun C hC=>?_⟩
  have n2:a2≠C:=aj e2 hC
  refine uk (xs:=xs.map V.int) (ys:=ys.map V.int) (fun i σ H'=>∃v1 v2:Option V,σ=[v1,v2]∧Same H H'∧H' C=some (.lst ((List.zipWith (· * ·) (xs.take i) (ys.take i)).map V.int))) (by rw[List.length_map,List.length_map];exact hl)
   ⟨none,none,?sg,Same.new hC,af⟩ (fun i σ H' _ ⟨_,_,_,s',_⟩=>⟨.of (s' _ _ e1),.of (s' _ _ e2)⟩) ?_ ?_
  case sg=>rfl
  ·rintro i u v p σ H1 hu hv ⟨v1,v2,rfl,s1,c1⟩ hp
   obtain⟨x,rfl,ex⟩:=gV hu
   obtain⟨y,rfl,ey⟩:=gV hv
   have hb:=hx x (List.mem_of_getElem? ex)
   have sp:=Same.new (o:=.tup [.int x,.int y]) hp
   have hi:=(List.getElem?_eq_some_iff.mp ex).1
   refine⟨p,_,rfl,.of af,rfl,_,_,rfl,_,_,rfl,rfl,?_⟩
   refine⟨_,rfl,_,rfl,_,_,rfl,rfl,.inl ⟨by omega,by omega⟩,_,sp _ _ c1,?_,_,_,rfl,(s1.trans sp).kbn hC KB.write,?_⟩
   ·rw[List.length_map,List.length_zipWith,List.length_take,List.length_take];omega
   ·rw[af,zx ex ey,List.map_append];rfl
  rintro σ H1 ⟨v1,v2,rfl,s1,c1⟩
  rw[List.length_map,List.take_length,hl,List.take_length] at c1
  refine⟨C,_,rfl,.of c1,?_⟩
  rw[sk]
  exact k H1 s1
def Ha:Sp:=fun vs H Q _=>∃(b:Nat) (a:Addr) (ys:List Int),vs=[.int b,.ref a]∧b≤4∧H a=some (.lst (ys.map V.int))∧ys.length≤4∧∀(D:Addr) (H':Hp),H D=none→Same H H'→H' D=some (.lst (((lets b ys.length).map fun l=>dot l ys).map V.int))→Q (.ref D) H'
theorem sr (b:Nat):∀(n:Nat) (l:List Int),l∈lets b n→∀x∈l,0≤x∧x<b
 | 0,l,h,x,hx=>by rw[show l=[] from List.mem_singleton.mp h] at hx;cases hx
 | n+1,l,h,x,hx=>by
  obtain⟨l',h1,h2⟩:=List.mem_flatMap.mp (show l∈(lets b n).flatMap fun l=>(List.range b).map fun(f:Nat)=>l++[(f:Int)] from h)
  obtain⟨f,hf,rfl⟩:=List.mem_map.mp h2
  have:=List.mem_range.mp hf
  rcases List.mem_append.mp hx with z | z
  ·exact sr b n l' h1 x z
  ·rw[List.mem_singleton.mp z];omega
def b_ (b:Nat) (ys:List Int):List Int:=(lets b ys.length).map fun l=>dot l ys
theorem ow (b:Nat) (ys:List Int):(b_ b ys).length=b ^ ys.length:=by unfold b_;rw[List.length_map,fg]
theorem sv:aO ["base","times"] ["base","times"] (ah cJ):=⟨rfl,rfl,rfl,by decide+kernel,rfl,by decide+kernel,by decide+kernel⟩
theorem lG {a:bR} (T:Txt K mg a):aQ P w K mg base bj 2 a.gB a.iq ["base","times"] Ha:=by
 have i':=lC (P:=P) (w:=w) (base:=base) T
 have EE:=C_ (P:=P) (w:=w) (base:=base) T
 refine T.uK.ok sv (fun vs H Q E h=>?_) (fun cdv A outer s H vs Q E hr h=>?_)
 ·obtain⟨b,ta,ys,rfl,_⟩:=h
  rfl
 ·obtain⟨b,ta,ys,rfl,hb4,e,hy,k⟩:=h
  have iB:aP 1 _:=hr
  have C0:aP 1 _:=hr
  refine⟨_,(av (aK (ck (aF.mk' (esc:=ah cJ) (N:=["base","times"]) (own:=["letter"]) (aB:=["times"]) (bE:=[1]) rfl rfl (by decide+kernel)) rfl (dn (aC i' iB rfl T.mP T.mQ T.mR .nil aR (ae (pv 0) (ae (aG (bt K) (by rfl) T.cS cf (ae (pv 1) ag)) ag)))) (fun _ _ _ _=>(aI (i:=0) (show List.Nodup (["letter","times"]:List Str) by decide+kernel) rfl (Or.inl rfl))) (fun _ _ _ _=>bL) (fun _ _ _ _=>(aC EE C0 rfl T.Eh T.Ei T.Ej .nil aR (ae (pv 0) (ae (pv 1) ag))))))),?_⟩
  have big:(10000:Nat)≤sizeLine:=by decide
  refine⟨_,rfl,_,rfl,.ref ta,ys.length,rfl,.inl ⟨_,.of e,by rw[List.length_map]⟩,b,ys.length,rfl,hb4,hy,fun D ps H1 hD s1 d1 tp=>?_⟩
  refine⟨D,rfl,⟨_,.of d1⟩,fun C hC=>?_⟩
  have e1:=s1 _ _ e
  have hpl:ps.length≤256:=by
   rw[Paired.length tp,fg];exact dH hb4 hy
  refine fB (xs:=ps.map V.ref) (fun i σ H'=>∃v:Option V,σ=[v,some (.ref ta)]∧Same H1 H'∧H' C=some (.lst ((((lets b ys.length).take i).map fun l=>dot l ys).map V.int)))
   ⟨none,?sg,Same.new hC,af⟩ (fun i σ H' _ ⟨_,_,s',_⟩=>.of (s' _ _ d1)) ?_ ?_
  case sg=>rfl
  ·rintro i x σ H' hx ⟨v,rfl,s',c'⟩
   obtain⟨p,rfl,ep⟩:=oT hx
   obtain⟨l,el,hl⟩:=tp.get ep
   have hm:=List.mem_of_getElem? el
   have hi:=(List.getElem?_eq_some_iff.mp ep).1
   refine⟨_,rfl,_,rfl,p,ta,l,ys,rfl,s' _ _ hl,s' _ _ e1,jO b _ l hm,by omega,fun x hx=>by have:=sr b _ l hm x hx;omega,fun H2 s2=>?_⟩
   refine⟨_,s2 _ _ c',?_,_,rfl,(s'.trans s2).kbn hC KB.write,?_⟩
   ·rw[List.length_map,List.length_map,List.length_take];omega
   ·rw[af,take_snoc el,List.map_append,List.map_append];rfl
  rintro σ H' ⟨v,rfl,s',c'⟩
  rw[List.length_map,Paired.length tp,List.take_length] at c'
  exact k C H' (s1.free hC) (s1.trans s') c'
def Hb:Sp:=fun vs H Q _=>∃(sy a b nm:Addr) (w0:V) (t u:Term) (ss:List Str),vs=[.ref sy,.ref nm]∧H sy=some (.tup [w0,.ref a,.ref b])∧cx H a t∧cx H b u∧t.parts.length≤100∧u.parts.length≤100∧H nm=some (.tup (ss.map V.str))∧ss.length≤100∧
 ∀(D:Addr) (H':Hp),H D=none→Same H H'→H' D=some (.lst ((ss.map fun n=>t.at n-u.at n).map V.int))→Q (.ref D) H'
theorem uz {ss:List Str} {i:Nat} {n:Str} (t u:Term) (h:ss[i]? =some n):(((ss.take (i+1)).map fun n=>t.at n-u.at n).map V.int)=(((ss.take i).map fun n=>t.at n-u.at n).map V.int)++[.int (t.at n-u.at n)]:=by
 rw[take_snoc h,List.map_append,List.map_append];rfl
theorem iE:aO ["saying","names","left","right"] ["saying","names"] (ah cK):=⟨rfl,rfl,rfl,by decide+kernel,rfl,by decide+kernel,by decide+kernel⟩
theorem lH {a:bR} (T:Txt K mg a):aQ P w K mg base bj 2 a.gC a.iu ["saying","names"] Hb:=by
 have rl:=yu (P:=P) (w:=w) (base:=base) T
 refine T.uL.ok iE (fun vs H Q E h=>?_) (fun cdv A outer s H vs Q E hr h=>?_)
 ·obtain⟨sy,ta,tb,nm,w0,t,u,ss,rfl,_⟩:=h
  rfl
 ·obtain⟨sy,ta,tb,nm,w0,t,u,ss,rfl,es,e1,e2,l1,l2,en,ls,k⟩:=h
  have pB:aP 1 _:=hr
  refine⟨_,(ai (az (i:=2) iE.nd rfl (Or.inl rfl) (aC rl pB rfl T.qP T.qQ T.qR .nil aR (ae (aL (aJ K) (pv 0) ao (fun _ _=>rfl)) (ae (pv 1) ag))))
  (ai (az (i:=3) iE.nd rfl (Or.inl rfl) (aC rl pB rfl T.qP T.qQ T.qR .nil aR (ae (aL (aJ K) (pv 0) ao (fun _ _=>rfl)) (ae (pv 1) ag))))
  (av (aK (ck (aF.mk' (esc:=ah cK) (N:=["saying","names","left","right"]) (own:=["one","other"]) (aB:=[]) (bE:=[]) rfl rfl (by decide+kernel)) rfl (Bw rfl T.vA (ae (pv 2) (ae (pv 3) ag))) (fun _ _ _ _=>(oM K (n:=2) rfl (cG (aI (i:=0) (show List.Nodup (["one","other"]:List Str) by decide+kernel) rfl (Or.inl rfl)) (cG (aI (i:=1) (show List.Nodup (["one","other"]:List Str) by decide+kernel) rfl (Or.inl rfl)) js)))) (fun _ _ _ _=>bL) (fun _ _ _ _=>(aH cP (pv 0) (pv 1)))))))),?_⟩
  have big:(10000:Nat)≤sizeLine:=by decide
  refine⟨_,rfl,sy,_,_,.ref ta,rfl,rfl,.of es,aD (j:=1) rfl,_,rfl,ta,nm,t,ss,rfl,e1,l1,en,ls,fun D1 H1 hD1 s1 d1=>?_⟩
  dsimp only[aM]
  refine⟨_,rfl,sy,_,_,.ref tb,rfl,rfl,.of (s1 _ _ es),aD (j:=2) rfl,_,rfl,tb,nm,u,ss,rfl,e2.keep s1.kt,l2,s1 _ _ en,ls,fun D2 H2 hD2 s2 d2=>?_⟩
  dsimp only[aM]
  have NI:=s2 _ _ d1
  refine⟨_,rfl,_,rfl,D1,D2,rfl,⟨_,.of NI⟩,⟨_,.of d2⟩,fun C hC=>?_⟩
  refine wF (xs:=(ss.map t.at).map V.int) (ys:=(ss.map u.at).map V.int) (fun i σ H'=>∃v1 v2:Option V,σ=[v1,v2]∧Same H2 H'∧H' C=some (.lst (((ss.take i).map fun n=>t.at n-u.at n).map V.int))) (by rw[List.length_map,List.length_map,List.length_map,List.length_map])
   ⟨none,none,?sg,Same.new hC,af⟩ (fun i σ H' _ ⟨_,_,_,s',_⟩=>⟨.of (s' _ _ NI),.of (s' _ _ d2)⟩) ?_ ?_
  case sg=>rfl
  ·rintro i x y p σ H' hx hy ⟨v1,v2,rfl,s',c'⟩ hp
   obtain⟨x,rfl,ex⟩:=gV hx
   obtain⟨y,rfl,ey⟩:=gV hy
   rw[List.getElem?_map] at ex ey
   obtain⟨n,en',rfl⟩:=Option.map_eq_some_iff.mp ex
   rw[en'] at ey
   have ey:=Option.some.inj ey
   subst ey
   have hi:=(List.getElem?_eq_some_iff.mp en').1
   have sp:=Same.new (o:=.tup [.int (t.at n),.int (u.at n)]) hp
   refine⟨p,_,rfl,.of af,rfl,_,_,rfl,_,_,rfl,rfl,?_⟩
   refine⟨_,rfl,_,rfl,_,_,rfl,rfl,_,sp _ _ c',?_,_,_,rfl,(s'.trans sp).kbn hC KB.write,?_⟩
   ·rw[List.length_map,List.length_map,List.length_take];omega
   ·rw[af,uz t u en']
  rintro σ H' ⟨v1,v2,rfl,s',c'⟩
  rw[List.length_map,List.length_map,List.take_length] at c'
  exact k C H' ((s1.trans s2).free hC) ((s1.trans s2).trans s') c'
def C1 (b:Nat):Option Int→Int→Option Int
 | none,_=>none
 | some r,t=>if(r-t) % (b:Int)=0 then some ((r-t) / (b:Int)) else none
def xT:Sp:=fun vs H Q _=>∃(b:Nat) (r:Option Int) (t:Int),vs=[.int b,oV r,.int t]∧2≤b∧b≤4∧Q (oV (C1 b r t)) H
theorem sx:aO ["base","room","total"] ["base","room","total"] (ah dq):=⟨rfl,rfl,rfl,by decide+kernel,rfl,by decide+kernel,by decide+kernel⟩
theorem sC {a:bR} (T:Txt K mg a):aQ P w K mg base bj 1 a.fi a.fP ["base","room","total"] xT:=by
 refine T.uM.ok sx (fun vs H Q E h=>?_) (fun cdv A outer s H vs Q E hr h=>?_)
 ·obtain⟨b,r,t,rfl,_⟩:=h
  rfl
 ·obtain⟨b,r,t,rfl,hb2,hb4,k⟩:=h
  refine⟨_,(ai (cu (PW.pt (oC (a_ nj (pv 1) dB (aY _)) (kK (a_ oE (aH d6 (aH cP (pv 1) (pv 2)) (pv 0)) ao (aY _)))))
   (av (aK dB))
   bD)
  (av (aK (aH ig (aH cP (pv 1) (pv 2)) (pv 0))))),?_⟩
  have lg:((b:Nat):Int).natAbs.log2<9000:=by
   rw[Int.natAbs_natCast]
   exact Nat.lt_of_le_of_lt (Nat.log2_le_self b) (by omega)
  refine⟨_,rfl,rfl,_,rfl,?_⟩
  cases r with
  | none=>
   refine bH (fun _=>?_) (fun z=>absurd rfl z)
   exact bH (fun _=>k) (fun z=>absurd rfl z)
  | some r=>
   refine bH (fun z=>absurd z (by simp[oV])) (fun _=>?_)
   refine⟨_,rfl,_,rfl,_,_,rfl,rfl,_,rfl,_,_,rfl,rfl,by show(0:Int)<_;omega,rfl,_,rfl,?_⟩
   have k':Q (oV (if(r-t) % (b:Int)=0 then some ((r-t) / (b:Int)) else none)) H:=k
   by_cases hz:(r-t) % (b:Int)=0
   ·rw[if_pos hz] at k'
    refine bH (fun z=>absurd z (by show ¬(!decide (V.int ((r-t) % (b:Int))=V.int 0))=true;rw[hz];decide)) (fun _=>?_)
    exact⟨_,rfl,_,rfl,_,_,rfl,rfl,_,rfl,_,_,rfl,rfl,⟨by omega,lg⟩,k'⟩
   ·rw[if_neg hz] at k'
    exact bH (fun _=>k') (fun z=>absurd (by simp[hz]) z)
def FE:List (Pos×Str):=[(⟨100,13,100,71⟩,(("same_growth":Str)++".<locals>.")++"<lambda>"),(⟨101,27,101,49⟩,(("same_growth":Str)++".<locals>.")++"<lambda>")]
def FF:List (Pos×Str):=[(⟨105,13,105,63⟩,(("less_growth":Str)++".<locals>.")++"<lambda>"),(⟨106,27,106,49⟩,(("less_growth":Str)++".<locals>.")++"<lambda>")]
def JY:List (Pos×Str):=[(⟨216,4,221,59⟩,(("_law_due":Str)++".<locals>.")++"_law_onward")]
structure TB (a:bR) (H:Hp):Prop where
 sm:Tab H a.bF FE
 le:Tab H a.bG FF
 du:Tab H a.fq JY
def KX (a:bR) (H H':Hp):Prop:=∀b o,H b=some o→(∀qs,o≠.f' qs)→H' b=some o
theorem KX.trans {a:bR} {H H1 H2:Hp} (x:KX a H H1) (y:KX a H1 H2):KX a H H2:=fun b o e n=>y b o (x b o e n) n
theorem KX.same {a:bR} {H H':Hp} (s:Same H H'):KX a H H':=fun b o e _=>s b o e
theorem KX.kt {a:bR} {H H':Hp} (x:KX a H H'):aZ H H':=fun b xs e=>x b _ e fun _ z=>nomatch z
theorem KX.kb {a:bR} {H H':Hp} {T:Addr} {L:List (Pos×Str)} (t:Tab H T L) (k:KB T H H'):KX a H H':=fun b o e n=>k b o e fun z=>by
 obtain⟨qs,h,_⟩:=t
 rw[z,h] at e
 exact n qs (Option.some.inj e).symm
theorem _root_.L2.Tab.zy {H H':Hp} {T d:Addr} {L L':List (Pos×Str)} (x:Tab H T L) (y:Tab H d L') (s:KB d H H') (hd:T≠d):Tab H' T L:=by
 obtain⟨ps,h1,h2,h3⟩:=x
 obtain⟨qs,g,_⟩:=y
 refine⟨ps,s _ _ h1 hd,h2,fun p hp=>?_⟩
 rcases h3 p hp with z | ⟨c,z1,z2⟩
 ·exact .inl z
 ·exact .inr ⟨c,z1,s _ _ z2 fun e=>by rw[e,g] at z2;cases z2⟩
theorem TB.same {a:bR} {H H':Hp} (t:TB a H) (s:Same H H'):TB a H':=⟨t.sm.same s,t.le.same s,t.du.same s⟩
section
variable {K:PySem.W.Frag} {mg:Str→Option Value} {a:bR} {H H':Hp}
theorem TB.NJ (T:Txt K mg a) (t:TB a H) (k:KB a.bF H H') (y:Tab H' a.bF FE):TB a H':=⟨y,t.le.zy t.sm k T.tne01.symm,t.du.zy t.sm k T.tne04.symm⟩
theorem TB.kle (T:Txt K mg a) (t:TB a H) (k:KB a.bG H H') (y:Tab H' a.bG FF):TB a H':=⟨t.sm.zy t.le k T.tne01,y,t.du.zy t.le k T.tne14.symm⟩
theorem TB.Uz (T:Txt K mg a) (t:TB a H) (k:KB a.fq H H') (y:Tab H' a.fq JY):TB a H':=⟨t.sm.zy t.du k T.tne04,t.le.zy t.du k T.tne14,y⟩
end
theorem apart2 {p q:Pos×Str} (h:p.1.line≠q.1.line):Apart [p,q]:=fun a ha b hb e _=>by
 rcases List.mem_cons.mp ha with z | z<;>rcases List.mem_cons.mp hb with y | y
 ·rw[z,y]
 ·rw[z,List.mem_singleton.mp y] at e;exact absurd e h
 ·rw[y,List.mem_singleton.mp z] at e;exact absurd e.symm h
 ·rw[List.mem_singleton.mp z,List.mem_singleton.mp y]
def zz (ls:Bool) (b:Nat) (su:List Int) (r:Option Int) (c:Nat):Option Int:=if ls then r.map fun i=>(i-su.getD c 0) / (b:Int) else C1 b r (su.getD c 0)
def jc (ls:Bool) (r:Option Int):Bool:=if ls then(match r with | some i=>decide (0≤i) | none=>false) else decide (r=some 0)
def ox (ls:Bool) (r:Option Int):Prop:=ls=true→r.isSome=true
def bT (ls:Bool) (t u:Term):Int:=if ls then u.num-t.num-1 else u.num-t.num
def h_ (sa:Addr) (su:List Int) (H:Hp):Prop:=H sa=some (.lst (su.map V.int))
theorem h_.kx {a:bR} {sa:Addr} {su:List Int} {H H':Hp} (e:h_ sa su H) (k:KX a H H'):h_ sa su H':=k _ _ e fun _ y=>nomatch y
theorem h_.df {sa:Addr} {su:List Int} {H:Hp} {D:List Addr} (hD:∀a∈D,∃φ,H a=some (.ext φ)) (e:h_ sa su H):h_ sa su (L2.df D H):=wy hD e (fun _ y=>nomatch y)
theorem xU {ls:Bool} {b:Nat} {su:List Int} {r:Option Int} {c:Nat} (h:ox ls r):ox ls (zz ls b su r c):=fun e=>by
 subst e
 obtain⟨i,rfl⟩:=Option.isSome_iff_exists.mp (h rfl)
 rfl
def FG (P:Program) (w:World) (K:PySem.W.Frag) (mg:Str→Option Value) (base:Heap) (a:bR) (ls:Bool):Sp:=fun vs H Q _=>∃(b:Nat) (nm sy ta tb:Addr) (w0:V) (t u:Term) (ss:List Str),vs=[.int b,.ref nm,.ref sy]∧2≤b∧b≤4∧H sy=some (.tup [w0,.ref ta,.ref tb])∧cx H ta t∧cx H tb u∧t.parts.length≤100∧u.parts.length≤100∧H nm=some (.tup (ss.map V.str))∧ss.length≤4∧TB a H∧
 ∀(g f1 f2 sa:Addr) (D:List Addr) (H':Hp),KX a H H'→TB a H'→(∀a∈D,∃φ,H' a=some (.ext φ))→h_ sa (b_ b (ss.map fun n=>t.at n-u.at n)) H'→H' g=some (.tup [.int (bT ls t u),.ref f1,.ref f2])→
  gL P w K mg base H' D 2 f1 2 (r9 (pV P w) (b ^ ss.length) (zz ls b (b_ b (ss.map fun n=>t.at n-u.at n))) (ox ls) (h_ sa (b_ b (ss.map fun n=>t.at n-u.at n))))→
  gL P w K mg base H' D 2 f2 1 (Ao (pV P w) (jc ls) (ox ls) (h_ sa (b_ b (ss.map fun n=>t.at n-u.at n))))→Q (.ref g) H'
theorem fW:aO ["base","names","saying","sums","first","onward"] ["base","names","saying"] (ah bx):=⟨rfl,rfl,rfl,by decide+kernel,rfl,by decide+kernel,by decide+kernel⟩
set_option maxHeartbeats 16000000 in
theorem sG {a:bR} (T:Txt K mg a) (hB:dW mg base):aQ P w K mg base bj 3 a.cL a.iw ["base","names","saying"] (FG P w K mg base a false):=by
 have jd:=lG (P:=P) (w:=w) (base:=base) T
 have je:=lH (P:=P) (w:=w) (base:=base) T
 refine T.uQ.okR fW (fun vs H Q E h=>?_) (fun Ar outer sh H vs Q E inj hr h=>?_)
 ·obtain⟨b,nm,sy,ta,tb',w0,t,u,ss,rfl,_⟩:=h
  rfl
 ·obtain⟨b,nm,sy,ta,tb',w0,t,u,ss,rfl,hb2,hb4,es,e1,e2,l1,l2,rb,ls,tb,q⟩:=h
  have iF:aP 2 _:=hr
  have iG:aP 2 _:=hr
  refine⟨_,jt (az (i:=3) fW.nd rfl (Or.inr rfl) (aC jd iF rfl T.mV T.mW T.mX .nil aR (ae (pv 0) (ae (aC je iG rfl T.mY T.mZ T.m_ .nil aR (ae (pv 2) (ae (pv 1) ag))) ag))))
   (jt (az (i:=4) fW.nd rfl (Or.inl rfl) (aH cP (aL (aJ K) (aL (aJ K) (pv 2) ao (fun _ _=>rfl)) ao (fun _ _=>rfl)) (aL (aJ K) (aL (aJ K) (pv 2) ao (fun _ _=>rfl)) ao (fun _ _=>rfl))))
   (jt (az (i:=5) fW.nd rfl (Or.inl rfl) (oR (T:=a.bF) (L:=FE) rfl T.m3 hB rfl rfl (List.mem_cons_self) (apart2 (by decide)) rfl))
   (BR (bo (ae (pv 4) (ae (pv 5) (ae (oR (T:=a.bF) (L:=FE) rfl T.m3 hB rfl rfl (List.mem_cons_of_mem _ List.mem_cons_self) (apart2 (by decide)) rfl) ag))))))),?_⟩
  refine⟨_,rfl,_,rfl,_,rfl,sy,ta,tb',nm,w0,t,u,ss,rfl,es,e1,e2,l1,l2,rb,by omega,fun D0 H0 pe s0 d0=>?_⟩
  refine⟨b,D0,_,rfl,hb4,d0,by rw[List.length_map];exact ls,fun sa H1 hsa s1' d1=>?_⟩
  have s1:=s0.trans s1'
  rw[show((lets b (ss.map fun n=>t.at n-u.at n).length).map fun l=>dot l (ss.map fun n=>t.at n-u.at n))=b_ b (ss.map fun n=>t.at n-u.at n) from rfl] at d1
  have rm:(b_ b (ss.map fun n=>t.at n-u.at n)).length=b ^ ss.length:=by rw[ow,List.length_map]
  generalize b_ b (ss.map fun n=>t.at n-u.at n)=su at d1 q rm
  dsimp only[aM]
  obtain⟨b1,ps1,a11,_⟩:=e1.keep s1.kt
  obtain⟨UA,ps2,a21,_⟩:=e2.keep s1.kt
  have es1:=s1 _ _ es
  refine⟨_,rfl,sy,_,_,.ref tb',rfl,rfl,.of es1,aD (j:=2) rfl,tb',_,_,.int u.num,rfl,rfl,.of a21,aD (j:=0) rfl,_,rfl,sy,_,_,.ref ta,rfl,rfl,.of es1,aD (j:=1) rfl,ta,_,_,.int t.num,rfl,rfl,.of a11,aD (j:=0) rfl,_,_,rfl,rfl,?_⟩
  have ev1:h_ sa su H1:=d1
  have pC:=tb.same s1
  dsimp only[aM]
  refine⟨pC.sm,fun f1 d1 Pe H3 hf1 JZ J_ EF kb3=>?_⟩
  have k3:KX a H1 H3:=KX.kb pC.sm kb3
  have kq:=pC.NJ T kb3 EF
  dsimp only[aM]
  refine⟨_,rfl,_,rfl,kq.sm,fun f2 d2 Pf H5 hf2 J0 J4 EG C4=>?_⟩
  have J5:KX a H3 H5:=KX.kb kq.sm C4
  have zA:=kq.NJ T C4 EG
  refine⟨by show 3≤sizeLine;decide,fun g hg=>?_⟩
  have sg:=Same.new (o:=.tup [.int (bT false t u),.ref f1,.ref f2]) hg
  obtain⟨c1,h1⟩:∃c,(PyProof.Rows.envOfC "same_growth" (ah bx) sh.heap.objs.size a.cL (.ref a.fj)).cells.lookup ("base":Str)=some c:=fz rfl
  obtain⟨c2',h2⟩:∃c,(PyProof.Rows.envOfC "same_growth" (ah bx) sh.heap.objs.size a.cL (.ref a.fj)).cells.lookup ("sums":Str)=some c:=fz rfl
  let l:List (Nat×Str×Addr×V):=[(0,"base",c1,.int (b:Nat)),(3,"sums",c2',.ref sa)]
  have C:uf (i4 bj P w K mg base ["base","names","saying","sums","first","onward"] "same_growth" (ah bx) a.cL (.ref a.fj) Ar outer sh H E) [some (.int (b:Nat)),some (.ref nm),some (.ref sy),some (.ref sa),some (.int (bT false t u)),some (.ref f1)] l:=
   ⟨List.forall_mem_cons.mpr ⟨⟨rfl,rfl,rfl,h1⟩,List.forall_mem_cons.mpr ⟨⟨rfl,rfl,rfl,h2⟩,fun _ h=>nomatch h⟩⟩,show(["base","sums"]:List Str).Nodup by decide+kernel⟩
  refine⟨kD l,C.cells,fun fr=>?_⟩
  have sm:=ka fr
  have g1:=C.got inj (upd H5 g (.tup [.int (bT false t u),.ref f1,.ref f2])) (q:=(0,"base",c1,.int (b:Nat))) (by simp[l])
  have g2:=C.got inj (upd H5 g (.tup [.int (bT false t u),.ref f1,.ref f2])) (q:=(3,"sums",c2',.ref sa)) (by simp[l])
  have s6:=sg.trans sm
  have rn:=J5.trans (KX.same s6)
  have xV:=rn _ _ JZ fun _ y=>nomatch y
  have xW:=rn _ _ J_ fun _ y=>nomatch y
  have xX:=s6 _ _ J0
  have xY:=s6 _ _ J4
  have zB:=h_.kx ev1 (k3.trans rn)
  have J6:∀x∈[f1,d1,f2,d2,c1,c2'],∃φ,i7 (kD l) (upd H5 g (.tup [.int (bT false t u),.ref f1,.ref f2])) x=some (.ext φ):=fun x hx=>by
   simp only[List.mem_cons,List.not_mem_nil,or_false] at hx
   rcases hx with z | z | z | z | z | z
   ·rw[z];exact⟨_,xV⟩
   ·rw[z];exact⟨_,xW⟩
   ·rw[z];exact⟨_,xX⟩
   ·rw[z];exact⟨_,xY⟩
   ·rw[z];exact⟨_,g1⟩
   ·rw[z];exact⟨_,g2⟩
  refine q g f1 f2 sa [f1,d1,f2,d2,c1,c2'] _ ((KX.same s1).trans (k3.trans rn)) (zA.same s6) J6 zB (sm _ _ af) ?_ ?_
  ·refine gL.lam xV (by simp) xW (by simp) (ps:=["room","letter"]) (aB:=["base","sums"]) (fvs:=[.int (b:Nat),.ref sa]) (eU.mk' rfl rfl rfl (by decide+kernel) (by decide+kernel) (by decide+kernel) (by decide+kernel) (by decide+kernel)) inj (List.forall_mem_cons.mpr ⟨⟨rfl,List.mem_of_getElem? (i:=1) rfl⟩,List.forall_mem_cons.mpr ⟨⟨rfl,List.mem_of_getElem? (i:=0) rfl⟩,fun _ h=>nomatch h⟩⟩)
    (.cons ⟨c1,rfl,h1,by simp,g1⟩ (.cons ⟨c2',rfl,h2,by simp,g2⟩ .nil)) (fun us hl=>match us,hl with | [_,_],_=>rfl) (fun vs H Q E h=>?_) (fun base' W A outer s H vs Q E hr h=>?_)
   ·obtain⟨x,v,c,rfl,_⟩:=h
    rfl
   ·obtain⟨S,vv,c,rfl,rfl,nY,hc,ev,kk⟩:=h
    have C5:su[c]? =some (su.getD c 0):=item_at 0 (by rw[rm];exact hc)
    have vm:aQ P w K mg base' bj 1 a.fi a.fP ["base","room","total"] xT:=sC T
    have hr1:aP 1 _:=hr
    refine⟨_,aC vm hr1 (by rfl) T.uN T.uO T.uP .nil aR (ae (pv 2) (ae (pv 0) (ae (aL (dM K) (pv 3) (pv 1) (fun _ _=>rfl)) ag))),?_⟩
    exact⟨_,rfl,_,rfl,_,rfl,_,rfl,sa,_,_,.int (su.getD c 0),rfl,rfl,.of ev,aD (by rw[List.getElem?_map,C5];rfl),b,S,_,rfl,hb2,hb4,kk _ H (.refl _) rfl⟩
  ·refine gL.lam xX (by simp) xY (by simp) (ps:=["room"]) (aB:=[]) (fvs:=[]) (eU.mk' rfl rfl rfl (by decide+kernel) (by decide+kernel) (by decide+kernel) (by decide+kernel) (by decide+kernel)) inj (fun _ h=>nomatch h)
    .nil (fun us hl=>match us,hl with | [_],_=>rfl) (fun vs H Q E h=>?_) (fun base' W A outer s H vs Q E hr h=>?_)
   ·obtain⟨x,v,rfl,_⟩:=h
    rfl
   ·obtain⟨S,vv,rfl,rfl,nY,ev,kk⟩:=h
    refine⟨_,fN g5 (pv 0) ao (aY _),?_⟩
    have key:decide (oV S=V.int 0)=jc false S:=by
     cases S with
     | none=>rfl
     | some i=>
      show decide (V.int i=V.int 0)=decide ((some i:Option Int)=some 0)
      by_cases e:i=0
      ·subst e;rfl
      ·rw[decide_eq_false (fun z=>e (V.int.inj z)),decide_eq_false (fun z=>e (Option.some.inj z))]
    refine⟨_,rfl,by cases S<;>rfl,?_⟩
    rw[key]
    exact kk H (.refl _)
theorem fX:aO ["base","names","saying","sums","first","onward"] ["base","names","saying"] (ah bz):=⟨rfl,rfl,rfl,by decide+kernel,rfl,by decide+kernel,by decide+kernel⟩
set_option maxHeartbeats 16000000 in
theorem sH {a:bR} (T:Txt K mg a) (hB:dW mg base):aQ P w K mg base bj 3 a.cM a.ix ["base","names","saying"] (FG P w K mg base a true):=by
 have jd:=lG (P:=P) (w:=w) (base:=base) T
 have je:=lH (P:=P) (w:=w) (base:=base) T
 refine T.uV.okR fX (fun vs H Q E h=>?_) (fun Ar outer sh H vs Q E inj hr h=>?_)
 ·obtain⟨b,nm,sy,ta,tb',w0,t,u,ss,rfl,_⟩:=h
  rfl
 ·obtain⟨b,nm,sy,ta,tb',w0,t,u,ss,rfl,hb2,hb4,es,e1,e2,l1,l2,rb,ls,tb,q⟩:=h
  have iF:aP 2 _:=hr
  have iG:aP 2 _:=hr
  refine⟨_,jt (az (i:=3) fX.nd rfl (Or.inr rfl) (aC jd iF rfl T.mV T.mW T.mX .nil aR (ae (pv 0) (ae (aC je iG rfl T.mY T.mZ T.m_ .nil aR (ae (pv 2) (ae (pv 1) ag))) ag))))
   (jt (az (i:=4) fX.nd rfl (Or.inl rfl) (aH cP (aH cP (aL (aJ K) (aL (aJ K) (pv 2) ao (fun _ _=>rfl)) ao (fun _ _=>rfl)) (aL (aJ K) (aL (aJ K) (pv 2) ao (fun _ _=>rfl)) ao (fun _ _=>rfl))) ao))
   (jt (az (i:=5) fX.nd rfl (Or.inl rfl) (oR (T:=a.bG) (L:=FF) rfl T.m4 hB rfl rfl (List.mem_cons_self) (apart2 (by decide)) rfl))
   (BR (bo (ae (pv 4) (ae (pv 5) (ae (oR (T:=a.bG) (L:=FF) rfl T.m4 hB rfl rfl (List.mem_cons_of_mem _ List.mem_cons_self) (apart2 (by decide)) rfl) ag))))))),?_⟩
  refine⟨_,rfl,_,rfl,_,rfl,sy,ta,tb',nm,w0,t,u,ss,rfl,es,e1,e2,l1,l2,rb,by omega,fun D0 H0 pe s0 d0=>?_⟩
  refine⟨b,D0,_,rfl,hb4,d0,by rw[List.length_map];exact ls,fun sa H1 hsa s1' d1=>?_⟩
  have s1:=s0.trans s1'
  rw[show((lets b (ss.map fun n=>t.at n-u.at n).length).map fun l=>dot l (ss.map fun n=>t.at n-u.at n))=b_ b (ss.map fun n=>t.at n-u.at n) from rfl] at d1
  have rm:(b_ b (ss.map fun n=>t.at n-u.at n)).length=b ^ ss.length:=by rw[ow,List.length_map]
  generalize b_ b (ss.map fun n=>t.at n-u.at n)=su at d1 q rm
  dsimp only[aM]
  obtain⟨b1,ps1,a11,_⟩:=e1.keep s1.kt
  obtain⟨UA,ps2,a21,_⟩:=e2.keep s1.kt
  have es1:=s1 _ _ es
  refine⟨_,rfl,sy,_,_,.ref tb',rfl,rfl,.of es1,aD (j:=2) rfl,tb',_,_,.int u.num,rfl,rfl,.of a21,aD (j:=0) rfl,_,rfl,sy,_,_,.ref ta,rfl,rfl,.of es1,aD (j:=1) rfl,ta,_,_,.int t.num,rfl,rfl,.of a11,aD (j:=0) rfl,_,_,rfl,rfl,_,_,rfl,rfl,?_⟩
  have ev1:h_ sa su H1:=d1
  have pC:=tb.same s1
  dsimp only[aM]
  refine⟨pC.le,fun f1 d1 Pe H3 hf1 JZ J_ EF kb3=>?_⟩
  have k3:KX a H1 H3:=KX.kb pC.le kb3
  have kq:=pC.kle T kb3 EF
  dsimp only[aM]
  refine⟨_,rfl,_,rfl,kq.le,fun f2 d2 Pf H5 hf2 J0 J4 EG C4=>?_⟩
  have J5:KX a H3 H5:=KX.kb kq.le C4
  have zA:=kq.kle T C4 EG
  refine⟨by show 3≤sizeLine;decide,fun g hg=>?_⟩
  have sg:=Same.new (o:=.tup [.int (bT true t u),.ref f1,.ref f2]) hg
  obtain⟨c1,h1⟩:∃c,(PyProof.Rows.envOfC "less_growth" (ah bz) sh.heap.objs.size a.cM (.ref a.fk)).cells.lookup ("base":Str)=some c:=fz rfl
  obtain⟨c2',h2⟩:∃c,(PyProof.Rows.envOfC "less_growth" (ah bz) sh.heap.objs.size a.cM (.ref a.fk)).cells.lookup ("sums":Str)=some c:=fz rfl
  let l:List (Nat×Str×Addr×V):=[(0,"base",c1,.int (b:Nat)),(3,"sums",c2',.ref sa)]
  have C:uf (i4 bj P w K mg base ["base","names","saying","sums","first","onward"] "less_growth" (ah bz) a.cM (.ref a.fk) Ar outer sh H E) [some (.int (b:Nat)),some (.ref nm),some (.ref sy),some (.ref sa),some (.int (bT true t u)),some (.ref f1)] l:=
   ⟨List.forall_mem_cons.mpr ⟨⟨rfl,rfl,rfl,h1⟩,List.forall_mem_cons.mpr ⟨⟨rfl,rfl,rfl,h2⟩,fun _ h=>nomatch h⟩⟩,show(["base","sums"]:List Str).Nodup by decide+kernel⟩
  refine⟨kD l,C.cells,fun fr=>?_⟩
  have sm:=ka fr
  have g1:=C.got inj (upd H5 g (.tup [.int (bT true t u),.ref f1,.ref f2])) (q:=(0,"base",c1,.int (b:Nat))) (by simp[l])
  have g2:=C.got inj (upd H5 g (.tup [.int (bT true t u),.ref f1,.ref f2])) (q:=(3,"sums",c2',.ref sa)) (by simp[l])
  have s6:=sg.trans sm
  have rn:=J5.trans (KX.same s6)
  have xV:=rn _ _ JZ fun _ y=>nomatch y
  have xW:=rn _ _ J_ fun _ y=>nomatch y
  have xX:=s6 _ _ J0
  have xY:=s6 _ _ J4
  have zB:=h_.kx ev1 (k3.trans rn)
  have J6:∀x∈[f1,d1,f2,d2,c1,c2'],∃φ,i7 (kD l) (upd H5 g (.tup [.int (bT true t u),.ref f1,.ref f2])) x=some (.ext φ):=fun x hx=>by
   simp only[List.mem_cons,List.not_mem_nil,or_false] at hx
   rcases hx with z | z | z | z | z | z
   ·rw[z];exact⟨_,xV⟩
   ·rw[z];exact⟨_,xW⟩
   ·rw[z];exact⟨_,xX⟩
   ·rw[z];exact⟨_,xY⟩
   ·rw[z];exact⟨_,g1⟩
   ·rw[z];exact⟨_,g2⟩
  refine q g f1 f2 sa [f1,d1,f2,d2,c1,c2'] _ ((KX.same s1).trans (k3.trans rn)) (zA.same s6) J6 zB (sm _ _ af) ?_ ?_
  ·refine gL.lam xV (by simp) xW (by simp) (ps:=["room","letter"]) (aB:=["base","sums"]) (fvs:=[.int (b:Nat),.ref sa]) (eU.mk' rfl rfl rfl (by decide+kernel) (by decide+kernel) (by decide+kernel) (by decide+kernel) (by decide+kernel)) inj (List.forall_mem_cons.mpr ⟨⟨rfl,List.mem_of_getElem? (i:=1) rfl⟩,List.forall_mem_cons.mpr ⟨⟨rfl,List.mem_of_getElem? (i:=0) rfl⟩,fun _ h=>nomatch h⟩⟩)
    (.cons ⟨c1,rfl,h1,by simp,g1⟩ (.cons ⟨c2',rfl,h2,by simp,g2⟩ .nil)) (fun us hl=>match us,hl with | [_,_],_=>rfl) (fun vs H Q E h=>?_) (fun base' W A outer s H vs Q E hr h=>?_)
   ·obtain⟨x,v,c,rfl,_⟩:=h
    rfl
   ·obtain⟨S,vv,c,rfl,rfl,nY,hc,ev,kk⟩:=h
    have C5:su[c]? =some (su.getD c 0):=item_at 0 (by rw[rm];exact hc)
    obtain⟨i,rfl⟩:∃i,S=some i:=Option.isSome_iff_exists.mp (nY rfl)
    refine⟨_,aH ig (aH cP (pv 0) (aL (dM K) (pv 3) (pv 1) (fun _ _=>rfl))) (pv 2),?_⟩
    have lg:((b:Nat):Int).natAbs.log2<9000:=by
     rw[Int.natAbs_natCast]
     exact Nat.lt_of_le_of_lt (Nat.log2_le_self b) (by omega)
    exact⟨_,rfl,_,rfl,_,rfl,sa,_,_,.int (su.getD c 0),rfl,rfl,.of ev,aD (by rw[List.getElem?_map,C5];rfl),_,_,rfl,rfl,_,rfl,_,_,rfl,rfl,⟨by omega,lg⟩,kk _ H (.refl _) rfl⟩
  ·refine gL.lam xX (by simp) xY (by simp) (ps:=["room"]) (aB:=[]) (fvs:=[]) (eU.mk' rfl rfl rfl (by decide+kernel) (by decide+kernel) (by decide+kernel) (by decide+kernel) (by decide+kernel)) inj (fun _ h=>nomatch h)
    .nil (fun us hl=>match us,hl with | [_],_=>rfl) (fun vs H Q E h=>?_) (fun base' W A outer s H vs Q E hr h=>?_)
   ·obtain⟨x,v,rfl,_⟩:=h
    rfl
   ·obtain⟨S,vv,rfl,rfl,nY,ev,kk⟩:=h
    obtain⟨i,rfl⟩:∃i,S=some i:=Option.isSome_iff_exists.mp (nY rfl)
    refine⟨_,fN zL (pv 0) ao (aY _),?_⟩
    exact⟨_,rfl,_,_,rfl,rfl,kk H (.refl _)⟩
def mD (ls:Bool) (t u:Term):au:=if ls then .less t u else .same t u
def fY (ls:Bool):Str:=if ls then "less" else "same"
def cU (t u:Term) (ks:List Str):List Int:=ks.map fun n=>t.at n-u.at n
def mE (H:Hp) (sy ta tb:Addr) (ls:Bool) (t u:Term):Prop:=H sy=some (.tup [.str (fY ls),.ref ta,.ref tb])∧cx H ta t∧cx H tb u
theorem mE.keep {H H':Hp} {sy ta tb:Addr} {ls:Bool} {t u:Term} (h:mE H sy ta tb ls t u) (k:aZ H H'):mE H' sy ta tb ls t u:=⟨k _ _ h.1,h.2.1.keep k,h.2.2.keep k⟩
theorem cx.dat {K:PySem.W.Frag} {H:Hp} {a:Addr} {t:Term} (h:cx H a t):aq K H (.ref a) t.dt:=by
 obtain⟨b,ps,h1,h2,h3⟩:=h
 refine kY (.of h1) (bY yQ (bY (kY (.of h2) ?_) eS))
 clear h1 h2
 generalize t.parts=l at h3
 induction h3 with
 | nil=>exact eS
 | cons h _ ih=>exact bY (kY (.of h) (bY rO (bY yQ eS))) ih
theorem mE.dat {K:PySem.W.Frag} {H:Hp} {sy ta tb:Addr} {ls:Bool} {t u:Term} (h:mE H sy ta tb ls t u):aq K H (.ref sy) (mD ls t u).dt:=by
 obtain⟨h1,h2,h3⟩:=h
 cases ls
 ·exact kY (.of h1) (bY rO (bY h2.dat (bY h3.dat eS)))
 ·exact kY (.of h1) (bY rO (bY h2.dat (bY h3.dat eS)))
def Hc (P:Program) (w:World) (K:PySem.W.Frag) (mg:Str→Option Value) (base:Heap) (a:bR):Sp:=fun vs H Q _=>∃(ls:Bool) (b:Nat) (wo nm sy ta tb:Addr) (wv:V) (t u:Term) (ss:List Str),vs=[.ref wo,.ref nm,.ref sy]∧2≤b∧b≤4∧H wo=some (.tup [.int b,wv])∧mE H sy ta tb ls t u∧t.parts.length≤100∧u.parts.length≤100∧H nm=some (.tup (ss.map V.str))∧ss.length≤4∧TB a H∧
 ∀(g f1 f2 sa:Addr) (D:List Addr) (H':Hp),KX a H H'→TB a H'→(∀a∈D,∃φ,H' a=some (.ext φ))→h_ sa (b_ b (cU t u ss)) H'→H' g=some (.tup [.int (bT ls t u),.ref f1,.ref f2])→
  gL P w K mg base H' D 2 f1 2 (r9 (pV P w) (b ^ ss.length) (zz ls b (b_ b (cU t u ss))) (ox ls) (h_ sa (b_ b (cU t u ss))))→
  gL P w K mg base H' D 2 f2 1 (Ao (pV P w) (jc ls) (ox ls) (h_ sa (b_ b (cU t u ss))))→Q (.ref g) H'
theorem sI:aO ["world","names","saying","base","row","sums","onward","is_yes"] ["world","names","saying"] (ah bW):=⟨rfl,rfl,rfl,by decide+kernel,rfl,by decide+kernel,by decide+kernel⟩
theorem ro:aO ["world","names","saying","base","one","other","left","right","onward","is_yes"] ["world","names","saying"] (ah bO):=⟨rfl,rfl,rfl,by decide+kernel,rfl,by decide+kernel,by decide+kernel⟩
theorem sJ:aO ["world","names","saying"] ["world","names","saying"] (ah dr):=⟨rfl,rfl,rfl,by decide+kernel,rfl,by decide+kernel,by decide+kernel⟩
theorem sO {a:bR} (T:Txt K mg a) (hB:dW mg base):aQ P w K mg base bj 4 a.gE a.iz ["world","names","saying"] (Hc P w K mg base a):=by
 have vn:=sG (P:=P) (w:=w) (base:=base) T hB
 have vo:=sH (P:=P) (w:=w) (base:=base) T hB
 have vp:aQ P w K mg base bj 1 a.gD a.iy ["world","names","saying"] (fun _ _ _ _=>False):=T.uZ.okR sI (fun vs H Q E h=>h.elim) (fun Ar outer sh H vs Q E inj hr h=>h.elim)
 have sQ:aQ P w K mg base bj 1 a.fQ a.hU ["world","names","saying"] (fun _ _ _ _=>False):=T.rX.okR ro (fun vs H Q E h=>h.elim) (fun Ar outer sh H vs Q E inj hr h=>h.elim)
 refine T.u4.ok sJ (fun vs H Q E h=>?_) (fun cdv A outer s H vs Q E hr h=>?_)
 ·obtain⟨ls,b,wo,nm,sy,ta,tb',wv,t,u,ss,rfl,_⟩:=h
  rfl
 ·obtain⟨ls,b,wo,nm,sy,ta,tb',wv,t,u,ss,rfl,hb2,hb4,ew,⟨es,e1,e2⟩,l1,l2,en,l4,tb,q⟩:=h
  have sS:aP 3 _:=hr
  have sU:aP 3 _:=hr
  have sX:aP 1 _:=hr.mono (by decide)
  have rq:aP 1 _:=hr.mono (by decide)
  refine⟨_,(ai (cu (a_ g5 (aL (aJ K) (pv 2) ao (fun _ _=>rfl)) bb (aY _))
   (av (aK (aC vn sS rfl T.uR T.uS T.uT .nil aR (ae (aL (aJ K) (pv 0) ao (fun _ _=>rfl)) (ae (pv 1) (ae (pv 2) ag))))))
   bD)
  (ai (cu (a_ g5 (aL (aJ K) (pv 2) ao (fun _ _=>rfl)) bb (aY _))
   (av (aK (aC vo sU rfl T.uW T.uX T.uY .nil aR (ae (aL (aJ K) (pv 0) ao (fun _ _=>rfl)) (ae (pv 1) (ae (pv 2) ag))))))
   bD)
  (ai (cu (a_ g5 (aL (aJ K) (pv 2) ao (fun _ _=>rfl)) bb (aY _))
   (av (aK (aC vp sX rfl T.u_ T.u0 T.u3 .nil aR (ae (pv 0) (ae (pv 1) (ae (pv 2) ag))))))
   bD)
  (av (aK (aC sQ rq rfl T.rY T.rZ T.r_ .nil aR (ae (pv 0) (ae (pv 1) (ae (pv 2) ag))))))))),?_⟩
  refine⟨_,rfl,sy,_,_,.str (fY ls),rfl,rfl,.of es,aD (j:=0) rfl,by cases ls<;>rfl,_,rfl,?_⟩
  cases ls with
  | false=>
   refine bH (fun _=>?_) (fun z=>absurd (by decide) z)
   exact⟨_,rfl,wo,_,_,.int (b:Nat),rfl,rfl,.of ew,aD (j:=0) rfl,_,rfl,_,rfl,b,nm,sy,ta,tb',_,t,u,ss,rfl,hb2,hb4,es,e1,e2,l1,l2,en,l4,tb,q⟩
  | true=>
   refine bH (fun z=>absurd z (by decide)) (fun _=>?_)
   refine⟨_,rfl,sy,_,_,.str (fY true),rfl,rfl,.of es,aD (j:=0) rfl,rfl,_,rfl,?_⟩
   refine bH (fun _=>?_) (fun z=>absurd (by decide) z)
   exact⟨_,rfl,wo,_,_,.int (b:Nat),rfl,rfl,.of ew,aD (j:=0) rfl,_,rfl,_,rfl,b,nm,sy,ta,tb',_,t,u,ss,rfl,hb2,hb4,es,e1,e2,l1,l2,en,l4,tb,q⟩
abbrev uA (ls:Bool) (b:Nat) (t u:Term) (ks:List Str):Option Int→Nat→Option Int:=zz ls b (b_ b (cU t u ks))
def qk (a:bR):Sp:=fun vs H Q _=>∃(ls:Bool) (b most:Nat) (wo sy ta tb:Addr) (wv:V) (t u:Term) (ss:List Str),vs=[.ref wo,.ref sy,.int most]∧2≤b∧b≤4∧H wo=some (.tup [.int b,wv])∧mE H sy ta tb ls t u∧(mD ls t u).Over ss∧ss.length≤4∧most≤10000∧TB a H∧
 (∀(ks:List Str) (xs:List (Option Int)) (H':Hp),KX a H H'→TB a H'→cR ks (mD ls t u)→xs.Nodup→(∀x∈xs,∃w,dk (b ^ ks.length) w∧x=fb (uA ls b t u ks) (some (bT ls t u)) w)→most<xs.length→Q .non H')∧
 ∀(ks:List Str) (p nm:Addr) (xs:List (Option Int)) (mv:List (List Nat)) (H':Hp),KX a H H'→TB a H'→cR ks (mD ls t u)→qU H' p nm (xs.map (jc ls)) mv→H' nm=some (.tup (ks.map V.str))→mv.length=xs.length→xs.length≤most→bU (some (bT ls t u)) (uA ls b t u ks) (b ^ ks.length) xs mv→Q (.ref p) H'
theorem C6 {ls:Bool} {t u:Term} {ss:List Str} (h:(mD ls t u).Over ss):d_ ss t∧d_ ss u:=by cases ls<;>exact h
theorem rA:aO ["world","saying","most","names"] ["world","saying","most"] (ah cn):=⟨rfl,rfl,rfl,by decide+kernel,rfl,by decide+kernel,by decide+kernel⟩
theorem AA {a:bR} {pb:kI} {pc:mC} (T:Txt K mg a) (hB:dW mg base) (U:iO K w.params mg pb) (Y:jo K w.params mg pc):aQ P w K mg base bj 5 a.iY a.hV ["world","saying","most"] (qk a):=by
 have xZ:aQ P w K mg base bj 4 a.fI a.gA ["saying"] (CY K):=vj T U Y
 have vq:=sO (P:=P) (w:=w) (base:=base) T hB
 have x2:=vd (P:=P) (w:=w) (base:=base) T 2
 refine T.Ca.ok rA (fun vs H Q E h=>?_) (fun Ar outer s H vs Q E hr h=>?_)
 ·obtain⟨ls,b,most,wo,sy,ta,tb',wv,t,u,ss,rfl,_⟩:=h
  rfl
 ·obtain⟨ls,b,most,wo,sy,ta,tb',wv,t,u,ss,rfl,hb2,hb4,ew,sat,ov,l4,hm,tb,q0,q⟩:=h
  have vt:aP 4 _:=hr
  have tf:aP 4 _:=hr
  have vw:aP 4 _:=hr
  refine⟨_,(ai (az (i:=3) rA.nd rfl (Or.inl rfl) (aC xZ vt rfl T.xf T.xg T.xh .nil aR (ae (pv 1) ag)))
  (av (aK (aC x2 vw rfl T.wQ T.wR T.wU .nil aR (ae (aL (aJ K) (pv 0) ao (fun _ _=>rfl)) (ae (pv 3) (ae (aC vq tf rfl T.u5 T.u6 T.u9 .nil aR (ae (pv 0) (ae (pv 3) (ae (pv 1) ag)))) (ae (pv 2) ag)))))))),?_⟩
  have hov:=C6 ov
  refine⟨_,rfl,_,_,ss,rfl,sat.dat,by cases ls<;>exact Nat.zero_le _,ov,by omega,fun nm ks H1 s1 en fr=>?_⟩
  have lk:ks.length≤4:=Nat.le_trans (fr.len ov) l4
  dsimp only[aM]
  have NK:=s1 _ _ ew
  refine⟨_,rfl,wo,_,_,.int (b:Nat),rfl,rfl,.of NK,aD (j:=0) rfl,_,rfl,_,rfl,_,rfl,_,rfl,ls,b,wo,nm,sy,ta,tb',wv,t,u,ks,rfl,hb2,hb4,NK,sat.keep s1.kt,by have:=hov.1.1;omega,by have:=hov.2.1;omega,en,lk,tb.same s1,fun g f1 f2 sa D H2 k2 tb2 hD ev eg F1 F2=>?_⟩
  refine⟨_,rfl,b,most,nm,g,ks,Option Int,pV P w,uA ls b t u ks,jc ls,ox ls,h_ sa (b_ b (cU t u ks)),some (bT ls t u),_,f1,f2,D,rfl,hb4,lk,k2.kt _ _ en,eg,hD,F1,F2,fun _ _ h _=>xU h,fun H H' e s=>s _ _ e,fun D H hD e=>e.df hD,rfl,fun _=>rfl,ev,hm,fun xs H3 s3 nd rc lt=>?_,fun xs mv p H3 s3 hl hle gr m6=>?_⟩
  ·exact q0 ks xs H3 ((KX.same s1).trans (k2.trans (KX.same s3))) (tb2.same s3) fr nd rc lt
  ·exact q ks p nm xs mv H3 ((KX.same s1).trans (k2.trans (KX.same s3))) (tb2.same s3) fr m6 (s3 _ _ (k2.kt _ _ en)) hl hle gr
theorem cj.ktu {H H':Hp} {F L:Addr} (h:cj H F L) (k:eG F L H H'):aZ H H':=fun b ys e=>by
 obtain⟨ms,n,sd,e1,e2,_⟩:=h.ex
 exact k b _ e (fL e e1 (fun z=>nomatch z)) (fL e e2 (fun z=>nomatch z))
abbrev oy (H:Hp):List Addr→List (Str×Int)→Prop:=Paired (fun(p:Addr) (q:Str×Int)=>H p=some (.tup [.str q.1,.int q.2]))
theorem oy.keep {H H':Hp} {ps:List Addr} {qs:List (Str×Int)} (h:oy H ps qs) (k:aZ H H'):oy H' ps qs:=Paired.lJ h fun _ _ z=>k _ _ z
def J7:Sp:=fun vs H Q _=>∃(F L nm:Addr) (ss:List Str),vs=[.ref F,.ref nm]∧cj H F L∧H nm=some (.tup (ss.map V.str))∧ss.length≤3∧
 ∀(ta:Addr) (t:Term) (H':Hp),eG F L H H'→cj H' F L→cx H' ta t→d_ ss t→Q (.ref ta) H'
theorem uB:aO ["_law_feed_here","_law_names_here","_law_parts"] ["_law_feed_here","_law_names_here"] (ah gP):=⟨rfl,rfl,rfl,by decide+kernel,rfl,by decide+kernel,by decide+kernel⟩
set_option maxHeartbeats 16000000 in
theorem C7 {a:bR} (T:Txt K mg a):aQ P w K mg base bj 2 a.mq a.nO ["_law_feed_here","_law_names_here"] J7:=by
 have cN:=nT (P:=P) (w:=w) (base:=base) T
 refine T.Ep.ok uB (fun vs H Q E h=>?_) (fun cdv A outer s H vs Q E hr h=>?_)
 ·obtain⟨F,L,nm,ss,rfl,_⟩:=h
  rfl
 ·obtain⟨F,L,nm,ss,rfl,hf,en,ls,k⟩:=h
  have cp:aP 1 _:=hr
  refine⟨_,(ai (g7 (i:=2) (aF.mk' (esc:=ah gP) (N:=["_law_feed_here","_law_names_here","_law_parts"]) (own:=["_law_name"]) (aB:=["_law_feed_here"]) (bE:=[0]) rfl rfl (by decide+kernel)) rfl (iR (pv 1)) (fun _ _ _ _=>(aI (i:=0) (show List.Nodup (["_law_name","_law_feed_here"]:List Str) by decide+kernel) rfl (Or.inl rfl))) (fun _ _ _ _=>(lW (a_ qm (aC cN cp rfl T.dR T.dS T.dU .nil aR (ae (pv 1) (ae ao ag))) ao (aY _)))) (fun _ _ _ _=>(bo (ae (pv 0) (ae (aH iS ao (aC cN cp rfl T.dR T.dS T.dU .nil aR (ae (pv 1) (ae (aL (dM K) (cD (ae ao (ae ao ag))) (aC cN cp rfl T.dR T.dS T.dU .nil aR (ae (pv 1) (ae ao ag))) (fun _ _=>rfl)) ag)))) ag)))) uB.nd rfl rfl)
  (av (aK (bo (ae (aL (dM K) (cD (ae (aC cN cp rfl T.dR T.dS T.dU .nil aR (ae (pv 0) (ae ao ag))) (ae (aC cN cp rfl T.dR T.dS T.dU .nil aR (ae (pv 0) (ae ao ag))) ag))) (aC cN cp rfl T.dR T.dS T.dU .nil aR (ae (pv 0) (ae ao ag))) (fun _ _=>rfl)) (ae (bC (cb K) (by rfl) T.cZ cy (ae (pv 2) ag)) ag)))))),?_⟩
  have J8:(2 ^ 10:Nat)<2 ^ 1000:=Nat.pow_lt_pow_right (by decide) (by decide)
  have big:(10000:Nat)≤sizeLine:=by decide
  have small:∀x:Nat,x≤1000→x<2 ^ 1000:=fun x hx=>Nat.lt_trans (show x<2 ^ 10 by omega) J8
  refine aX fun Y hY=>?_
  refine⟨_,rfl,nm,rfl,⟨_,.of en⟩,fun C hC=>?_⟩
  have nC:=hf.zj hC
  refine ie (xs:=ss.map V.str) (fun i σ H'=>∃(ps:List Addr) (qs:List (Str×Int)) (v:Option V),σ=[v,some (.ref F)]∧eG F L H H'∧cj H' F L∧H' C=some (.lst (ps.map V.ref))∧oy H' ps qs∧qs.length≤i∧∀q∈qs,q.1∈ss)
   ⟨[],[],none,?sg,(Same.new hC).kb2,hf.same (Same.new hC),af,.nil,Nat.le_refl _,fun q hq=>(by cases hq)⟩ (fun i σ H' _ ⟨_,_,_,_,k',_⟩=>.of (hf.ktu k' _ _ en)) ?_ ?_
  case sg=>rfl
  ·rintro i x σ H1 hx ⟨ps,qs,v,rfl,k1,f1,c1,tp,lq,hq⟩
   obtain⟨n,rfl,en'⟩:=kZ hx
   have hi:=(List.getElem?_eq_some_iff.mp en').1
   have lp:ps.length=qs.length:=Paired.length tp
   refine⟨_,rfl,F,L,3,rfl,f1,by decide,small _ (by decide),fun r H2 r1 k2 f2=>⟨_,_,rfl,rfl,_,rfl,?_⟩⟩
   have NL:=f1.ktu k2
   have c2:=k2 _ _ c1 nC.1 nC.2
   refine bH (fun _=>?_) (fun _=>⟨ps,qs,_,rfl,k1.trans k2,f2,c2,tp.keep NL,by omega,hq⟩)
   refine⟨_,rfl,_,rfl,by show 2≤sizeLine;decide,fun Z hZ=>?_⟩
   have sZ:=Same.new (o:=.lst [.int 2,.int 9]) hZ
   have nZ:=f2.zj hZ
   refine⟨_,rfl,F,L,2,rfl,f2.same sZ,by decide,small _ (by decide),fun r2 H3 q2 k3 f3=>?_⟩
   obtain⟨d,hd,hd0,WY⟩:∃d:Nat,o7 ([.int 2,.int 9]:List V) (r2:Int)=some (.int (d:Nat))∧0<d∧d≤9:=by
    match r2,q2 with
    | 0,_=>exact⟨2,rfl,by decide,by decide⟩
    | 1,_=>exact⟨9,rfl,by decide,by decide⟩
   refine⟨Z,_,_,.int (d:Nat),rfl,rfl,.of (k3 _ _ af nZ.1 nZ.2),hd,F,L,d,rfl,f3,hd0,small _ (by omega),fun r3 H4 q3 k4 f4=>⟨_,_,rfl,rfl,by show 2≤sizeLine;decide,fun p hp=>?_⟩⟩
   have sp:=Same.new (o:=.tup [.str n,.int (1+(r3:Int))]) hp
   have k24:=((sZ.kb2.trans k3).trans k4).trans sp.kb2
   have kA:=k1.trans (k2.trans k24)
   have f5:=f4.same sp
   have c5:=k24 _ _ c2 nC.1 nC.2
   have FH:oy (upd H4 p (.tup [.str n,.int (1+(r3:Int))])) ps qs:=(tp.keep NL).keep (f2.ktu k24)
   have e5:(upd H4 p (.tup [.str n,.int (1+(r3:Int))])) p=some (.tup [.str n,.int (1+(r3:Int))]):=af
   generalize upd H4 p (.tup [.str n,.int (1+(r3:Int))])=H5 at kA f5 c5 FH e5 ⊢
   have kC:aZ H5 (upd H5 C (.lst (ps.map V.ref++[.ref p]))):=aZ.lst c5
   refine⟨_,c5,by rw[List.length_map];omega,ps++[p],qs++[(n,1+(r3:Int))],_,rfl,eG.EB kA hC,f5.upd nC,by rw[af,List.map_append];rfl,bw (FH.keep kC) (.cons (kC _ _ e5) .nil),by rw[List.length_append];show qs.length+1≤_;omega,fun q hq'=>?_⟩
   rcases List.mem_append.mp hq' with z | z
   ·exact hq q z
   ·rw[List.mem_singleton.mp z];exact List.mem_of_getElem? en'
  rintro σ H1 ⟨ps,qs,v,rfl,k1,f1,c1,tp,lq,hq⟩
  rw[List.length_map] at lq
  dsimp only[aM]
  subst hY
  refine⟨_,rfl,F,L,5,rfl,f1,by decide,small _ (by decide),fun r1 H2 q1 k2 f2=>⟨_,rfl,F,L,100,rfl,f2,by decide,small _ (by decide),fun r2 H3 q2 k3 f3=>⟨by show 2≤sizeLine;decide,fun Z hZ=>?_⟩⟩⟩
  have sZ:=Same.new (o:=.lst [.int (r1:Nat),.int (r2:Nat)]) hZ
  have nZ:=f3.zj hZ
  refine⟨_,rfl,F,L,2,rfl,f3.same sZ,by decide,small _ (by decide),fun r3 H4 q3 k4 f4=>?_⟩
  obtain⟨d,hd⟩:∃d:Nat,o7 ([.int (r1:Nat),.int (r2:Nat)]:List V) (r3:Int)=some (.int (d:Nat)):=by
   match r3,q3 with
   | 0,_=>exact⟨r1,rfl⟩
   | 1,_=>exact⟨r2,rfl⟩
  have k14:=((k2.trans k3).trans sZ.kb2).trans k4
  have c4:=k14 _ _ c1 nC.1 nC.2
  refine⟨Z,_,_,.int (d:Nat),rfl,rfl,.of (k4 _ _ af nZ.1 nZ.2),hd,_,rfl,C,_,rfl,.inl ⟨.of c4,fun D hD=>?_⟩⟩
  have sD:=Same.new (o:=.tup (ps.map V.ref)) hD
  refine⟨by show 2≤sizeLine;decide,fun ta UB=>?_⟩
  have sT:=Same.new (o:=.tup [.int (d:Nat),.ref D]) UB
  have k15:=(k14.trans sD.kb2).trans sT.kb2
  exact k ta ⟨(d:Int),qs⟩ _ (k1.trans k15) (f4.same (sD.trans sT)) ⟨D,ps,af,sT _ _ af,tp.keep (f1.ktu k15)⟩ ⟨by show qs.length≤3;omega,hq⟩
section
variable {X:Cx} {pos:Pos} {name:Str} {params:Arguments} {body:List Stmt} {scope:Scope} {c T:Addr} {clos:List (Str×Addr)} {L:List (Pos×Str)}
theorem Hd {i:Nat} (hN:X.N.Nodup) (hi:X.N[i]? =some name) (hx:Loc X.env.scope name) (hcode:X.env.code=.ref c) (hC:PySem.W.codeHdIn X.K c T=true) (hB:dW X.mg X.base) (hcl:closureFor scope X.env=pure clos) (hd0:params.defaults=[]) (hk0:params.kw_defaults=[]) (ha:annTrees params none X.env=[])
  (hL:(pos,qualnameIn X.env name name)∈L) (ap:Apart L) (hf:X.fn name=true∨X.env.scope.names.lookup name=some .local:=by first | exact .inl rfl | exact .inr rfl | assumption):
  PS X (.FunctionDef name params body [] none [] scope none name pos) (IK X name params body scope clos T L i):=fun pins s σ H D I h=>IL hN hi hx hcode (PySem.W.codeHd_of_K I.ok.mod.m7 hC) hB hcl hd0 hk0 ha hL ap hf pins s σ H D I h
end
theorem FI {H:Hp} {a:Addr} {t:Term} (h:cx H a t):∃(b:Addr) (ps:List Addr),H a=some (.tup [.int t.num,.ref b])∧H b=some (.tup (ps.map V.ref))∧Paired (fun(p:Addr) (q:Key×V)=>H p=some (.tup [kV q.1,q.2])) ps (t.parts.map fu):=by
 obtain⟨b,ps,e1,e2,e3⟩:=h
 refine⟨b,ps,e1,e2,?_⟩
 clear e1 e2
 generalize t.parts=l at e3
 induction e3 with
 | nil=>exact .nil
 | cons h _ ih=>exact .cons h ih
theorem C8 (x:Int) {b:Int} (hb:0<b):(x-x % b) / b=x / b:=by
 have h:=Int.emod_add_mul_ediv x b
 have e:x-x % b=b*(x / b):=by omega
 rw[e,Int.mul_ediv_cancel_left _ (by omega)]
def Mq (a:bR):Sp:=fun vs H Q _=>∃(ls:Bool) (b:Nat) (ta tb nm:Addr) (t u:Term) (ks:List Str),vs=[.int b,.str (fY ls),.ref ta,.ref tb,.ref nm]∧2≤b∧b≤4∧cx H ta t∧cx H tb u∧t.parts.length≤100∧u.parts.length≤100∧H nm=some (.tup (ks.map V.str))∧ks.length≤4∧TB a H∧
 (∀(xs:List (Option Int)) (H':Hp),KX a H H'→TB a H'→xs.Nodup→(∀x∈xs,∃w,dk (b ^ ks.length) w∧x=fb (uA ls b t u ks) (some (bT ls t u)) w)→150<xs.length→Q .non H')∧
 ∀(p Yy va:Addr) (ps:List Addr) (xs:List (Option Int)) (mv:List (List Nat)) (H':Hp),KX a H H'→TB a H'→H' p=some (.tup [.ref nm,.ref Yy,.ref va])→H' Yy=some (.tup ((xs.map (jc ls)).map V.bl))→H' va=some (.tup (ps.map V.ref))→cE H' ps (mv.map bB)→mv.length=xs.length→xs.length≤150→bU (some (bT ls t u)) (uA ls b t u ks) (b ^ ks.length) xs mv→Q (.ref p) H'
theorem iH:aO ["_law_base","_law_word","_law_one","_law_other","_law_names_here","_law_times","_law_sums","_law_onward","_law_told","_law_yes"] ["_law_base","_law_word","_law_one","_law_other","_law_names_here"] (ah dv):=⟨rfl,rfl,rfl,by decide+kernel,rfl,by decide+kernel,by decide+kernel⟩
set_option maxHeartbeats 32000000 in
theorem EH {a:bR} (T:Txt K mg a) (hB:dW mg base):aQ P w K mg base bj 3 a.oS a.pW ["_law_base","_law_word","_law_one","_law_other","_law_names_here"] (Mq a):=by
 have yv:=xy (P:=P) (w:=w) (base:=base) T
 refine T.GW.ok iH (fun vs H Q E h=>?_) (fun Ar outer s H vs Q E hr h=>?_)
 ·obtain⟨ls,b,ta,tb',nm,t,u,ks,rfl,_⟩:=h
  rfl
 ·obtain⟨ls,b,ta,tb',nm,t,u,ks,rfl,hb2,hb4,e1,e2,l1,l2,en,lk,tb,q0,q⟩:=h
  have x3:aP 1 _:=hr.mono (by decide)
  refine⟨_,(ai (az (i:=5) iH.nd rfl (Or.inr rfl) (ck (aF.mk' (esc:=ah dv) (N:=["_law_base","_law_word","_law_one","_law_other","_law_names_here","_law_times","_law_sums","_law_onward","_law_told","_law_yes"]) (own:=["_law_name"]) (aB:=["_law_one","_law_other"]) (bE:=[2,3]) rfl rfl (by decide+kernel)) rfl (iR (pv 4)) (fun _ _ _ _=>(aI (i:=0) (show List.Nodup (["_law_name","_law_one","_law_other"]:List Str) by decide+kernel) rfl (Or.inl rfl))) (fun _ _ _ _=>bL) (fun _ _ _ _=>(aH cP (pM (bN hr) (bC (jm hr.hd) (by rfl) T.qT oK (ae (aL (aJ K) (pv 1) ao (fun _ _=>rfl)) ag)) (pv 0) ao ⟨rfl,rfl,rfl,rfl⟩) (pM (bN hr) (bC (jm hr.hd) (by rfl) T.qT oK (ae (aL (aJ K) (pv 2) ao (fun _ _=>rfl)) ag)) (pv 0) ao ⟨rfl,rfl,rfl,rfl⟩)))))
  (ai (az (i:=6) iH.nd rfl (Or.inr rfl) (ck (aF.mk' (esc:=ah dv) (N:=["_law_base","_law_word","_law_one","_law_other","_law_names_here","_law_times","_law_sums","_law_onward","_law_told","_law_yes"]) (own:=["_law_letter"]) (aB:=["_law_times"]) (bE:=[5]) rfl rfl (by decide+kernel)) rfl (dn (aC yv x3 rfl T.yo T.yp T.yq .nil aR (ae (pv 0) (ae (aG (bt K) (by rfl) T.cS cf (ae (pv 4) ag)) ag)))) (fun _ _ _ _=>(aI (i:=0) (show List.Nodup (["_law_letter","_law_times"]:List Str) by decide+kernel) rfl (Or.inl rfl))) (fun _ _ _ _=>bL) (fun _ _ _ _=>(aG (tZ K) (by rfl) T.Fp Bq (ae (ck (aF.mk' (esc:=_) (N:=["_law_letter","_law_times"]) (own:=["_law_figure","_law_many"]) (aB:=[]) (bE:=[]) rfl rfl (by rfl)) rfl (Ef K (by rfl) T.vA (ae (pv 0) (ae (pv 1) ag))) (fun _ _ _ _=>(oM K (n:=2) rfl (cG (aI (i:=0) (show List.Nodup (["_law_figure","_law_many"]:List Str) by decide+kernel) rfl (Or.inl rfl)) (cG (aI (i:=1) (show List.Nodup (["_law_figure","_law_many"]:List Str) by decide+kernel) rfl (Or.inl rfl)) js)))) (fun _ _ _ _=>bL) (fun _ _ _ _=>(aH iT (pv 0) (pv 1)))) ag)))))
  (ai (Hd (i:=7) (T:=a.fq) (L:=JY) iH.nd rfl (Or.inl rfl) rfl T.GX hB rfl rfl rfl rfl (List.mem_cons_self) (apart1 _))
  (ai (az (i:=8) iH.nd rfl (Or.inl rfl) (wx (k:=2) (fun _=>rfl) hr rfl T.Cn T.Co T.Cp (ae (aH cP (aH cP (aL (aJ K) (pv 3) ao (fun _ _=>rfl)) (aL (aJ K) (pv 2) ao (fun _ _=>rfl))) (bC A5 (by rfl) T.An vZ (ae (fN g5 (pv 1) bb (aY _)) ag))) (ae (aG (bt K) (by rfl) T.cS cf (ae (pv 6) ag)) (ae (pv 7) (ae ao ag))))))
  (ai (cu (a_ nj (pv 8) dB (aY _))
   (av (aK dB))
   bD)
  (ai (g7 (i:=9) (aF.mk' (esc:=ah dv) (N:=["_law_base","_law_word","_law_one","_law_other","_law_names_here","_law_times","_law_sums","_law_onward","_law_told","_law_yes"]) (own:=["_law_room"]) (aB:=["_law_word"]) (bE:=[1]) rfl rfl (by decide+kernel)) rfl (dn (aL (aJ K) (pv 8) ao (fun _ _=>rfl))) (fun _ _ _ _=>(aI (i:=0) (show List.Nodup (["_law_room","_law_word"]:List Str) by decide+kernel) rfl (Or.inl rfl))) (fun _ _ _ _=>bL) (fun _ _ _ _=>(vJ (fN rF (pv 0) dB (aY _)) (vJ (fN zL (pv 0) ao (aY _)) (vI (LS (fN g5 (pv 1) bb (aY _)) (vI (fN g5 (pv 0) ao (aY _)))))))) iH.nd rfl rfl)
  (av (aK (bo (ae (pv 4) (ae (bC (cb K) (by rfl) T.cZ cy (ae (pv 9) ag)) (ae (aL (aJ K) (pv 8) ao (fun _ _=>rfl)) ag)))))))))))),?_⟩
  have big:(10000:Nat)≤sizeLine:=by decide
  have hb0:0<b:=by omega
  have lg:((b:Nat):Int).natAbs.log2<9000:=by
   rw[Int.natAbs_natCast]
   exact Nat.lt_of_le_of_lt (Nat.log2_le_self b) (by omega)
  refine aX fun Y hY=>?_
  refine⟨_,rfl,nm,rfl,⟨_,.of en⟩,fun C hC=>?_⟩
  refine ie (xs:=ks.map V.str) (fun i σ H'=>∃v:Option V,σ=[v,some (.ref ta),some (.ref tb')]∧Same H H'∧H' C=some (.lst (((ks.take i).map fun n=>t.at n-u.at n).map V.int)))
   ⟨none,?sg,Same.new hC,af⟩ (fun i σ H' _ ⟨_,_,s',_⟩=>.of (s' _ _ en)) ?_ ?_
  case sg=>rfl
  ·rintro i x σ H1 hx ⟨v,rfl,s1,c1⟩
   obtain⟨n,rfl,en'⟩:=kZ hx
   have hi:=(List.getElem?_eq_some_iff.mp en').1
   obtain⟨b1,ps1,a1,a2,a3⟩:=FI (e1.keep s1.kt)
   refine⟨_,rfl,ta,_,_,.ref b1,rfl,rfl,.of a1,aD (j:=1) rfl,b1,ps1,_,rfl,a2,a3,by rw[List.length_map];omega,fun D1 hD1=>?_⟩
   have NM:=Same.new (o:=.dK (bQ [] (t.parts.map fu))) hD1
   refine⟨D1,rfl,.inl ⟨_,.inl af⟩,_,rfl,_,.inl ⟨_,Sum.inr n,.inl af,rfl,rfl⟩,?_⟩
   rw[t.xS n]
   have s2:=s1.trans NM
   obtain⟨b2,ps2,g1,g2,g3⟩:=FI (e2.keep s2.kt)
   refine⟨_,rfl,tb',_,_,.ref b2,rfl,rfl,.of g1,aD (j:=1) rfl,b2,ps2,_,rfl,g2,g3,by rw[List.length_map];omega,fun D2 hD2=>?_⟩
   have NN:=Same.new (o:=.dK (bQ [] (u.parts.map fu))) hD2
   refine⟨D2,rfl,.inl ⟨_,.inl af⟩,_,rfl,_,.inl ⟨_,Sum.inr n,.inl af,rfl,rfl⟩,?_⟩
   rw[u.xS n]
   have s3:=s2.trans NN
   refine⟨_,_,rfl,rfl,_,(NM.trans NN) _ _ c1,?_,_,rfl,s3.kbn hC KB.write,?_⟩
   ·rw[List.length_map,List.length_map,List.length_take];omega
   ·rw[af,uz t u en']
  rintro σ H1 ⟨v,rfl,s1,c1⟩
  rw[List.length_map,List.take_length,show(ks.map fun n=>t.at n-u.at n)=cU t u ks from rfl] at c1
  have J9:(cU t u ks).length=ks.length:=by unfold cU;rw[List.length_map]
  dsimp only[aM]
  subst hY
  refine aX fun Y hY=>?_
  refine⟨_,rfl,_,rfl,.ref nm,ks.length,rfl,.inr ⟨_,.of (s1 _ _ en),by rw[List.length_map]⟩,b,ks.length,rfl,hb4,lk,fun Dl pl H2 WZ s2 d2 tp=>?_⟩
  have c2:=s2 _ _ c1
  have hpl:pl.length≤256:=by rw[Paired.length tp,fg];exact dH hb4 lk
  refine⟨Dl,rfl,⟨_,.of d2⟩,fun S hS=>?_⟩
  refine fB (xs:=pl.map V.ref) (fun i σ H'=>∃v:Option V,σ=[v,some (.ref C)]∧Same H2 H'∧H' S=some (.lst ((((lets b ks.length).take i).map fun l=>dot l (cU t u ks)).map V.int)))
   ⟨none,?sg2,Same.new hS,af⟩ (fun i σ H' _ ⟨_,_,s',_⟩=>.of (s' _ _ d2)) ?_ ?_
  case sg2=>rfl
  ·rintro i x σ H3 hx ⟨v,rfl,s3,c3⟩
   obtain⟨p,rfl,ep⟩:=oT hx
   obtain⟨l,el,hl⟩:=tp.get ep
   have hm:=List.mem_of_getElem? el
   have hi:=(List.getElem?_eq_some_iff.mp ep).1
   have hll:l.length=(cU t u ks).length:=by rw[J9];exact jO b _ l hm
   have el3:=s3 _ _ hl
   have NP:=s3 _ _ c2
   refine⟨_,rfl,_,rfl,p,C,rfl,⟨_,.of el3⟩,⟨_,.of NP⟩,fun C2 NQ=>?_⟩
   refine uk (xs:=l.map V.int) (ys:=(cU t u ks).map V.int) (fun i σ H'=>∃v1 v2:Option V,σ=[v1,v2]∧Same H3 H'∧H' C2=some (.lst ((List.zipWith (· * ·) (l.take i) ((cU t u ks).take i)).map V.int))) (by rw[List.length_map,List.length_map];exact hll)
    ⟨none,none,?UC,Same.new NQ,af⟩ (fun i σ H' _ ⟨_,_,_,s',_⟩=>⟨.of (s' _ _ el3),.of (s' _ _ NP)⟩) ?_ ?_
   case UC=>rfl
   ·rintro i y z p2 σ H4 hy hz ⟨v1,v2,rfl,s4,c4⟩ hp
    obtain⟨y,rfl,ey⟩:=gV hy
    obtain⟨z,rfl,ez⟩:=gV hz
    have hb:=sr b _ l hm y (List.mem_of_getElem? ey)
    have sp:=Same.new (o:=.tup [.int y,.int z]) hp
    have hi:=(List.getElem?_eq_some_iff.mp ey).1
    refine⟨p2,_,rfl,.of af,rfl,_,_,rfl,_,_,rfl,rfl,?_⟩
    refine⟨_,rfl,_,rfl,_,_,rfl,rfl,.inl ⟨by omega,by omega⟩,_,sp _ _ c4,?_,_,_,rfl,(s4.trans sp).kbn NQ KB.write,?_⟩
    ·rw[List.length_map,List.length_zipWith,List.length_take,List.length_take];omega
    ·rw[af,zx ey ez,List.map_append];rfl
   rintro σ H4 ⟨v1,v2,rfl,s4,c4⟩
   rw[List.length_map,List.take_length,hll,List.take_length] at c4
   refine⟨C2,_,rfl,.of c4,?_⟩
   rw[sk]
   refine⟨_,s4 _ _ c3,?_,_,rfl,(s3.trans s4).kbn hS KB.write,?_⟩
   ·rw[List.length_map,List.length_map,List.length_take];omega
   ·rw[af,take_snoc el,List.map_append,List.map_append];rfl
  rintro σ H3 ⟨v,rfl,s3,c3⟩
  rw[List.length_map,Paired.length tp,List.take_length,show((lets b ks.length).map fun l=>dot l (cU t u ks))=b_ b (cU t u ks) by unfold b_;rw[J9]] at c3
  have rm:(b_ b (cU t u ks)).length=b ^ ks.length:=by rw[ow,J9]
  have NR:=(s1.trans s2).trans s3
  have kq:=tb.same NR
  dsimp only[aM]
  subst hY
  refine aX fun Y hY=>?_
  have CG:h_ S (b_ b (cU t u ks)) H3:=c3
  generalize NS:b_ b (cU t u ks)=su at CG rm
  refine⟨kq.du,fun f c' ctv doc H4 hf ef ec Pg NT=>?_⟩
  have k4:KX a H3 H4:=KX.kb kq.du NT
  have C9:TB a H4:=kq.Uz T NT Pg
  have NU:=CG.kx k4
  have kA:KX a H H4:=(KX.same NR).trans k4
  have W_:=kA.kt _ _ en
  obtain⟨b1,ps1,a1,_,_⟩:=e1.keep kA.kt
  obtain⟨b2,ps2,g1,_,_⟩:=e2.keep kA.kt
  dsimp only
  subst hY
  refine aX fun Y hY=>?_
  refine⟨_,rfl,tb',_,_,.int u.num,rfl,rfl,.of g1,aD (j:=0) rfl,_,rfl,ta,_,_,.int t.num,rfl,rfl,.of a1,aD (j:=0) rfl,_,_,rfl,rfl,_,rfl,by cases ls<;>rfl,.inr ⟨_,rfl,_,_,rfl,rfl,_,rfl,.ref S,b ^ ks.length,rfl,.inl ⟨_,.of NU,by rw[List.length_map,rm]⟩,_,rfl,?_⟩⟩
  have Ph:u.num-t.num-(if decide (V.str (fY ls)=V.str "less")=true then 1 else 0)=bT ls t u:=by
   cases ls with
   | false=>rw[if_neg (by decide)];show u.num-t.num-0=u.num-t.num;omega
   | true=>rw[if_pos (by decide)];rfl
  have hD:∀x∈[f,c'],∃φ,H4 x=some (.ext φ):=fun x hx=>by
   simp only[List.mem_cons,List.not_mem_nil,or_false] at hx
   rcases hx with z | z<;>subst z
   ·exact⟨_,ef⟩
   ·exact⟨_,ec⟩
  refine⟨[f,c'],hD,fun base' W'=>?_⟩
  have F1:FnAt P w K mg base' 1 f 2 (r9 (pV P w) (b ^ ks.length) (zz ls b su) (ox ls) (h_ S su)):=by
   refine FnAt.Mh (k:=0) W' ef (by simp) ec (by simp) (ps:=["_law_room","_law_k"]) (aB:=["_law_base","_law_sums","_law_word"]) (ls:=[]) (fvs:=[.int (b:Nat),.ref S,.str (fY ls)]) ⟨rfl,rfl,rfl,by decide+kernel,by decide+kernel,by decide+kernel,by decide+kernel,by decide+kernel⟩
    (List.forall_mem_cons.mpr ⟨rfl,List.forall_mem_cons.mpr ⟨rfl,List.forall_mem_cons.mpr ⟨rfl,fun _ h=>nomatch h⟩⟩⟩) (.cons ⟨0,rfl,rfl,rfl,rfl⟩ (.cons ⟨6,rfl,rfl,rfl,rfl⟩ (.cons ⟨1,rfl,rfl,rfl,rfl⟩ .nil))) (fun us hl=>match us,hl with | [_,_],_=>rfl) (fun vs H Q E h=>?_) (fun A outer s H vs Q E hr h=>?_)
   ·obtain⟨x,v,c,rfl,_⟩:=h
    rfl
   ·obtain⟨r,vv,c,rfl,rfl,ok,hc,ev,kk⟩:=h
    have C5:su[c]? =some (su.getD c 0):=item_at 0 (by rw[rm];exact hc)
    have FJ:o7 (su.map V.int) (c:Int)=some (.int (su.getD c 0)):=aD (by rw[List.getElem?_map,C5];rfl)
    refine⟨_,ai (cu (a_ g5 (pv 4) bb (aY _))
      (av (aK (aH ig (aH cP (aH cP (pv 0) (aL (dM K) (pv 3) (pv 1) (fun _ _=>rfl))) (aH d6 (aH cP (pv 0) (aL (dM K) (pv 3) (pv 1) (fun _ _=>rfl))) (pv 2))) (pv 2)))) bD)
     (ai (cu (PW.pt (oC (a_ nj (pv 0) dB (aY _)) (kK (a_ qm (aH d6 (aH cP (pv 0) (aL (dM K) (pv 3) (pv 1) (fun _ _=>rfl))) (pv 2)) ao (aY _)))))
      (av (aK dB)) bD)
     (av (aK (aH ig (aH cP (pv 0) (aL (dM K) (pv 3) (pv 1) (fun _ _=>rfl))) (pv 2))))),?_⟩
    refine⟨_,rfl,by cases ls<;>rfl,_,rfl,?_⟩
    cases ls with
    | true=>
     refine bH (fun _=>?_) (fun z=>absurd (by decide) z)
     obtain⟨i,rfl⟩:∃i,r=some i:=Option.isSome_iff_exists.mp (ok rfl)
     refine⟨_,rfl,_,rfl,_,rfl,S,_,_,_,rfl,rfl,.of ev,FJ,_,_,rfl,rfl,_,rfl,_,rfl,_,rfl,S,_,_,_,rfl,rfl,.of ev,FJ,_,_,rfl,rfl,_,rfl,_,_,rfl,rfl,by show(0:Int)<_;omega,_,_,rfl,rfl,_,rfl,_,_,rfl,rfl,⟨by omega,lg⟩,?_⟩
     refine kk _ H (.refl _) ?_
     show V.int ((i-su.getD c 0-(i-su.getD c 0) % (b:Int)) / (b:Int))=V.int ((i-su.getD c 0) / (b:Int))
     rw[C8 _ (by omega)]
    | false=>
     refine bH (fun z=>absurd z (by decide)) (fun _=>?_)
     refine⟨_,rfl,rfl,_,rfl,?_⟩
     cases r with
     | none=>
      refine bH (fun _=>?_) (fun z=>absurd rfl z)
      exact bH (fun _=>kk _ H (.refl _) rfl) (fun z=>absurd rfl z)
     | some i=>
      refine bH (fun z=>absurd z (by simp[oV])) (fun _=>?_)
      refine⟨_,rfl,_,rfl,_,rfl,S,_,_,_,rfl,rfl,.of ev,FJ,_,_,rfl,rfl,_,rfl,_,_,rfl,rfl,by show(0:Int)<_;omega,_,_,rfl,rfl,_,rfl,?_⟩
      have k':∀o,o=(if(i-su.getD c 0) % (b:Int)=0 then some ((i-su.getD c 0) / (b:Int)) else none)→Q (oV o) H:=fun o e=>kk _ H (.refl _) (by rw[e];rfl)
      have nn:0≤(i-su.getD c 0) % (b:Int):=Int.emod_nonneg _ (by omega)
      by_cases hz:(i-su.getD c 0) % (b:Int)=0
      ·refine bH (fun z=>absurd z (by show ¬decide ((0:Int)<(i-su.getD c 0) % (b:Int))=true;rw[hz];decide)) (fun _=>?_)
       refine⟨_,rfl,_,rfl,_,rfl,S,_,_,_,rfl,rfl,.of ev,FJ,_,_,rfl,rfl,_,rfl,_,_,rfl,rfl,⟨by omega,lg⟩,?_⟩
       exact k' (some ((i-su.getD c 0) / (b:Int))) (by rw[if_pos hz])
      ·refine bH (fun _=>k' none (by rw[if_neg hz])) (fun z=>absurd (decide_eq_true (by show(0:Int)<(i-su.getD c 0) % (b:Int);omega)) z)
  have UD:b ^ ks.length≤256:=dH hb4 lk
  refine⟨_,Ap (k:=1) T (pV P w) F1 (fun _ _ h _=>xU h) (fun H H' e s=>s _ _ e),?_⟩
  refine⟨some (bT ls t u),_,150,by rw[←Ph];rfl,rfl,fun _=>rfl,NU.df hD,by decide,by decide,by omega,fun xs H5 s5 UE NV UG n5=>?_,fun xs mv' vs p Rr va ps' H5 s5 T_ hl hle gr ep eR rp UH FH n5=>?_⟩
  ·have s6:=j9 s5
   generalize gJ [f,c'] H4 H5=H6 at s6 ⊢
   dsimp only[aM]
   subst hY
   refine⟨_,rfl,rfl,_,rfl,?_⟩
   refine bH (fun _=>?_) (fun z=>absurd rfl z)
   exact q0 xs H6 (kA.trans (KX.same s6)) (C9.same s6) UE (by rw[←NS] at NV;exact NV) UG
  have s6:=j9 s5
  have o5:∀{b:Addr} {o:HO},H5 b=some o→gJ [f,c'] H4 H5 b=some o:=fun {b o} e=>by
   rw[dP fun z=>?_]
   ·exact e
   ·rw[n5 b z] at e;cases e
  have n_:aZ H5 (gJ [f,c'] H4 H5):=fun b xs z=>o5 z
  have J':=o5 ep
  have oh:=o5 eR
  have zB:=o5 UH
  have NW:=FH.keep n_
  have qW:=rp.keep n_
  generalize gJ [f,c'] H4 H5=H6 at s6 J' oh zB NW qW ⊢
  have zh:vs.length=xs.length:=Paired.length qW
  rw[←NS] at gr
  have okx:∀x∈xs,ox ls x:=fun x hx=>by
   obtain⟨w',_,rfl⟩:=gr.reach x hx
   have:∀(w:List Nat) (r:Option Int),ox ls r→ox ls (fb (zz ls b (b_ b (cU t u ks))) r w):=by
    intro w
    induction w with
    | nil=>intro r h;exact h
    | cons c w ih=>intro r h;exact ih _ (xU h)
   exact this w' _ fun _=>rfl
  dsimp only[aM]
  subst hY
  refine aX fun Y hY=>?_
  refine⟨_,rfl,rfl,_,rfl,?_⟩
  refine bH (fun z=>absurd z (by simp)) (fun _=>?_)
  dsimp only[iI]
  subst hY
  refine aX fun Y hY=>?_
  refine⟨_,rfl,p,_,_,.ref Rr,rfl,rfl,.of J',aD (j:=0) rfl,Rr,rfl,⟨_,.of oh⟩,fun C3 NX=>?_⟩
  refine fB (xs:=vs) (fun i σ H'=>∃v0:Option V,σ=[v0,some (.str (fY ls))]∧Same H6 H'∧H' C3=some (.lst (((xs.take i).map (jc ls)).map V.bl)))
   ⟨none,?UI,Same.new NX,af⟩ (fun i σ H' _ ⟨_,_,s,_⟩=>.of (s _ _ oh)) ?_ ?_
  case UI=>rfl
  ·rintro i y σ H7 hy ⟨v0,rfl,s7,c7⟩
   obtain⟨r,hr',rfl⟩:=eV qW hy
   have hi:=(List.getElem?_eq_some_iff.mp hr').1
   have UJ:=okx r (List.mem_of_getElem? hr')
   have fin:∀z:Bool,z=jc ls r→∃ys,H7 C3=some (.lst ys)∧ys.length<sizeLine∧∃v0:Option V,[some (oV r),some (.str (fY ls))]=[v0,some (.str (fY ls))]∧Same H6 (upd H7 C3 (.lst (ys++[.bl z])))∧(upd H7 C3 (.lst (ys++[.bl z]))) C3=some (.lst (((xs.take (i+1)).map (jc ls)).map V.bl)):=fun z e=>by
    refine⟨_,c7,by rw[List.length_map,List.length_map,List.length_take];omega,_,rfl,s7.kbn NX KB.write,?_⟩
    rw[af,take_snoc hr',List.map_append,List.map_append,e];rfl
   refine⟨_,rfl,rfl,_,rfl,?_⟩
   cases r with
   | none=>
    refine bH (fun z=>absurd z (by decide)) (fun _=>?_)
    refine fin false ?_
    cases ls with
    | false=>rfl
    | true=>exact absurd (UJ rfl) (by decide)
   | some j=>
    refine bH (fun _=>?_) (fun z=>absurd (by simp[oV]) z)
    refine⟨_,rfl,_,_,rfl,rfl,_,rfl,?_⟩
    by_cases hj:0≤j
    ·refine bH (fun _=>?_) (fun z=>absurd (decide_eq_true hj) z)
     refine⟨_,rfl,by cases ls<;>rfl,_,rfl,?_⟩
     cases ls with
     | true=>
      refine bH (fun _=>?_) (fun z=>absurd (by decide) z)
      exact fin true (decide_eq_true hj).symm
     | false=>
      refine bH (fun z=>absurd z (by decide)) (fun _=>?_)
      refine⟨_,rfl,rfl,?_⟩
      refine fin _ ?_
      show decide (V.int j=V.int 0)=decide ((some j:Option Int)=some 0)
      by_cases e:j=0
      ·subst e;rfl
      ·rw[decide_eq_false (fun z=>e (V.int.inj z)),decide_eq_false (fun z=>e (Option.some.inj z))]
    ·refine bH (fun z=>absurd (of_decide_eq_true z) hj) (fun _=>?_)
     refine fin false ?_
     cases ls with
     | true=>exact(decide_eq_false hj).symm
     | false=>exact(decide_eq_false (fun z=>hj (by rw[Option.some.inj z];decide))).symm
  rintro σ H7 ⟨v0,rfl,s7,c7⟩
  rw[zh,List.take_length] at c7
  dsimp only[aM]
  subst hY
  have W0:=s6.trans s7
  refine⟨_,rfl,_,rfl,C3,_,rfl,.inl ⟨.of c7,fun Yy UK=>?_⟩⟩
  have sY:=Same.new (o:=.tup ((xs.map (jc ls)).map V.bl)) UK
  refine⟨_,rfl,p,_,_,.ref va,rfl,rfl,.of (sY _ _ (s7 _ _ J')),aD (j:=1) rfl,by show 3≤sizeLine;decide,fun pr hpr=>?_⟩
  have sP:=Same.new (o:=.tup [.ref nm,.ref Yy,.ref va]) hpr
  have sA:=(s7.trans sY).trans sP
  exact q pr Yy va ps' xs mv' _ (kA.trans (KX.same (s6.trans sA))) (C9.same (s6.trans sA)) af (sP _ _ af) (sA _ _ zB) (NW.keep sA.kt) hl hle gr
def Lf (x y:V):Prop:=(∃i:Int,x=.int i∧y=.int i)∨(∃b:Bool,x=.bl b∧y=.bl b)∨∃s:Str,x=.str s∧y=.str s
def Tr (H:Hp):Nat→V→V→Prop
 | 0,_,_=>False
 | n+1,x,y=>Lf x y∨∃(p q:Addr) (xs ys:List V),x=.ref p∧y=.ref q∧((H p=some (.tup xs)∧H q=some (.tup ys))∨(H p=some (.lst xs)∧H q=some (.lst ys)))∧xs.length=ys.length∧xs.length≤3000∧∀(i:Nat) (u v:V),xs[i]? =some u→ys[i]? =some v→Tr H n u v
theorem Tr.keep {H H':Hp} (k:Same H H'):∀{n:Nat} {x y:V},Tr H n x y→Tr H' n x y
 | 0,_,_,h=>h
 | n+1,x,y,h=>by
  rcases h with h | ⟨p,q,xs,ys,e1,e2,h1,h3,h4,h5⟩
  ·exact .inl h
  ·exact .inr ⟨p,q,xs,ys,e1,e2,h1.imp (fun z=>⟨k _ _ z.1,k _ _ z.2⟩) (fun z=>⟨k _ _ z.1,k _ _ z.2⟩),h3,h4,fun i u v hu hv=>(h5 i u v hu hv).keep k⟩
def oX (n:Nat):Sp:=fun vs H Q _=>∃(x y:V),vs=[x,y]∧Tr H n x y∧∀H',Same H H'→Q (.bl true) H'
theorem zC (n:Nat):(List.replicate n true).all id=true:=by
 rw[List.all_eq_true]
 intro b hb
 rw[List.eq_of_mem_replicate hb];rfl
theorem x4:PySem.W.kitOne K (.type "list") (.type "tuple")=some false:=by rfl
theorem C':PySem.W.kitOne K (.type "tuple") (.type "list")=some false:=by rfl
theorem Ka:PySem.W.kitOne K (.type "int") (.type "tuple")=some false:=by rfl
theorem Kb:PySem.W.kitOne K (.type "int") (.type "list")=some false:=by rfl
theorem Kc:PySem.W.kitOne K (.type "bool") (.type "tuple")=some false:=by rfl
theorem Kd:PySem.W.kitOne K (.type "bool") (.type "list")=some false:=by rfl
theorem Ke:PySem.W.kitOne K (.type "bool") (.type "int")=some true:=by rfl
theorem Kf:PySem.W.kitOne K (.type "str") (.type "tuple")=some false:=by rfl
theorem Kg:PySem.W.kitOne K (.type "str") (.type "list")=some false:=by rfl
theorem Kh:PySem.W.kitOne K (.type "str") (.type "bool")=some false:=by rfl
theorem Ki:PySem.W.kitOne K (.type "str") (.type "int")=some false:=by rfl
theorem AB:aO ["_law_found","_law_due_here"] ["_law_found","_law_due_here"] (ah fF):=⟨rfl,rfl,rfl,by decide+kernel,rfl,by decide+kernel,by decide+kernel⟩
set_option maxHeartbeats 16000000 in
theorem yw {a:bR} (T:Txt K mg a) {n:Nat} (kr:aQ P w K mg base bj (n+1) a.fJ a.fR ["_law_found","_law_due_here"] (oX n)):aQ P w K mg base bj (n+1+1) a.fJ a.fR ["_law_found","_law_due_here"] (oX (n+1)):=by
 refine T.Cq.ok AB (fun vs H Q E h=>?_) (fun cdv A outer s H vs Q E hr h=>?_)
 ·obtain⟨x,y,rfl,_⟩:=h
  rfl
 ·obtain⟨x,y,rfl,tr,k⟩:=h
  have jq:aP (n+1) _:=hr
  refine⟨_,(ai (cu (PW.pt (oC (jD (aG (cW K) (by rfl) T.bV bM (ae (pv 1) (ae (fm (v:=.ty "tuple") rfl T.cZ cy rfl) ag))) (fun _=>rfl)) (kK (jD (aG (cW K) (by rfl) T.bV bM (ae (pv 1) (ae (fm (v:=.ty "list") rfl T.qS oJ rfl) ag))) (fun _=>rfl)))))
   (ai (cu (PW.pt (oC (a_ oE (aG (cW K) (by rfl) T.bV bM (ae (pv 0) (ae (fm (v:=.ty "tuple") rfl T.cZ cy rfl) ag))) (aG (cW K) (by rfl) T.bV bM (ae (pv 1) (ae (fm (v:=.ty "tuple") rfl T.cZ cy rfl) ag))) (aY _)) (kK (a_ oE (aG (cW K) (by rfl) T.bV bM (ae (pv 0) (ae (fm (v:=.ty "list") rfl T.qS oJ rfl) ag))) (aG (cW K) (by rfl) T.bV bM (ae (pv 1) (ae (fm (v:=.ty "list") rfl T.qS oJ rfl) ag))) (aY _)))))
    (av (aK lL))
    bD)
   (av (aK (vJ (fN g5 (aG (bt K) (by rfl) T.cS cf (ae (pv 0) ag)) (aG (bt K) (by rfl) T.cS cf (ae (pv 1) ag)) (aY _)) (vI (aG (Bt K rfl) (by rfl) T.Mm HW (ae (ck (aF.mk' (esc:=ah fF) (N:=["_law_found","_law_due_here"]) (own:=["_law_one","_law_other"]) (aB:=[]) (bE:=[]) rfl rfl (by decide+kernel)) rfl (GQ rfl T.vA (ae (pv 0) (ae (pv 1) ag))) (fun _ _ _ _=>(oM K (n:=2) rfl (cG (aI (i:=0) (show List.Nodup (["_law_one","_law_other"]:List Str) by decide+kernel) rfl (Or.inl rfl)) (cG (aI (i:=1) (show List.Nodup (["_law_one","_law_other"]:List Str) by decide+kernel) rfl (Or.inl rfl)) js)))) (fun _ _ _ _=>bL) (fun _ _ _ _=>(aC kr jq rfl T.nQ T.nR T.nS .nil aR (ae (pv 0) (ae (pv 1) ag))))) ag)))))))
   bD)
  (ai (cu (PW.pt (oC (a_ oE (aG (cW K) (by rfl) T.bV bM (ae (pv 0) (ae (fm (v:=.ty "bool") rfl T.xm rL rfl) ag))) (aG (cW K) (by rfl) T.bV bM (ae (pv 1) (ae (fm (v:=.ty "bool") rfl T.xm rL rfl) ag))) (aY _)) (kK (a_ oE (aG (cW K) (by rfl) T.bV bM (ae (pv 0) (ae (fm (v:=.ty "int") rfl T.An vZ rfl) ag))) (aG (cW K) (by rfl) T.bV bM (ae (pv 1) (ae (fm (v:=.ty "int") rfl T.An vZ rfl) ag))) (aY _)))))
   (av (aK lL))
   bD)
  (av (aK (fN g5 (pv 0) (pv 1) (aY _)))))),?_⟩
  have big:(10000:Nat)≤sizeLine:=by decide
  rcases tr with lf | ⟨p,q,xs,ys,rfl,rfl,⟨e1,e2⟩ | ⟨e1,e2⟩,hl,h3,sub⟩
  ·obtain⟨t,b1,b2,ty1,ty2,k1,k2,k3,k4,sc,eq⟩:∃(t:Value) (b1 b2:Bool),fZ K H x t∧fZ K H y t∧PySem.W.kitOne K t (.type "tuple")=some false∧PySem.W.kitOne K t (.type "list")=some false∧PySem.W.kitOne K t (.type "bool")=some b1∧PySem.W.kitOne K t (.type "int")=some b2∧Dy x y=true∧x=y:=by
    rcases lf with⟨i,rfl,rfl⟩ | ⟨b,rfl,rfl⟩ | ⟨z,rfl,rfl⟩
    ·exact⟨_,false,true,.int i,.int i,Ka,Kb,HV,HU,rfl,rfl⟩
    ·exact⟨_,true,true,.bl b,.bl b,Kc,Kd,Ip,Ke,rfl,rfl⟩
    ·exact⟨_,false,false,.str z,.str z,Kf,Kg,Kh,Ki,rfl,rfl⟩
   refine aX fun Y hY=>?_
   refine⟨_,rfl,y,t,"tuple",false,rfl,ty2,k1,false,rfl,de ?_⟩
   refine⟨_,rfl,y,t,"list",false,rfl,ty2,k2,false,rfl,de ?_⟩
   subst hY
   dsimp only[iI]
   refine aX fun Y hY=>?_
   refine⟨_,rfl,x,t,"bool",b1,rfl,ty1,k3,_,rfl,y,t,"bool",b1,rfl,ty2,k3,rfl,_,rfl,?_⟩
   rw[show(!decide (V.bl b1=V.bl b1))=false by rw[decide_eq_true rfl];rfl]
   refine de ?_
   refine⟨_,rfl,x,t,"int",b2,rfl,ty1,k4,_,rfl,y,t,"int",b2,rfl,ty2,k4,rfl,_,rfl,?_⟩
   rw[show(!decide (V.bl b2=V.bl b2))=false by rw[decide_eq_true rfl];rfl]
   refine de ?_
   subst hY
   dsimp only[iI]
   refine⟨_,rfl,_,rfl,sc,?_⟩
   rw[decide_eq_true eq]
   exact k H (.refl _)
  ·refine aX fun Y hY=>?_
   refine⟨_,rfl,.ref q,_,"tuple",true,rfl,.tup e2,vY,true,rfl,ic ?_⟩
   refine ic ?_
   refine aX fun Y2 rf=>?_
   refine⟨_,rfl,.ref p,_,"tuple",true,rfl,.tup e1,vY,_,rfl,.ref q,_,"tuple",true,rfl,.tup e2,vY,rfl,_,rfl,de ?_⟩
   refine⟨_,rfl,.ref p,_,"list",false,rfl,.tup e1,C',_,rfl,.ref q,_,"list",false,rfl,.tup e2,C',rfl,_,rfl,de ?_⟩
   subst rf
   dsimp only[iI]
   refine⟨_,rfl,_,xs.length,rfl,.inr ⟨_,.of e1,rfl⟩,_,rfl,_,ys.length,rfl,.inr ⟨_,.of e2,rfl⟩,rfl,_,rfl,?_⟩
   rw[hl,show decide (V.int ((ys.length:Nat):Int)=V.int ((ys.length:Nat):Int))=true from decide_eq_true rfl]
   refine ic ?_
   refine .inr ⟨_,rfl,_,rfl,p,q,rfl,⟨_,.of e1⟩,⟨_,.of e2⟩,fun C hC=>?_⟩
   refine B1 (xs:=xs) (ys:=ys) (fun i σ H'=>∃v0 v1:Option V,σ=[v0,v1]∧Same H H'∧H' C=some (.lst ((List.replicate i true).map V.bl))) hl
    ⟨none,none,?sg,Same.new hC,af⟩ (by rintro i σ H' _ ⟨_,_,_,s,_⟩;exact⟨.of (s _ _ e1),.of (s _ _ e2)⟩) ?_ ?_
   case sg=>rfl
   ·rintro i u v r σ H1 hu hv ⟨v0,v1,rfl,s1,c1⟩ hr'
    have hi:=(List.getElem?_eq_some_iff.mp hu).1
    have sp:=Same.new (o:=.tup [u,v]) hr'
    refine⟨r,_,rfl,.of af,rfl,_,_,rfl,_,_,rfl,rfl,?_⟩
    refine⟨_,rfl,_,rfl,u,v,rfl,(sub i u v hu hv).keep (s1.trans sp),fun H2 s2=>?_⟩
    have s3:=(s1.trans sp).trans s2
    refine⟨_,s2 _ _ (sp _ _ c1),by rw[List.length_map,List.length_replicate];omega,_,_,rfl,s3.kbn hC KB.write,?_⟩
    rw[af,List.replicate_succ',List.map_append];rfl
   rintro σ H1 ⟨v0,v1,rfl,s1,c1⟩
   refine⟨C,_,rfl,.of c1,?_⟩
   rw[zC]
   exact k H1 s1
  ·refine aX fun Y hY=>?_
   refine⟨_,rfl,.ref q,_,"tuple",false,rfl,.lst e2,x4,false,rfl,de ?_⟩
   refine⟨_,rfl,.ref q,_,"list",true,rfl,.lst e2,vX,true,rfl,ic ?_⟩
   refine aX fun Y2 rf=>?_
   refine⟨_,rfl,.ref p,_,"tuple",false,rfl,.lst e1,x4,_,rfl,.ref q,_,"tuple",false,rfl,.lst e2,x4,rfl,_,rfl,de ?_⟩
   refine⟨_,rfl,.ref p,_,"list",true,rfl,.lst e1,vX,_,rfl,.ref q,_,"list",true,rfl,.lst e2,vX,rfl,_,rfl,de ?_⟩
   subst rf
   dsimp only[iI]
   refine⟨_,rfl,_,xs.length,rfl,.inl ⟨_,.of e1,rfl⟩,_,rfl,_,ys.length,rfl,.inl ⟨_,.of e2,rfl⟩,rfl,_,rfl,?_⟩
   rw[hl,show decide (V.int ((ys.length:Nat):Int)=V.int ((ys.length:Nat):Int))=true from decide_eq_true rfl]
   refine ic ?_
   refine .inl ⟨_,rfl,_,rfl,p,q,rfl,⟨_,.of e1⟩,⟨_,.of e2⟩,fun C hC=>?_⟩
   refine wF (xs:=xs) (ys:=ys) (fun i σ H'=>∃v0 v1:Option V,σ=[v0,v1]∧Same H H'∧H' C=some (.lst ((List.replicate i true).map V.bl))) hl
    ⟨none,none,?sg,Same.new hC,af⟩ (by rintro i σ H' _ ⟨_,_,_,s,_⟩;exact⟨.of (s _ _ e1),.of (s _ _ e2)⟩) ?_ ?_
   case sg=>rfl
   ·rintro i u v r σ H1 hu hv ⟨v0,v1,rfl,s1,c1⟩ hr'
    have hi:=(List.getElem?_eq_some_iff.mp hu).1
    have sp:=Same.new (o:=.tup [u,v]) hr'
    refine⟨r,_,rfl,.of af,rfl,_,_,rfl,_,_,rfl,rfl,?_⟩
    refine⟨_,rfl,_,rfl,u,v,rfl,(sub i u v hu hv).keep (s1.trans sp),fun H2 s2=>?_⟩
    have s3:=(s1.trans sp).trans s2
    refine⟨_,s2 _ _ (sp _ _ c1),by rw[List.length_map,List.length_replicate];omega,_,_,rfl,s3.kbn hC KB.write,?_⟩
    rw[af,List.replicate_succ',List.map_append];rfl
   rintro σ H1 ⟨v0,v1,rfl,s1,c1⟩
   refine⟨C,_,rfl,.of c1,?_⟩
   rw[zC]
   exact k H1 s1
theorem rB {a:bR} (T:Txt K mg a):∀n:Nat,aQ P w K mg base bj (n+1) a.fJ a.fR ["_law_found","_law_due_here"] (oX n)
 | 0=>aQ.none fun vs H Q E h=>by
  obtain⟨x,y,_,h,_⟩:=h
  exact h
 | n+1=>yw T (rB T n)
end
end My
namespace My
open PySem L2
section
variable {α:Type} {x0:α} {on:α→Nat→α} {m:Nat}
theorem x5 {xs:List α} (nd:xs.Nodup) {i j:Nat} {x:α} (h:xs[i]? =some x) (g:xs[j]? =some x):i=j:=by
 obtain⟨hi,e⟩:=List.getElem?_eq_some_iff.mp h
 obtain⟨hj,e'⟩:=List.getElem?_eq_some_iff.mp g
 exact(List.getElem_inj nd).mp (e.trans e'.symm)
theorem ti {xs ys:List α} (ndx:xs.Nodup) (zD:ys.Nodup) {x:α}:∀(l l':List Nat) (c s s1 s2:Nat),l.length=l'.length→bP l s=some s1→bP l' s=some s2→(∀i,i<s→xs[i]? =ys[i]?)→
  (∀k t,l[k]? =some t→xs[t]? =some (on x (c+k)))→(∀k t,l'[k]? =some t→ys[t]? =some (on x (c+k)))→l=l'∧s1=s2∧∀i,i<s1→xs[i]? =ys[i]?
 | [],[],c,s,s1,s2,_,h,h',eq,_,_=>by
  cases h;cases h'
  exact⟨rfl,rfl,eq⟩
 | [],_::_,_,_,_,_,hl,_,_,_,_,_=>by cases hl
 | _::_,[],_,_,_,_,hl,_,_,_,_,_=>by cases hl
 | t::l,t'::l',c,s,s1,s2,hl,h,h',eq,hx,hy=>by
  have ex:xs[t]? =some (on x c):=hx 0 t rfl
  have ey:ys[t']? =some (on x c):=hy 0 t' rfl
  have hx':∀k u,l[k]? =some u→xs[u]? =some (on x (c+1+k)):=fun k u z=>by rw[show c+1+k=c+(k+1) by omega];exact hx (k+1) u z
  have hy':∀k u,l'[k]? =some u→ys[u]? =some (on x (c+1+k)):=fun k u z=>by rw[show c+1+k=c+(k+1) by omega];exact hy (k+1) u z
  have hl':l.length=l'.length:=Nat.succ.inj hl
  rw[bP] at h h'
  by_cases lt:t<s
  ·rw[if_pos lt] at h
   have e:t'=t:=x5 zD ey (by rw[←eq t lt];exact ex)
   subst e
   rw[if_pos lt] at h'
   obtain⟨r1,r2,r3⟩:=ti ndx zD l l' (c+1) s s1 s2 hl' h h' eq hx' hy'
   exact⟨by rw[r1],r2,r3⟩
  ·rw[if_neg lt] at h
   by_cases es:t=s
   ·rw[if_pos es] at h
    have lt':¬t'<s:=fun z=>by
     have:=x5 ndx ex (by rw[eq t' z];exact ey)
     omega
    rw[if_neg lt'] at h'
    by_cases es':t'=s
    ·rw[if_pos es'] at h'
     obtain⟨r1,r2,r3⟩:=ti ndx zD l l' (c+1) (s+1) s1 s2 hl' h h' (fun i hi=>by
      by_cases z:i<s
      ·exact eq i z
      ·have:i=s:=by omega
       rw[this,←es,ex,es,←es',ey]) hx' hy'
     exact⟨by rw[r1,es,es'],r2,r3⟩
    ·rw[if_neg es'] at h';cases h'
   ·rw[if_neg es] at h;cases h
theorem x6 {xs ys:List α} (ndx:xs.Nodup) (zD:ys.Nodup):∀(mv mv':List (List Nat)) (i s s1 s2:Nat),eB mv i s=some s1→eB mv' i s=some s2→(∀j,j<s→xs[j]? =ys[j]?)→
  (∀k r,mv[k]? =some r→r.length=m∧∃x,xs[i+k]? =some x∧∀c t,r[c]? =some t→xs[t]? =some (on x c))→(∀k r,mv'[k]? =some r→r.length=m∧∃x,ys[i+k]? =some x∧∀c t,r[c]? =some t→ys[t]? =some (on x c))→
  i+mv.length=xs.length→i+mv'.length=ys.length→s1=xs.length→s2=ys.length→mv=mv'∧xs=ys
 | [],[],i,s,s1,s2,h,h',eq,_,_,l1,l2,e1,e2=>by
  cases h;cases h'
  refine⟨rfl,List.ext_getElem? fun j=>?_⟩
  by_cases z:j<s
  ·exact eq j z
  ·rw[List.getElem?_eq_none (by omega),List.getElem?_eq_none (by omega)]
 | [],r'::mv',i,s,s1,s2,h,h',eq,_,hy,l1,l2,e1,e2=>by
  cases h
  rw[eB] at h'
  rw[List.length_nil] at l1
  rw[if_neg (by omega)] at h'
  cases h'
 | r::mv,[],i,s,s1,s2,h,h',eq,hx,_,l1,l2,e1,e2=>by
  cases h'
  rw[eB] at h
  rw[List.length_nil] at l2
  rw[if_neg (by omega)] at h
  cases h
 | r::mv,r'::mv',i,s,s1,s2,h,h',eq,hx,hy,l1,l2,e1,e2=>by
  rw[eB] at h h'
  by_cases lt:i<s
  ·rw[if_pos lt] at h h'
   obtain⟨a1,ha,h⟩:=Option.bind_eq_some_iff.mp h
   obtain⟨a2,ha',h'⟩:=Option.bind_eq_some_iff.mp h'
   obtain⟨q1,x,q2,q3⟩:=hx 0 r rfl
   obtain⟨p1,y,p2,p3⟩:=hy 0 r' rfl
   have UL:x=y:=by
    rw[Nat.add_zero] at q2 p2
    rw[eq i lt,p2] at q2
    exact(Option.some.inj q2).symm
   subst UL
   obtain⟨z1,z2,z3⟩:=ti ndx zD r r' 0 s a1 a2 (q1.trans p1.symm) ha ha' eq (fun k t z=>by rw[Nat.zero_add];exact q3 k t z) (fun k t z=>by rw[Nat.zero_add];exact p3 k t z)
   subst z1 z2
   obtain⟨w1,w2⟩:=x6 ndx zD mv mv' (i+1) a1 s1 s2 h h' z3 (fun k r z=>by rw[show i+1+k=i+(k+1) by omega];exact hx (k+1) r z) (fun k r z=>by rw[show i+1+k=i+(k+1) by omega];exact hy (k+1) r z)
    (by rw[List.length_cons] at l1;omega) (by rw[List.length_cons] at l2;omega) e1 e2
   exact⟨by rw[w1],w2⟩
  ·rw[if_neg lt] at h;cases h
theorem mF {xs ys:List α} {mv mv':List (List Nat)} (g:bU x0 on m xs mv) (h:mv.length=xs.length) (g':bU x0 on m ys mv') (h':mv'.length=ys.length):mv=mv'∧xs=ys:=
 x6 (m:=m) (on:=on) g.once g'.once mv mv' 0 1 _ _ g.go g'.go (fun j hj=>by rw[show j=0 by omega,g.first,g'.first]) (fun k r z=>by rw[Nat.zero_add];exact g.row k r z) (fun k r z=>by rw[Nat.zero_add];exact g'.row k r z) (by omega) (by omega) rfl rfl
theorem rC {xs ys:List α} {mv:List (List Nat)} (g:bU x0 on m xs mv) (h:mv.length=xs.length) (nd:ys.Nodup) (hy:∀y∈ys,∃w,dk m w∧y=fb on x0 w):ys.length≤xs.length:=
 List.Nodup.length_le_of_subset nd fun y z=>by
  obtain⟨w,hw,rfl⟩:=hy y z
  exact List.mem_of_getElem? (g.run h w 0 x0 g.first hw)
end
theorem Dc {α:Type} {x0:α} {on:α→Nat→α} {B:Nat} {xs:List α} {mv:List (List Nat)} (g:bU x0 on B xs mv):0<xs.length:=(List.getElem?_eq_some_iff.mp g.first).1
def vC (K:PySem.W.Frag) (ts:List Addr):Sp:=fun vs H Q _=>∃(a:Addr) (ns:List Int),vs=[.ref a]∧bp K H a (ns.map V.int)∧ns.length≤63∧oQ ts H∧∀H',Q (.bl true) H'
theorem cj.tb {a:bR} {H H':Hp} {F L:Addr} (t:TB a H) (f:cj H F L) (k:eG F L H H'):TB a H':=by
 obtain⟨ms,n,sd,e1,e2,_⟩:=f.ex
 have one:∀{T:Addr} {M:List (Pos×Str)},Tab H T M→Tab H' T M:=fun {T M} x=>by
  obtain⟨ps,h1,h2,h3⟩:=x
  refine⟨ps,k _ _ h1 (fun z=>by rw[z,e1] at h1;cases h1) (fun z=>by rw[z,e2] at h1;cases h1),h2,fun p hp=>?_⟩
  rcases h3 p hp with z | ⟨c,z1,z2⟩
  ·exact .inl z
  ·exact .inr ⟨c,z1,k _ _ z2 (fun z=>by rw[z,e1] at z2;cases z2) fun z=>by rw[z,e2] at z2;cases z2⟩
 exact⟨one t.sm,one t.le,one t.du⟩
theorem x8 {H:Hp} {n:Nat} {p q:Addr} {α:Type} (f:α→V) (l:List α) (hf:∀x,Lf (f x) (f x)) (e1:H p=some (.tup (l.map f))) (e2:H q=some (.tup (l.map f))) (hl:l.length≤3000):Tr H (n+2) (.ref p) (.ref q):=
 .inr ⟨p,q,_,_,rfl,rfl,.inl ⟨e1,e2⟩,rfl,by rw[List.length_map];exact hl,fun i u v hu hv=>.inl (by
  rw[hu] at hv
  cases hv
  obtain⟨x,_,rfl⟩:=List.mem_map.mp (List.mem_of_getElem? hu)
  exact hf x)⟩
theorem He {H:Hp} {p q:Addr} {ps qs:List Addr} {mv:List (List Nat)} (e1:H p=some (.tup (ps.map V.ref))) (e2:H q=some (.tup (qs.map V.ref))) (t1:cE H ps (mv.map bB)) (t2:cE H qs (mv.map bB)) (hl:mv.length≤3000) (hr:∀l∈mv,l.length≤3000):Tr H 3 (.ref p) (.ref q):=by
 have l1:ps.length=mv.length:=by rw[Paired.length t1,List.length_map]
 have l2:qs.length=mv.length:=by rw[Paired.length t2,List.length_map]
 refine .inr ⟨p,q,_,_,rfl,rfl,.inl ⟨e1,e2⟩,by rw[List.length_map,List.length_map,l1,l2],by rw[List.length_map,l1];exact hl,fun i u v hu hv=>?_⟩
 obtain⟨a,rfl,ea⟩:=oT hu
 obtain⟨b,rfl,eb⟩:=oT hv
 obtain⟨r,er,h1⟩:=t1.get ea
 obtain⟨r',NY,h2⟩:=t2.get eb
 rw[er] at NY
 cases NY
 refine x8 V.int r (fun x=>.inl ⟨x,rfl,rfl⟩) h1 h2 ?_
 obtain⟨l,hl',rfl⟩:=List.mem_map.mp (List.mem_of_getElem? er)
 rw[nV];exact hr l hl'
theorem Hf {H:Hp} {m t n1 n2 y1 y2 v1 v2:Addr} {ps qs:List Addr} {us:List Str} {bs:List Bool} {mv:List (List Nat)} (e1:H m=some (.tup [.ref n1,.ref y1,.ref v1])) (e2:H t=some (.tup [.ref n2,.ref y2,.ref v2])) (a1:H n1=some (.tup (us.map V.str))) (a2:H n2=some (.tup (us.map V.str)))
  (b1:H y1=some (.tup (bs.map V.bl))) (b2:H y2=some (.tup (bs.map V.bl))) (c1:H v1=some (.tup (ps.map V.ref))) (c2:H v2=some (.tup (qs.map V.ref))) (t1:cE H ps (mv.map bB)) (t2:cE H qs (mv.map bB)) (lu:us.length≤3000) (lb:bs.length≤3000) (hl:mv.length≤3000) (hr:∀l∈mv,l.length≤3000):Tr H 4 (.ref m) (.ref t):=by
 refine .inr ⟨m,t,_,_,rfl,rfl,.inl ⟨e1,e2⟩,rfl,by show 3≤3000;decide,fun i u v hu hv=>?_⟩
 match i,hu,hv with
 | 0,hu,hv=>cases hu;cases hv;exact x8 V.str us (fun x=>.inr (.inr ⟨x,rfl,rfl⟩)) a1 a2 lu
 | 1,hu,hv=>cases hu;cases hv;exact x8 V.bl bs (fun x=>.inr (.inl ⟨x,rfl,rfl⟩)) b1 b2 lb
 | 2,hu,hv=>cases hu;cases hv;exact He c1 c2 t1 t2 hl hr
section
variable {X:Cx}
def Mr (K:PySem.W.Frag):R2:=fun x y H Q=>∃(a b:Addr) (xs ys:List V),x=.ref a∧y=.ref b∧H a=some (.tup xs)∧H b=some (.tup ys)∧xs.length+ys.length≤sizeLine∧∀u H',Same H H'→H' u=some (.tup (xs++ys))→Q (.ref u) H'
theorem Hg (K:PySem.W.Frag) (hK:X.K=K:=by rfl):cO X (binaryOp .Add) (Mr K):=by
 subst hK
 intro pins s σ H x y v u Q I rx ry h
 obtain⟨a,b,xs,ys,rfl,rfl,ha,hb,hz,q⟩:=h
 by_cases hx:xs=[]
 ·subst hx
  exact yN pins s σ H _ _ v u Q I rx ry ⟨a,b,ys,rfl,rfl,.of ha,.of hb,q b H (.refl _) hb⟩
 ·exact yH pins s σ H _ _ v u Q I rx ry ⟨a,b,xs,ys,rfl,rfl,.of ha,.of hb,hx,hz,fun z=>q a H (.refl _) (by rw[z,List.append_nil];exact ha),fun _ p hp=>q p _ (Same.new hp) af⟩
end
open PySem.Spec PyProof.Rows in
theorem uC:∀{l:List Str},PyProof.Rows.sortedS l=true→l.Pairwise (fun a b=>ltCps b.cps.toList a.cps.toList=false)
 | [],_=>.nil
 | x::l,h=>.cons (fun y hy=>by
   have:=j6 l x h y hy
   rw[PyProof.Rows.ltCps_eq]
   simpa using List.not_lt.mpr this) (uC (kB h))
theorem AE {l m:List Str} (h:l.Sublist m) (s:PyProof.Rows.sortedS m=true):PyProof.Rows.sortedS l=true:=PyProof.Rows.sortedS_of_pairwise _ ((uC s).sublist h)
theorem rD (n:Str):∀(ps:List (Str×Int)) (kvs:List (Key×V)),(aV (bQ kvs (ps.map fu)) (Sum.inr n)).isSome=((aV kvs (Sum.inr n)).isSome||decide (n∈ps.map (·.1)))
 | [],kvs=>by simp[bQ]
 | p::ps,kvs=>by
  show(aV (bQ (putK kvs (Sum.inr p.1) (.int p.2)) (ps.map fu)) (Sum.inr n)).isSome=_
  rw[rD n ps,lN]
  by_cases e:n=p.1
  ·subst e;simp
  ·rw[if_neg (fun z=>e (Sum.inr.inj z)),List.map_cons]
   have m:n∈p.1::ps.map (·.1)↔n∈ps.map (·.1):=⟨fun h=>(List.mem_cons.mp h).resolve_left e,List.mem_cons_of_mem _⟩
   rw[decide_eq_decide.mpr m]
theorem Dd {H:Hp}:∀{ps:List Addr} {qs:List (Str×Int)},oy H ps qs→Paired (fun(p:Addr) (q:Key×V)=>H p=some (.tup [kV q.1,q.2])) ps (qs.map fu)
 | _,_,.nil=>.nil
 | _,_,.cons h t=>.cons h (Dd t)
def gU (t u:Term) (pool:List Str):List Str:=pool.filter fun n=>decide (n∈(t.parts++u.parts).map (·.1))
theorem De {t u:Term} {pool:List Str} (ls:Bool) (so:PyProof.Rows.sortedS pool=true) (nd:pool.Nodup) (ot:d_ pool t) (ou:d_ pool u):cR (gU t u pool) (mD ls t u):=by
 refine⟨AE List.filter_sublist so,List.Pairwise.sublist List.filter_sublist nd,fun y=>?_⟩
 have e:(mD ls t u).Free y↔y∈jh t∨y∈jh u:=by cases ls<;>exact Iff.rfl
 rw[e]
 unfold gU jh
 rw[List.mem_filter,decide_eq_true_iff,List.map_append,List.mem_append]
 constructor
 ·exact fun h=>h.2
 ·refine fun h=>⟨?_,h⟩
  rcases h with z | z
  ·obtain⟨q,hq,rfl⟩:=List.mem_map.mp z;exact ot.2 q hq
  ·obtain⟨q,hq,rfl⟩:=List.mem_map.mp z;exact ou.2 q hq
theorem Df {t u:Term} {pool:List Str} {i:Nat} {n:Str} (h:pool[i]? =some n):gU t u (pool.take (i+1))=gU t u (pool.take i)++(if decide (n∈(t.parts++u.parts).map (·.1))=true then [n] else []):=by
 unfold gU
 rw[take_snoc h,List.filter_append,List.filter_cons,List.filter_nil]
section
variable {P:Program} {w:World} {K:PySem.W.Frag} {mg:Str→Option Value} {base:Heap}
theorem gs:aO ["_law_script","_law_feed_here","_law_pool","_law_base","_law_one","_law_other","_law_names_here","_law_word","_law_due_here","_law_count"] ["_law_script"] (ah iJ):=⟨rfl,rfl,rfl,by decide+kernel,rfl,by decide+kernel,by decide+kernel⟩
set_option maxHeartbeats 32000000 in
theorem Kj {a:bR} {pb:kI} {pc:mC} (T:Txt K mg a) (hB:dW mg base) (U:iO K w.params mg pb) (Yt:jo K w.params mg pc):aQ P w K mg base bj 6 a.Ak a.B' ["_law_script"] (vC K [a.bF,a.bG,a.dA,a.cY,a.fq]):=by
 have EI:=Cr (P:=P) (w:=w) (base:=base) T
 have cN:=nT (P:=P) (w:=w) (base:=base) T
 have Dg:=Au (P:=P) (w:=w) (base:=base) T
 have x9:=C7 (P:=P) (w:=w) (base:=base) T
 have kr:aQ P w K mg base bj 5 a.fJ a.fR ["_law_found","_law_due_here"] (oX 4):=rB T 4
 have Hh:=EH (P:=P) (w:=w) (base:=base) T hB
 have ku:aQ P w K mg base bj 5 a.iY a.hV ["world","saying","most"] (qk a):=AA T hB U Yt
 have Pj:∀t:Tok,Vals [V.int 2000] [Value.int 2000 t]:=fun t=>.cons ⟨t,rfl⟩ .nil
 obtain⟨W2,AF⟩:=T.Cb
 refine T.Mk.ok gs (fun vs H Q E h=>?_) (fun cdv A outer s H vs Q E hr h=>?_)
 ·obtain⟨sa,ns,rfl,_⟩:=h
  rfl
 ·obtain⟨sa,ns,rfl,hS,hns,hO,q⟩:=h
  have Dh:aP 1 _:=hr.mono (by decide)
  have cp:aP 1 _:=hr.mono (by decide)
  have AG:aP 2 _:=hr.mono (by decide)
  have uD:aP 2 _:=hr.mono (by decide)
  have jq:aP 5 _:=hr
  have EJ:aP 3 _:=hr.mono (by decide)
  have jr:aP 5 _:=hr
  refine⟨_,(ai (az (i:=1) gs.nd rfl (Or.inl rfl) (aC EI Dh rfl T.El T.Em T.En .nil aR (ae (pv 0) ag)))
  (ai (az (i:=2) gs.nd rfl (Or.inl rfl) (aC Dg AG rfl T.Ci T.Cj T.Ck .nil aR (ae (pv 1) (ae (aC cN cp rfl T.dR T.dS T.dU .nil aR (ae (pv 1) (ae ao ag))) ag))))
  (ai (az (i:=3) gs.nd rfl (Or.inl rfl) (aH iS ao (aC cN cp rfl T.dR T.dS T.dU .nil aR (ae (pv 1) (ae ao ag)))))
  (ai (az (i:=4) gs.nd rfl (Or.inr rfl) (aC x9 uD rfl T.xi T.xj T.xk .nil aR (ae (pv 1) (ae (pv 2) ag))))
  (ai (az (i:=5) gs.nd rfl (Or.inr rfl) (aC x9 uD rfl T.xi T.xj T.xk .nil aR (ae (pv 1) (ae (pv 2) ag))))
  (ai (az (i:=6) gs.nd rfl (Or.inl rfl) (bC (cb K) (by rfl) T.cZ cy (ae (ck (aF.mk' (esc:=ah iJ) (N:=["_law_script","_law_feed_here","_law_pool","_law_base","_law_one","_law_other","_law_names_here","_law_word","_law_due_here","_law_count"]) (own:=["_law_name"]) (aB:=["_law_one","_law_other"]) (bE:=[4,5]) rfl rfl (by decide+kernel)) rfl (iR (pv 2)) (fun _ _ _ _=>(aI (i:=0) (show List.Nodup (["_law_name","_law_one","_law_other"]:List Str) by decide+kernel) rfl (Or.inl rfl))) (fun _ _ _ _=>(lW (vH (HJ (bN hr) (pv 0) (bC (jm hr.hd) (by rfl) T.qT oK (ae (aH (Hg K) (aL (aJ K) (pv 1) ao (fun _ _=>rfl)) (aL (aJ K) (pv 2) ao (fun _ _=>rfl))) ag))) (by with_unfolding_all rfl)))) (fun _ _ _ _=>(pv 0))) ag)))
  (ai (dD PassesOwn.never rfl (iR (bo (ae bb (ae bb ag)))) (aI (i:=7) gs.nd rfl (Or.inl rfl))
   (ai (az (i:=8) gs.nd rfl (Or.inl rfl) (aC Hh EJ rfl T.GY T.GZ T.G_ .nil aR (ae (pv 3) (ae (pv 7) (ae (pv 4) (ae (pv 5) (ae (pv 6) ag)))))))
   (ai (cu (a_ nj (pv 8) dB (aY _))
    (ai (cu (a_ rF (aC ku jr rfl T.kg T.kh T.nP .nil aR (ae (bo (ae (pv 3) (ae lR ag))) (ae (bo (ae (pv 7) (ae (pv 4) (ae (pv 5) ag)))) (ae ao ag)))) dB (aY _))
     (av (aK lL))
     bD)
    (av ye))
    bD)
   (ai (cu (A_ (jD (aC kr jq rfl T.nQ T.nR T.nS .nil aR (ae (aC ku jr rfl T.kg T.kh AF (Pj _) aR (ae (bo (ae (pv 3) (ae lR ag))) (ae (bo (ae (pv 7) (ae (pv 4) (ae (pv 5) ag)))) ag))) (ae (pv 8) ag))) (fun _=>rfl)))
    (av (aK lL))
    bD)
   (ai (az (i:=9) gs.nd rfl (Or.inl rfl) (aG (bt K) (by rfl) T.cS cf (ae (aL (aJ K) (pv 8) ao (fun _ _=>rfl)) ag)))
   (ai (cu (A_ (jD (aC kr jq rfl T.nQ T.nR T.nS .nil aR (ae (aC ku jr rfl T.kg T.kh T.nP .nil aR (ae (bo (ae (pv 3) (ae lR ag))) (ae (bo (ae (pv 7) (ae (pv 4) (ae (pv 5) ag)))) (ae (pv 9) ag)))) (ae (pv 8) ag))) (fun _=>rfl)))
    (av (aK lL))
    bD)
   (av (cu (a_ rF (aC ku jr rfl T.kg T.kh T.nP .nil aR (ae (bo (ae (pv 3) (ae lR ag))) (ae (bo (ae (pv 7) (ae (pv 4) (ae (pv 5) ag)))) (ae (aH cP (pv 9) ao) ag)))) dB (aY _))
    (av (aK lL))
    bD))))))))
  (av (aK lL))))))))),?_⟩
  have big:(10000:Nat)≤sizeLine:=by decide
  have J8:(2 ^ 10:Nat)<2 ^ 1000:=Nat.pow_lt_pow_right (by decide) (by decide)
  have small:∀x:Nat,x≤1000→x<2 ^ 1000:=fun x hx=>Nat.lt_trans (show x<2 ^ 10 by omega) J8
  have NZ:TB a H:=⟨hO.tab (by simp),hO.tab (by simp),hO.tab (by simp)⟩
  refine aX fun R hR=>?_
  refine⟨_,rfl,sa,ns,rfl,hS,hns,fun F L H1 hF hL s1 f1=>?_⟩
  have pC:=NZ.same s1
  dsimp only[aM]
  subst hR
  refine aX fun R hR=>?_
  refine⟨_,rfl,_,rfl,F,L,4,rfl,f1,by decide,small _ (by decide),fun r H2 r1 k2 f2=>⟨F,L,r,rfl,f2,by omega,fun pl pool H3 hpl k3 f3 rh Wv UM CL=>?_⟩⟩
  have kq:=cj.tb (cj.tb pC f1 k2) f2 k3
  have nd:=UM.once
  have N_:pool.length≤3:=by omega
  dsimp only[aM]
  subst hR
  refine aX fun R hR=>?_
  refine⟨_,rfl,F,L,3,rfl,f3,by decide,small _ (by decide),fun r' H4 r1' k4 f4=>⟨_,_,rfl,rfl,?_⟩⟩
  have C9:=cj.tb kq f3 k4
  have xO:=f3.ktu k4 _ _ rh
  have eb:(2:Int)+(r':Int)=((2+r':Nat):Int):=by omega
  dsimp only[aM]
  subst hR
  refine aX fun R hR=>?_
  rw[eb]
  generalize hbb:2+r'=b
  have hb2:2≤b:=by omega
  have hb4:b≤4:=by omega
  refine⟨_,rfl,_,rfl,F,L,pl,pool,rfl,f4,xO,N_,fun ta t H5 k5 f5 et ot=>?_⟩
  have zA:=cj.tb C9 f4 k5
  have xP:=f4.ktu k5 _ _ xO
  dsimp only[aM]
  subst hR
  refine aX fun R hR=>?_
  refine⟨_,rfl,_,rfl,F,L,pl,pool,rfl,f5,xP,N_,fun tb' u H6 k6 f6 eu ou=>?_⟩
  have N0:=cj.tb zA f5 k6
  have qd:=f5.ktu k6 _ _ xP
  have Kk:=et.keep (f5.ktu k6)
  clear NZ pC kq C9 zA f1 f2 f3 f4 f5 k2 k3 k4 k5 k6 rh xO xP et s1 hF hL hpl
  dsimp only[aM]
  subst hR
  refine aX fun R hR=>?_
  refine⟨_,rfl,pl,rfl,⟨_,.of qd⟩,fun C hC=>?_⟩
  refine ie (xs:=pool.map V.str) (fun i σ H'=>∃v:Option V,σ=[v,some (.ref ta),some (.ref tb')]∧Same H6 H'∧H' C=some (.lst ((gU t u (pool.take i)).map V.str)))
   ⟨none,?sg,Same.new hC,af⟩ (fun i σ H' _ ⟨_,_,s',_⟩=>.of (s' _ _ qd)) ?_ ?_
  case sg=>rfl
  ·rintro i x σ H7 hx ⟨v,rfl,s7,c7⟩
   obtain⟨n,rfl,en'⟩:=kZ hx
   have hi:=(List.getElem?_eq_some_iff.mp en').1
   obtain⟨b1,ps1,a1,a2,a3⟩:=Kk.keep s7.kt
   obtain⟨b2,ps2,g1,g2,g3⟩:=eu.keep s7.kt
   have W3:ps1.length≤3:=by rw[Paired.length a3];exact ot.1
   have W4:ps2.length≤3:=by rw[Paired.length g3];exact ou.1
   refine⟨_,rfl,_,rfl,ta,_,_,.ref b1,rfl,rfl,.of a1,aD (j:=1) rfl,_,rfl,tb',_,_,.ref b2,rfl,rfl,.of g1,aD (j:=1) rfl,b1,b2,_,_,rfl,rfl,a2,g2,by rw[List.length_map,List.length_map];omega,fun c H8 s8 e8=>?_⟩
   rw[←List.map_append] at e8
   refine⟨c,ps1++ps2,_,rfl,e8,Dd (bw (oy.keep a3 s8.kt) (oy.keep g3 s8.kt)),by rw[List.length_map,List.length_append,←Paired.length a3,←Paired.length g3];omega,fun D hD=>?_⟩
   have sD:=Same.new (o:=.dK (bQ [] ((t.parts++u.parts).map fu))) hD
   refine⟨D,_,rfl,.inl ⟨_,Sum.inr n,.inl af,rfl,rfl⟩,_,rfl,?_⟩
   rw[rD n (t.parts++u.parts) []]
   have s9:=(s7.trans s8).trans sD
   have c9:=(s8.trans sD) _ _ c7
   have Di:=Df (t:=t) (u:=u) en'
   have ll:(gU t u (pool.take i)).length≤i:=by
    have:=List.length_filter_le (fun n=>decide (n∈(t.parts++u.parts).map (·.1))) (pool.take i)
    rw[List.length_take] at this
    unfold gU;omega
   show if(decide (n∈(t.parts++u.parts).map (·.1)))=true then _ else _
   by_cases hm:decide (n∈(t.parts++u.parts).map (·.1))=true
   ·rw[if_pos hm] at Di ⊢
    refine⟨_,rfl,_,c9,by rw[List.length_map];omega,_,rfl,s9.kbn hC KB.write,?_⟩
    rw[af,Di,List.map_append];rfl
   ·rw[if_neg hm] at Di ⊢
    rw[List.append_nil] at Di
    exact⟨_,rfl,s9,by rw[Di];exact c9⟩
  rintro σ H7 ⟨v,rfl,s7,c7⟩
  rw[List.length_map,List.take_length] at c7
  refine⟨C,_,rfl,.inl ⟨.of c7,fun nm hnm=>?_⟩⟩
  have sN:=Same.new (o:=.tup ((gU t u pool).map V.str)) hnm
  have rb:(upd H7 nm (.tup ((gU t u pool).map V.str))) nm=some (.tup ((gU t u pool).map V.str)):=af
  have sA:=s7.trans sN
  have N1:=N0.same sA
  have N3:=Kk.keep sA.kt
  have N4:=eu.keep sA.kt
  generalize upd H7 nm (.tup ((gU t u pool).map V.str))=H8 at sA N1 N3 N4 rb ⊢
  have FK:∀ls,cR (gU t u pool) (mD ls t u):=fun ls=>De ls CL nd ot ou
  have N5:∀ls,(mD ls t u).Over pool:=fun ls=>by cases ls<;>exact⟨ot,ou⟩
  have Kl:(gU t u pool).length≤4:=by
   have:=(FK false).len (N5 false)
   omega
  generalize gU t u pool=ks at rb FK Kl
  clear Kk eu sA s7 c7 sN hnm hC N0 f6 qd
  dsimp only[aM]
  subst hR
  refine aX fun R hR=>?_
  refine⟨by show 2≤sizeLine;decide,fun W hW=>?_⟩
  have sW:=Same.new (o:=.tup [.str "same",.str "less"]) hW
  refine⟨W,rfl,⟨_,.of af⟩,D7 (xs:=[false,true].map fun ls=>V.str (fY ls)) (fun i σ H'=>∃v7 v8 v9:Option V,σ=[some (.ref sa),some (.ref F),some (.ref pl),some (.int (b:Nat)),some (.ref ta),some (.ref tb'),some (.ref nm),v7,v8,v9]∧TB a H'∧cx H' ta t∧cx H' tb' u∧H' nm=some (.tup (ks.map V.str))∧H' W=some (.tup ([false,true].map fun ls=>V.str (fY ls))))
   ⟨none,none,none,rfl,N1.same sW,N3.keep sW.kt,N4.keep sW.kt,sW _ _ rb,af⟩ (fun i σ H' _ ⟨_,_,_,_,_,_,_,_,eW⟩=>.of eW) ?_ ?_⟩
  ·rintro i x σ H9 N hN hx ⟨v7,v8,v9,rfl,N6,Dj,Dk,Dm,zt⟩
   obtain⟨ls,_,rfl⟩:=List.mem_map.mp (List.mem_of_getElem? hx)
   have UD:b ^ ks.length≤256:=dH hb4 Kl
   have Ms:t.parts.length≤100:=by have:=ot.1;omega
   have Mt:u.parts.length≤100:=by have:=ou.1;omega
   have ask:∀{H':Hp} (most:Nat) {Q':VK} {E':XK},KX a H9 H'→TB a H'→most≤10000→
     (∀(xs:List (Option Int)) (lI:Hp),KX a H' lI→TB a lI→xs.Nodup→(∀x∈xs,∃w,dk (b ^ ks.length) w∧x=fb (uA ls b t u ks) (some (bT ls t u)) w)→most<xs.length→Q' .non lI)→
     (∀(p n:Addr) (xs:List (Option Int)) (mv:List (List Nat)) (lI:Hp),KX a H' lI→TB a lI→qU lI p n (xs.map (jc ls)) mv→lI n=some (.tup (ks.map V.str))→mv.length=xs.length→xs.length≤most→bU (some (bT ls t u)) (uA ls b t u ks) (b ^ ks.length) xs mv→Q' (.ref p) lI)→
     ∀d,H' d=none→∀wo,(upd H' d (.dK [])) wo=none→∀sy,(upd (upd H' d (.dK [])) wo (.tup [.int (b:Nat),.ref d])) sy=none→qk a [.ref wo,.ref sy,.int (most:Nat)] (upd (upd (upd H' d (.dK [])) wo (.tup [.int (b:Nat),.ref d])) sy (.tup [.str (fY ls),.ref ta,.ref tb'])) Q' E':=by
    intro H' most Q' E' k' UN hm h1 h2 d hd wo pE sy pF
    have sd:=Same.new (o:=.dK []) hd
    have sw:=Same.new (o:=.tup [.int (b:Nat),.ref d]) pE
    have ss:=Same.new (o:=.tup [.str (fY ls),.ref ta,.ref tb']) pF
    have s3:=(sd.trans sw).trans ss
    have k3:=k'.trans (KX.same s3)
    refine⟨ls,b,most,wo,sy,ta,tb',_,t,u,pool,rfl,hb2,hb4,ss _ _ af,⟨af,Dj.keep k3.kt,Dk.keep k3.kt⟩,N5 ls,by omega,hm,UN.same s3,fun ks' xs lI k'' t'' fr nd' rc lt=>?_,fun ks' p n xs mv lI k'' t'' fr m6 en hl hle gr=>?_⟩
    ·cases fr.uniq (FK ls)
     exact h1 xs lI ((KX.same s3).trans k'') t'' nd' rc lt
    ·cases fr.uniq (FK ls)
     exact h2 p n xs mv lI ((KX.same s3).trans k'') t'' m6 en hl hle gr
   dsimp only[aM]
   refine aX fun R2 oz=>?_
   refine⟨_,rfl,_,rfl,_,rfl,_,rfl,_,rfl,ls,b,ta,tb',nm,t,u,ks,rfl,hb2,hb4,Dj,Dk,Ms,Mt,Dm,Kl,N6,fun xs Bn k10 EK Pk Pl lt10=>?_,fun p Yy va ps xs mv Bn k10 EK ep eY ev tp hl hle gr=>?_⟩
   ·
    dsimp only[aM]
    subst oz
    refine aX fun R2 oz=>?_
    refine⟨_,rfl,rfl,_,rfl,?_⟩
    refine bH (fun _=>?_) (fun z=>absurd rfl z)
    refine⟨_,rfl,fun d hd=>⟨by show 2≤sizeLine;decide,fun wo pE=>⟨_,rfl,_,rfl,_,rfl,by show 3≤sizeLine;decide,fun sy pF=>?_⟩⟩⟩
    dsimp only[qq,tC,vN,List.append_nil]
    refine ask 150 k10 EK (by decide) (fun ys Fc k11 tj Km Kn Ko=>?_) (fun p n ys mv Fc k11 tj m6 EL AH FL AI=>?_) d hd wo pE sy pF
    ·refine⟨rfl,_,rfl,?_⟩
     refine de ?_
     have kk:=k10.trans k11
     exact hN _ _ ⟨_,_,_,rfl,tj,Dj.keep kk.kt,Dk.keep kk.kt,kk.kt _ _ Dm,kk.kt _ _ zt⟩
    ·have:=rC AI AH Pk Pl
     omega
   ·
    have W5:0<xs.length:=Dc gr
    have Ji:=gr.Ji hl
    have Pm:∀l∈mv,l.length≤3000:=fun l hl=>by rw[(Ji.lead l hl).1];omega
    have tooMany:∀{ys:List (Option Int)} {m:Nat},xs.length≤m→ys.Nodup→(∀x∈ys,∃w,dk (b ^ ks.length) w∧x=fb (uA ls b t u ks) (some (bT ls t u)) w)→m<ys.length→False:=fun {ys m} h1 h2 h3 h4=>by
     have:=rC gr hl h2 h3
     omega
    have Dn:∀{H':Hp} {p' n:Addr},KX a Bn H'→qU H' p' n (xs.map (jc ls)) mv→H' n=some (.tup (ks.map V.str))→Tr H' 4 (.ref p') (.ref p):=fun {H' p' n} k m6 en'=>by
     obtain⟨y',v',ps',e1,e2,e3,e4⟩:=m6
     exact Hf e1 (k.kt _ _ ep) en' ((k10.trans k).kt _ _ Dm) e2 (k.kt _ _ eY) e3 (k.kt _ _ ev) e4 (tp.keep k.kt) (by omega) (by rw[List.length_map];omega) (by omega) Pm
    dsimp only[aM]
    subst oz
    refine aX fun R2 oz=>?_
    refine⟨_,rfl,rfl,_,rfl,?_⟩
    refine bH (fun z=>absurd z (by simp)) (fun _=>?_)
    dsimp only[iI]
    subst oz
    refine aX fun R2 oz=>?_
    refine⟨_,rfl,fun d hd=>⟨by show 2≤sizeLine;decide,fun wo pE=>⟨_,rfl,_,rfl,_,rfl,by show 3≤sizeLine;decide,fun sy pF=>?_⟩⟩⟩
    dsimp only[qq,tC,vN,List.cons_append,List.nil_append]
    refine ask 2000 k10 EK (by decide) (fun ys Fc k11 tj Km Kn Ko=>(tooMany (by omega) Km Kn Ko).elim) (fun p' n ys mw Fc k11 tj m6 EL AH FL AI=>?_) d hd wo pE sy pF
    obtain⟨e1,e2⟩:=mF AI AH gr hl
    subst e1 e2
    refine⟨_,rfl,_,_,rfl,Dn k11 m6 EL,fun W6 s12=>⟨true,rfl,de ?_⟩⟩
    have k12:=k11.trans (KX.same (a:=a) s12)
    have Pn:=tj.same s12
    clear m6 EL AI FL AH k11 tj hd pE pF s12
    dsimp only[iI]
    subst oz
    refine aX fun R2 oz=>?_
    refine⟨_,rfl,p,_,_,.ref Yy,rfl,rfl,.of (k12.kt _ _ ep),aD (j:=1) rfl,.ref Yy,ys.length,rfl,.inr ⟨_,.of (k12.kt _ _ eY),by rw[List.length_map,List.length_map]⟩,?_⟩
    dsimp only[aM]
    subst oz
    refine aX fun R2 oz=>?_
    refine⟨_,rfl,fun d hd=>⟨by show 2≤sizeLine;decide,fun wo pE=>⟨_,rfl,_,rfl,_,rfl,by show 3≤sizeLine;decide,fun sy pF=>⟨_,rfl,?_⟩⟩⟩⟩
    dsimp only[qq,tC,vN,List.append_nil]
    refine ask ys.length (k10.trans k12) Pn (by omega) (fun zs UO k13 Kp Po Pp Pq=>(tooMany (by omega) Po Pp Pq).elim) (fun p' n zs mz UO k13 Kp m6 Pr Pt Ww Pu=>?_) d hd wo pE sy pF
    obtain⟨e1,e2⟩:=mF Pu Pt gr hl
    subst e1 e2
    refine⟨_,rfl,_,_,rfl,Dn (k12.trans k13) m6 Pr,fun W7 N7=>⟨true,rfl,de ?_⟩⟩
    have k14:=k12.trans (k13.trans (KX.same (a:=a) N7))
    have Pw:=Kp.same N7
    dsimp only[iI]
    subst oz
    have el1:((zs.length:Nat):Int)-1=((zs.length-1:Nat):Int):=by omega
    refine⟨_,rfl,fun d hd=>⟨by show 2≤sizeLine;decide,fun wo pE=>⟨_,rfl,_,rfl,_,rfl,by show 3≤sizeLine;decide,fun sy pF=>⟨_,rfl,_,_,rfl,rfl,?_⟩⟩⟩⟩
    dsimp only[qq,tC,vN,List.append_nil]
    rw[el1]
    refine ask (zs.length-1) (k10.trans k14) Pw (by omega) (fun ws UP k15 Kq Wz WA WB=>?_) (fun p' n ws mw UP k15 Kq m6 WC Px Wx Py=>?_) d hd wo pE sy pF
    ·refine⟨rfl,_,rfl,de ?_⟩
     have kk:=(k10.trans k14).trans k15
     exact hN _ _ ⟨_,_,_,rfl,Kq,Dj.keep kk.kt,Dk.keep kk.kt,kk.kt _ _ Dm,kk.kt _ _ zt⟩
    ·obtain⟨e1,e2⟩:=mF Py Px gr hl
     subst e1 e2
     omega
  ·rintro σ H9 ⟨v7,v8,v9,rfl,N6,Dj,Dk,Dm,zt⟩
   subst hR
   exact q H9
end
end My
namespace My
open PySem L2
@[elab_as_elim] theorem nA {P:List Value→Prop} (us:List Value) (e:us.length=1) (h:∀a,P [a]):P us:=by
 cases us with
 | nil=>cases e
 | cons a us=>cases us with
  | nil=>exact h a
  | cons _ _=>cases e
@[elab_as_elim] theorem ln2 {P:List Value→Prop} (us:List Value) (e:us.length=2) (h:∀a0 a1,P [a0,a1]):P us:=by
 cases us with
 | nil=>cases e
 | cons a us=>exact nA (P:=fun z=>P (a::z)) us (Nat.succ.inj e) (h a)
@[elab_as_elim] theorem oA {P:List Value→Prop} (us:List Value) (e:us.length=3) (h:∀a0 a1 a2,P [a0,a1,a2]):P us:=by
 cases us with
 | nil=>cases e
 | cons a us=>exact ln2 (P:=fun z=>P (a::z)) us (Nat.succ.inj e) (h a)
@[elab_as_elim] theorem Dq {P:List Value→Prop} (us:List Value) (e:us.length=4) (h:∀a0 a1 a2 a3,P [a0,a1,a2,a3]):P us:=by
 cases us with
 | nil=>cases e
 | cons a us=>exact oA (P:=fun z=>P (a::z)) us (Nat.succ.inj e) (h a)
@[elab_as_elim] theorem Kr {P:List Value→Prop} (us:List Value) (e:us.length=5) (h:∀a0 a1 a2 a3 a4,P [a0,a1,a2,a3,a4]):P us:=by
 cases us with
 | nil=>cases e
 | cons a us=>exact Dq (P:=fun z=>P (a::z)) us (Nat.succ.inj e) (h a)
@[elab_as_elim] theorem W8 {P:List Value→Prop} (us:List Value) (e:us.length=6) (h:∀a0 a1 a2 a3 a4 a5,P [a0,a1,a2,a3,a4,a5]):P us:=by
 cases us with
 | nil=>cases e
 | cons a us=>exact Kr (P:=fun z=>P (a::z)) us (Nat.succ.inj e) (h a)
theorem all_mk {l:PySem.W.OpenLaw} {w:World} {K:PySem.W.Frag} {h:Heap} {mg:Str→Option Value} {fa:Addr} (X:K.In h) (G:h.Ns mainGlobals mg) (hfa:mg "law"=some (.ref fa))
  {f0:Addr} {UQ UR:Option Addr} {Nh:Array (Option Value)} {US UT UU UW UX:Value} {N8:Value}
  {f1:Addr} {UY UZ:Option Addr} {U_:Array (Option Value)} {U0 U1 U2 U3 U4:Value} {N9:Value}
  {f2:Addr} {U5 U6:Option Addr} {sl2:Array (Option Value)} {U7 U8 U9 U' Vb:Value} {N':Value}
  {f3:Addr} {Vc Ks:Option Addr} {Vd:Array (Option Value)} {Ve Kt Ku Kv Kw:Value} {Dr:Addr}
  {zE Vf:Nat} {Pz:Value} {PB:Option Addr} {Kx:Tok} {PD:Array (Option Value)}
  {f4:Addr} {Vg Vh:Option Addr} {Vi:Array (Option Value)} {Vj Vk Vl Vm Vn:Value} {Oa:Value}
  {f5:Addr} {Vo Vp:Option Addr} {Vq:Array (Option Value)} {Vr Vs Vt Vu Vv:Value} {Ob:Value}
  {f6:Addr} {Vw Vx:Option Addr} {Vy:Array (Option Value)} {Vz VA VB VC VD:Value} {Oc:Value}
  {f7:Addr} {VE VF:Option Addr} {VG:Array (Option Value)} {VH VI VJ VL VM:Value} {Od:Value}
  {f8:Addr} {VN VO:Option Addr} {VP:Array (Option Value)} {VQ VR VS VT VU:Value} {Oe:Value}
  {f9:Addr} {VW VX:Option Addr} {VY:Array (Option Value)} {VZ V_ V0 V1 V2:Value} {Og:Value}
  {FN:Addr} {PF PH:Option Addr} {PJ:Array (Option Value)} {PK PL PN PQ PR:Value} {Ky:Value}
  {f11:Addr} {PU PV:Option Addr} {PX:Array (Option Value)} {PY PZ P_ P0 P1:Value} {Kz:Value}
  {FO:Addr} {P2 P4:Option Addr} {P5:Array (Option Value)} {P6 P7 P8 P9 Qa:Value} {KA:Value}
  {FP:Addr} {Qb Qd:Option Addr} {Qe:Array (Option Value)} {Qg Qh Qi Qj Qk:Value} {KC:Value}
  {FQ:Addr} {Ql Qm:Option Addr} {Qn:Array (Option Value)} {Qo Qp Qq Qr Qs:Value} {KD:Value}
  {FR:Addr} {Qt Qu:Option Addr} {Qv:Array (Option Value)} {Qw Qx Qy Qz QA:Value} {KG:Value}
  {FT:Addr} {QB QC:Option Addr} {QD:Array (Option Value)} {QE QF QG QH QI:Value} {KH:Value}
  {FU:Addr} {QJ KI:Option Addr} {QK:Array (Option Value)} {QL KJ KL KN KO:Value} {tm:Addr}
  {jV:Addr} {Mu:Option Addr} {mG:Array Value} {Mv:Array (Option Value)}
  {FV:Addr} {QM KP:Option Addr} {QN:Array (Option Value)} {QO KQ KR KS KU:Value} {tu:Addr}
  {jW:Addr} {Mw:Option Addr} {mH:Array Value} {Mx:Array (Option Value)}
  {FW:Addr} {QP QQ:Option Addr} {QR:Array (Option Value)} {QS QT QU QV QW:Value} {KW:Value}
  {FX:Addr} {QX QY:Option Addr} {QZ:Array (Option Value)} {Q_ Q0 Q1 Q2 Q3:Value} {KY:Value}
  {FY:Addr} {Q4 KZ:Option Addr} {Q5:Array (Option Value)} {Q6 K_ K0 K1 K2:Value} {tD:Addr}
  {jX:Addr} {Mz:Option Addr} {mI:Array Value} {MA:Array (Option Value)}
  {FZ:Addr} {Q7 K3:Option Addr} {Q8:Array (Option Value)} {Q9 K4 K5 K6 K7:Value} {tE:Addr}
  {jY:Addr} {MB:Option Addr} {mJ:Array Value} {MC:Array (Option Value)}
  {F_:Addr} {Ra Rb:Option Addr} {Rc:Array (Option Value)} {Rf Rg Rh Ri Rj:Value} {K8:Value}
  {F':Addr} {Rk EM:Option Addr} {Rm:Array (Option Value)} {Rn EN EO ER ES:Value} {yb:Addr}
  {tF Ro:Nat} {ME:Value} {MF:Option Addr} {Ga:Tok} {MG:Array (Option Value)}
  {Gb:Addr} {Rp Rq:Option Addr} {Rt:Array (Option Value)} {Ru Rv Rw Rx Ry:Value} {K9:Value}
  {Gd:Addr} {Rz RA:Option Addr} {RB:Array (Option Value)} {RC RD RE RF RG:Value} {K':Value}
  {Ge:Addr} {RH RI:Option Addr} {RJ:Array (Option Value)} {RK RL RM RN RO:Value} {La:Value}
  {Gf:Addr} {RP RQ:Option Addr} {RS:Array (Option Value)} {RT RU RV RW RX:Value} {Lb:Value}
  {Gg:Addr} {RY RZ:Option Addr} {R_:Array (Option Value)} {R0 R1 R3 R4 R5:Value} {Lc:Value}
  {Gh:Addr} {R6 R7:Option Addr} {R8:Array (Option Value)} {R9 R' Sb Sd Se:Value} {Ld:Value}
  {Gi:Addr} {Sf Sg:Option Addr} {Sh:Array (Option Value)} {Si Sj Sk Sl Sm:Value} {Le:Value}
  {f32:Addr} {Sn So:Option Addr} {Sq:Array (Option Value)} {Sr Ss Sv Sw Sx:Value} {Lg:Value}
  {Gj:Addr} {Sy Lh:Option Addr} {Sz:Array (Option Value)} {SA Li Lj Lk Ll:Value} {tG:Addr}
  {jZ:Addr} {MH:Option Addr} {mK:Array Value} {MI:Array (Option Value)}
  {Lm:Addr} {SD Ln:Option Addr} {SE:Array (Option Value)} {SF Lo Lp Lq Lr:Value} {ET:Value}
  (a0:PySem.W.nsIn K mainGlobals "figures_of"=some (some (.ref f0))) (l0:K.lookup f0=some ⟨US,UQ,.func (PySem.W.fnOf "figures_of" "figures_of" (aA fC) (ax fC) (ah fC) .none UT UU UW UR N8 UX),Nh⟩) (c0:PySem.W.codeIn K N8 "figures_of"=true) (k0:PySem.W.keepIn K (.ref f0)=true)
  (a1:PySem.W.nsIn K mainGlobals "all_letters"=some (some (.ref f1))) (l1:K.lookup f1=some ⟨U0,UY,.func (PySem.W.fnOf "all_letters" "all_letters" (aA cH) (ax cH) (ah cH) .none U1 U2 U3 UZ N9 U4),U_⟩) (c1:PySem.W.codeIn K N9 "all_letters"=true) (k1:PySem.W.keepIn K (.ref f1)=true)
  (a2:PySem.W.nsIn K mainGlobals "room_after"=some (some (.ref f2))) (l2:K.lookup f2=some ⟨U7,U5,.func (PySem.W.fnOf "room_after" "room_after" (aA fD) (ax fD) (ah fD) .none U8 U9 U' U6 N' Vb),sl2⟩) (c2:PySem.W.codeIn K N' "room_after"=true) (k2:PySem.W.keepIn K (.ref f2)=true)
  (a3:PySem.W.nsIn K mainGlobals "grown_from"=some (some (.ref f3))) (l3:K.lookup f3=some ⟨Ve,Vc,.func (PySem.W.fnOf "grown_from" "grown_from" (aA bA) (ax bA) (ah bA) (.ref zE) Kt Ku Kv Ks (.ref Dr) Kw),Vd⟩) (c3:PySem.W.codeIn K (.ref Dr) "grown_from"=true) (k3:PySem.W.keepIn K (.ref f3)=true)
  (ld3:K.lookup zE=some ⟨Pz,PB,.seq #[(.int 2000 Kx)] Vf,PD⟩)
  (a4:PySem.W.nsIn K mainGlobals "machine_of"=some (some (.ref f4))) (l4:K.lookup f4=some ⟨Vj,Vg,.func (PySem.W.fnOf "machine_of" "machine_of" (aA d7) (ax d7) (ah d7) .none Vk Vl Vm Vh Oa Vn),Vi⟩) (c4:PySem.W.codeIn K Oa "machine_of"=true) (k4:PySem.W.keepIn K (.ref f4)=true)
  (a5:PySem.W.nsIn K mainGlobals "inner_parts"=some (some (.ref f5))) (l5:K.lookup f5=some ⟨Vr,Vo,.func (PySem.W.fnOf "inner_parts" "inner_parts" (aA cI) (ax cI) (ah cI) .none Vs Vt Vu Vp Ob Vv),Vq⟩) (c5:PySem.W.codeIn K Ob "inner_parts"=true) (k5:PySem.W.keepIn K (.ref f5)=true)
  (a6:PySem.W.nsIn K mainGlobals "term_names"=some (some (.ref f6))) (l6:K.lookup f6=some ⟨Vz,Vw,.func (PySem.W.fnOf "term_names" "term_names" (aA dg) (ax dg) (ah dg) .none VA VB VC Vx Oc VD),Vy⟩) (c6:PySem.W.codeIn K Oc "term_names"=true) (k6:PySem.W.keepIn K (.ref f6)=true)
  (a7:PySem.W.nsIn K mainGlobals "parts_in_order"=some (some (.ref f7))) (l7:K.lookup f7=some ⟨VH,VE,.func (PySem.W.fnOf "parts_in_order" "parts_in_order" (aA cz) (ax cz) (ah cz) .none VI VJ VL VF Od VM),VG⟩) (c7:PySem.W.codeIn K Od "parts_in_order"=true) (k7:PySem.W.keepIn K (.ref f7)=true)
  (a8:PySem.W.nsIn K mainGlobals "told_of_parts"=some (some (.ref f8))) (l8:K.lookup f8=some ⟨VQ,VN,.func (PySem.W.fnOf "told_of_parts" "told_of_parts" (aA cg) (ax cg) (ah cg) .none VR VS VT VO Oe VU),VP⟩) (c8:PySem.W.codeIn K Oe "told_of_parts"=true) (k8:PySem.W.keepIn K (.ref f8)=true)
  (a9:PySem.W.nsIn K mainGlobals "names_over"=some (some (.ref f9))) (l9:K.lookup f9=some ⟨VZ,VW,.func (PySem.W.fnOf "names_over" "names_over" (aA dh) (ax dh) (ah dh) .none V_ V0 V1 VX Og V2),VY⟩) (c9:PySem.W.codeIn K Og "names_over"=true) (k9:PySem.W.keepIn K (.ref f9)=true)
  (a10:PySem.W.nsIn K mainGlobals "names_by_place"=some (some (.ref FN))) (l10:K.lookup FN=some ⟨PK,PF,.func (PySem.W.fnOf "names_by_place" "names_by_place" (aA cA) (ax cA) (ah cA) .none PL PN PQ PH Ky PR),PJ⟩) (c10:PySem.W.codeIn K Ky "names_by_place"=true) (k10:PySem.W.keepIn K (.ref FN)=true)
  (a11:PySem.W.nsIn K mainGlobals "free_names"=some (some (.ref f11))) (l11:K.lookup f11=some ⟨PY,PU,.func (PySem.W.fnOf "free_names" "free_names" (aA d8) (ax d8) (ah d8) .none PZ P_ P0 PV Kz P1),PX⟩) (c11:PySem.W.codeIn K Kz "free_names"=true) (k11:PySem.W.keepIn K (.ref f11)=true)
  (a12:PySem.W.nsIn K mainGlobals "times_of"=some (some (.ref FO))) (l12:K.lookup FO=some ⟨P6,P2,.func (PySem.W.fnOf "times_of" "times_of" (aA eX) (ax eX) (ah eX) .none P7 P8 P9 P4 KA Qa),P5⟩) (c12:PySem.W.codeIn K KA "times_of"=true) (k12:PySem.W.keepIn K (.ref FO)=true)
  (a13:PySem.W.nsIn K mainGlobals "sum_of"=some (some (.ref FP))) (l13:K.lookup FP=some ⟨Qg,Qb,.func (PySem.W.fnOf "sum_of" "sum_of" (aA gM) (ax gM) (ah gM) .none Qh Qi Qj Qd KC Qk),Qe⟩) (c13:PySem.W.codeIn K KC "sum_of"=true) (k13:PySem.W.keepIn K (.ref FP)=true)
  (a14:PySem.W.nsIn K mainGlobals "letter_sums"=some (some (.ref FQ))) (l14:K.lookup FQ=some ⟨Qo,Ql,.func (PySem.W.fnOf "letter_sums" "letter_sums" (aA cJ) (ax cJ) (ah cJ) .none Qp Qq Qr Qm KD Qs),Qn⟩) (c14:PySem.W.codeIn K KD "letter_sums"=true) (k14:PySem.W.keepIn K (.ref FQ)=true)
  (a15:PySem.W.nsIn K mainGlobals "differences"=some (some (.ref FR))) (l15:K.lookup FR=some ⟨Qw,Qt,.func (PySem.W.fnOf "differences" "differences" (aA cK) (ax cK) (ah cK) .none Qx Qy Qz Qu KG QA),Qv⟩) (c15:PySem.W.codeIn K KG "differences"=true) (k15:PySem.W.keepIn K (.ref FR)=true)
  (a16:PySem.W.nsIn K mainGlobals "same_onward"=some (some (.ref FT))) (l16:K.lookup FT=some ⟨QE,QB,.func (PySem.W.fnOf "same_onward" "same_onward" (aA dq) (ax dq) (ah dq) .none QF QG QH QC KH QI),QD⟩) (c16:PySem.W.codeIn K KH "same_onward"=true) (k16:PySem.W.keepIn K (.ref FT)=true)
  (a17:PySem.W.nsIn K mainGlobals "same_growth"=some (some (.ref FU))) (l17:K.lookup FU=some ⟨QL,QJ,.func (PySem.W.fnOf "same_growth" "same_growth" (aA bx) (ax bx) (ah bx) .none KJ KL KN KI (.ref tm) KO),QK⟩) (c17:PySem.W.codeIn K (.ref tm) "same_growth"=true) (k17:PySem.W.keepIn K (.ref FU)=true)
  (lc17:K.lookup tm=some ⟨.type "code",Mu,.fields mG,Mv⟩) (lv17:mG[11]? =some (.ref jV))
  (le17:((match (mG[11]? :Option Value) with | some (.ref P')=>P' == jV | _=>false)&&(match mG.getD 18 .none with | .str _ _=>true | _=>false)&&(match mG.getD 7 .none with | .int _ _=>true | _=>false)&&(match mG.getD 9 .none with | .bool _=>true | _=>false)&&(match mG.getD 10 .none with | .int _ _=>true | _=>false)&&tm != jV)=true)
  (ln17:K.lookup jV=none) (lt17:h.get? jV=some (PySem.W.tabObj #[]))
  (a18:PySem.W.nsIn K mainGlobals "less_growth"=some (some (.ref FV))) (l18:K.lookup FV=some ⟨QO,QM,.func (PySem.W.fnOf "less_growth" "less_growth" (aA bz) (ax bz) (ah bz) .none KQ KR KS KP (.ref tu) KU),QN⟩) (c18:PySem.W.codeIn K (.ref tu) "less_growth"=true) (k18:PySem.W.keepIn K (.ref FV)=true)
  (lc18:K.lookup tu=some ⟨.type "code",Mw,.fields mH,Mx⟩) (lv18:mH[11]? =some (.ref jW))
  (le18:((match (mH[11]? :Option Value) with | some (.ref P')=>P' == jW | _=>false)&&(match mH.getD 18 .none with | .str _ _=>true | _=>false)&&(match mH.getD 7 .none with | .int _ _=>true | _=>false)&&(match mH.getD 9 .none with | .bool _=>true | _=>false)&&(match mH.getD 10 .none with | .int _ _=>true | _=>false)&&tu != jW)=true)
  (ln18:K.lookup jW=none) (lt18:h.get? jW=some (PySem.W.tabObj #[]))
  (a19:PySem.W.nsIn K mainGlobals "row_onward"=some (some (.ref FW))) (l19:K.lookup FW=some ⟨QS,QP,.func (PySem.W.fnOf "row_onward" "row_onward" (aA fE) (ax fE) (ah fE) .none QT QU QV QQ KW QW),QR⟩) (c19:PySem.W.codeIn K KW "row_onward"=true) (k19:PySem.W.keepIn K (.ref FW)=true)
  (a20:PySem.W.nsIn K mainGlobals "sign_from"=some (some (.ref FX))) (l20:K.lookup FX=some ⟨Q_,QX,.func (PySem.W.fnOf "sign_from" "sign_from" (aA gj) (ax gj) (ah gj) .none Q0 Q1 Q2 QY KY Q3),QZ⟩) (c20:PySem.W.codeIn K KY "sign_from"=true) (k20:PySem.W.keepIn K (.ref FX)=true)
  (a21:PySem.W.nsIn K mainGlobals "sign_growth"=some (some (.ref FY))) (l21:K.lookup FY=some ⟨Q6,Q4,.func (PySem.W.fnOf "sign_growth" "sign_growth" (aA bW) (ax bW) (ah bW) .none K_ K0 K1 KZ (.ref tD) K2),Q5⟩) (c21:PySem.W.codeIn K (.ref tD) "sign_growth"=true) (k21:PySem.W.keepIn K (.ref FY)=true)
  (lc21:K.lookup tD=some ⟨.type "code",Mz,.fields mI,MA⟩) (lv21:mI[11]? =some (.ref jX))
  (le21:((match (mI[11]? :Option Value) with | some (.ref P')=>P' == jX | _=>false)&&(match mI.getD 18 .none with | .str _ _=>true | _=>false)&&(match mI.getD 7 .none with | .int _ _=>true | _=>false)&&(match mI.getD 9 .none with | .bool _=>true | _=>false)&&(match mI.getD 10 .none with | .int _ _=>true | _=>false)&&tD != jX)=true)
  (ln21:K.lookup jX=none) (lt21:h.get? jX=some (PySem.W.tabObj #[]))
  (a22:PySem.W.nsIn K mainGlobals "alike_growth"=some (some (.ref FZ))) (l22:K.lookup FZ=some ⟨Q9,Q7,.func (PySem.W.fnOf "alike_growth" "alike_growth" (aA bO) (ax bO) (ah bO) .none K4 K5 K6 K3 (.ref tE) K7),Q8⟩) (c22:PySem.W.codeIn K (.ref tE) "alike_growth"=true) (k22:PySem.W.keepIn K (.ref FZ)=true)
  (lc22:K.lookup tE=some ⟨.type "code",MB,.fields mJ,MC⟩) (lv22:mJ[11]? =some (.ref jY))
  (le22:((match (mJ[11]? :Option Value) with | some (.ref P')=>P' == jY | _=>false)&&(match mJ.getD 18 .none with | .str _ _=>true | _=>false)&&(match mJ.getD 7 .none with | .int _ _=>true | _=>false)&&(match mJ.getD 9 .none with | .bool _=>true | _=>false)&&(match mJ.getD 10 .none with | .int _ _=>true | _=>false)&&tE != jY)=true)
  (ln22:K.lookup jY=none) (lt22:h.get? jY=some (PySem.W.tabObj #[]))
  (a23:PySem.W.nsIn K mainGlobals "atom_growth"=some (some (.ref F_))) (l23:K.lookup F_=some ⟨Rf,Ra,.func (PySem.W.fnOf "atom_growth" "atom_growth" (aA dr) (ax dr) (ah dr) .none Rg Rh Ri Rb K8 Rj),Rc⟩) (c23:PySem.W.codeIn K K8 "atom_growth"=true) (k23:PySem.W.keepIn K (.ref F_)=true)
  (a24:PySem.W.nsIn K mainGlobals "atom_of"=some (some (.ref F'))) (l24:K.lookup F'=some ⟨Rn,Rk,.func (PySem.W.fnOf "atom_of" "atom_of" (aA cn) (ax cn) (ah cn) (.ref tF) EN EO ER EM (.ref yb) ES),Rm⟩) (c24:PySem.W.codeIn K (.ref yb) "atom_of"=true) (k24:PySem.W.keepIn K (.ref F')=true)
  (ld24:K.lookup tF=some ⟨ME,MF,.seq #[(.int 2000 Ga)] Ro,MG⟩)
  (a25:PySem.W.nsIn K mainGlobals "_law_feed"=some (some (.ref Gb))) (l25:K.lookup Gb=some ⟨Ru,Rp,.func (PySem.W.fnOf "_law_feed" "_law_feed" (aA gN) (ax gN) (ah gN) .none Rv Rw Rx Rq K9 Ry),Rt⟩) (c25:PySem.W.codeIn K K9 "_law_feed"=true) (k25:PySem.W.keepIn K (.ref Gb)=true)
  (a26:PySem.W.nsIn K mainGlobals "_law_draw"=some (some (.ref Gd))) (l26:K.lookup Gd=some ⟨RC,Rz,.func (PySem.W.fnOf "_law_draw" "_law_draw" (aA il) (ax il) (ah il) .none RD RE RF RA K' RG),RB⟩) (c26:PySem.W.codeIn K K' "_law_draw"=true) (k26:PySem.W.keepIn K (.ref Gd)=true)
  (a27:PySem.W.nsIn K mainGlobals "_law_after"=some (some (.ref Ge))) (l27:K.lookup Ge=some ⟨RK,RH,.func (PySem.W.fnOf "_law_after" "_law_after" (aA gY) (ax gY) (ah gY) .none RL RM RN RI La RO),RJ⟩) (c27:PySem.W.codeIn K La "_law_after"=true) (k27:PySem.W.keepIn K (.ref Ge)=true)
  (a28:PySem.W.nsIn K mainGlobals "_law_names"=some (some (.ref Gf))) (l28:K.lookup Gf=some ⟨RT,RP,.func (PySem.W.fnOf "_law_names" "_law_names" (aA eJ) (ax eJ) (ah eJ) .none RU RV RW RQ Lb RX),RS⟩) (c28:PySem.W.codeIn K Lb "_law_names"=true) (k28:PySem.W.keepIn K (.ref Gf)=true)
  (a29:PySem.W.nsIn K mainGlobals "_law_term"=some (some (.ref Gg))) (l29:K.lookup Gg=some ⟨R0,RY,.func (PySem.W.fnOf "_law_term" "_law_term" (aA gP) (ax gP) (ah gP) .none R1 R3 R4 RZ Lc R5),R_⟩) (c29:PySem.W.codeIn K Lc "_law_term"=true) (k29:PySem.W.keepIn K (.ref Gg)=true)
  (a30:PySem.W.nsIn K mainGlobals "_law_letters"=some (some (.ref Gh))) (l30:K.lookup Gh=some ⟨R9,R6,.func (PySem.W.fnOf "_law_letters" "_law_letters" (aA dQ) (ax dQ) (ah dQ) .none R' Sb Sd R7 Ld Se),R8⟩) (c30:PySem.W.codeIn K Ld "_law_letters"=true) (k30:PySem.W.keepIn K (.ref Gh)=true)
  (a31:PySem.W.nsIn K mainGlobals "_law_grown"=some (some (.ref Gi))) (l31:K.lookup Gi=some ⟨Si,Sf,.func (PySem.W.fnOf "_law_grown" "_law_grown" (aA gZ) (ax gZ) (ah gZ) .none Sj Sk Sl Sg Le Sm),Sh⟩) (c31:PySem.W.codeIn K Le "_law_grown"=true) (k31:PySem.W.keepIn K (.ref Gi)=true)
  (a32:PySem.W.nsIn K mainGlobals "_law_alike"=some (some (.ref f32))) (l32:K.lookup f32=some ⟨Sr,Sn,.func (PySem.W.fnOf "_law_alike" "_law_alike" (aA fF) (ax fF) (ah fF) .none Ss Sv Sw So Lg Sx),Sq⟩) (c32:PySem.W.codeIn K Lg "_law_alike"=true) (k32:PySem.W.keepIn K (.ref f32)=true)
  (a33:PySem.W.nsIn K mainGlobals "_law_due"=some (some (.ref Gj))) (l33:K.lookup Gj=some ⟨SA,Sy,.func (PySem.W.fnOf "_law_due" "_law_due" (aA dv) (ax dv) (ah dv) .none Li Lj Lk Lh (.ref tG) Ll),Sz⟩) (c33:PySem.W.codeIn K (.ref tG) "_law_due"=true) (k33:PySem.W.keepIn K (.ref Gj)=true)
  (lc33:K.lookup tG=some ⟨.type "code",MH,.fields mK,MI⟩) (lv33:mK[11]? =some (.ref jZ))
  (le33:((match (mK[11]? :Option Value) with | some (.ref P')=>P' == jZ | _=>false)&&(match mK.getD 18 .none with | .str _ _=>true | _=>false)&&(match mK.getD 7 .none with | .int _ _=>true | _=>false)&&(match mK.getD 9 .none with | .bool _=>true | _=>false)&&(match mK.getD 10 .none with | .int _ _=>true | _=>false)&&tG != jZ)=true)
  (ln33:K.lookup jZ=none) (lt33:h.get? jZ=some (PySem.W.tabObj #[]))
  (a34:PySem.W.nsIn K mainGlobals "law"=some (some (.ref Lm))) (l34:K.lookup Lm=some ⟨SF,SD,.func (PySem.W.fnOf "law" "law" (aA iJ) (ax iJ) (ah iJ) .none Lo Lp Lq Ln ET Lr),SE⟩) (c34:PySem.W.codeIn K ET "law"=true) (k34:PySem.W.keepIn K (.ref Lm)=true)
  (z0:PySem.W.nsIn K mainGlobals "range"=some none)
  (z1:PySem.W.nsIn K mainGlobals "tuple"=some none)
  (z2:PySem.W.nsIn K mainGlobals "len"=some none)
  (z3:PySem.W.nsIn K mainGlobals "list"=some none)
  (z4:PySem.W.nsIn K mainGlobals "dict"=some none)
  (z5:PySem.W.nsIn K mainGlobals "sum"=some none)
  (z6:PySem.W.nsIn K mainGlobals "enumerate"=some none)
  (z7:PySem.W.nsIn K mainGlobals "reversed"=some none)
  (z8:PySem.W.nsIn K mainGlobals "sorted"=some none)
  (z9:PySem.W.nsIn K mainGlobals "abs"=some none)
  (z10:PySem.W.nsIn K mainGlobals "isinstance"=some none)
  (z11:PySem.W.nsIn K mainGlobals "bool"=some none)
  (z12:PySem.W.nsIn K mainGlobals "set"=some none)
  (z13:PySem.W.nsIn K mainGlobals "zip"=some none)
  (z14:PySem.W.nsIn K mainGlobals "all"=some none)
  (z15:PySem.W.nsIn K mainGlobals "int"=some none)
  (tne01:jV≠jW)
  (tne02:jV≠jX)
  (tne03:jV≠jY)
  (tne04:jV≠jZ)
  (tne12:jW≠jX)
  (tne13:jW≠jY)
  (tne14:jW≠jZ)
  (tne23:jX≠jY)
  (tne24:jX≠jZ)
  (tne34:jY≠jZ)
  {pd:Addr} {Ls:Array DictEntry} {pn:Nat}
  {AJ:Addr} {MJ:Nat} {Lu:_}
  {AK:Addr} {MK:Nat} {Lv:_} {Lw:_}
  {AL:Addr} {ML:Nat} {Lx:_} {Ly:_}
  {AN:Addr} {MM:Nat} {Lz:_}
  {AO:Addr} {MN:Nat} {LA:_}
  (p_a:PySem.W.nsIn K mainGlobals "PART_SPOTS"=some (some (.ref pd))) (p_l:K.lookup pd=some ⟨.type "dict",none,.dict Ls pn, #[]⟩) (p_k:PySem.W.KeysLit w.params Ls.toList) (p_s:(pd == sysModules)=false)
  (pq_no:PySem.W.nsIn K pd "not"=some (some (.ref AJ))) (pr_no:K.lookup AJ=some ⟨.type "tuple",none,.seq #[.int 1 Lu] MJ, #[]⟩)
  (pq_an:PySem.W.nsIn K pd "and"=some (some (.ref AK))) (pr_an:K.lookup AK=some ⟨.type "tuple",none,.seq #[.int 1 Lv,.int 2 Lw] MK, #[]⟩)
  (pq_or:PySem.W.nsIn K pd "or"=some (some (.ref AL))) (pr_or:K.lookup AL=some ⟨.type "tuple",none,.seq #[.int 1 Lx,.int 2 Ly] ML, #[]⟩)
  (pq_so:PySem.W.nsIn K pd "some"=some (some (.ref AN))) (pr_so:K.lookup AN=some ⟨.type "tuple",none,.seq #[.int 2 Lz] MM, #[]⟩)
  (pq_ea:PySem.W.nsIn K pd "each"=some (some (.ref AO))) (pr_ea:K.lookup AO=some ⟨.type "tuple",none,.seq #[.int 2 LA] MN, #[]⟩)
  (pq_same:PySem.W.nsIn K pd "same"=some none)
  (pq_less:PySem.W.nsIn K pd "less"=some none)
  (pq_sign:PySem.W.nsIn K pd "sign"=some none)
  (pq_alike:PySem.W.nsIn K pd "alike"=some none)
  {sd:Addr} {LB:Array DictEntry} {sn:Nat}
  {AQ:Addr} {MO:Nat} {LC:_} {LF:_}
  {AU:Addr} {MP:Nat} {LG:_} {LH:_}
  {AV:Addr} {MQ:Nat} {LI:_}
  {AW:Addr} {MS:Nat} {LJ:_} {LK:_}
  (s_a:PySem.W.nsIn K mainGlobals "TERM_SPOTS"=some (some (.ref sd))) (s_l:K.lookup sd=some ⟨.type "dict",none,.dict LB sn, #[]⟩) (s_k:PySem.W.KeysLit w.params LB.toList) (s_s:(sd == sysModules)=false)
  (sq_sa:PySem.W.nsIn K sd "same"=some (some (.ref AQ))) (sr_sa:K.lookup AQ=some ⟨.type "tuple",none,.seq #[.int 1 LC,.int 2 LF] MO, #[]⟩)
  (sq_le:PySem.W.nsIn K sd "less"=some (some (.ref AU))) (sr_le:K.lookup AU=some ⟨.type "tuple",none,.seq #[.int 1 LG,.int 2 LH] MP, #[]⟩)
  (sq_si:PySem.W.nsIn K sd "sign"=some (some (.ref AV))) (sr_si:K.lookup AV=some ⟨.type "tuple",none,.seq #[.int 2 LI] MQ, #[]⟩)
  (sq_al:PySem.W.nsIn K sd "alike"=some (some (.ref AW))) (sr_al:K.lookup AW=some ⟨.type "tuple",none,.seq #[.int 2 LJ,.int 4 LK] MS, #[]⟩)
  (sq_not:PySem.W.nsIn K sd "not"=some none)
  (sq_and:PySem.W.nsIn K sd "and"=some none)
  (sq_or:PySem.W.nsIn K sd "or"=some none)
  (sq_some:PySem.W.nsIn K sd "some"=some none)
  (sq_each:PySem.W.nsIn K sd "each"=some none)
  :∃(fd:FuncData) (ts:List Addr),(∀T∈ts,(∃c,PySem.W.CodeHd h c T)∧h.get? T=some (PySem.W.tabObj #[])∧K.lookup T=none)∧(∀(s:Shared) (v:Value),BindsTo s fd ⟨[v],[]⟩ [("_law_script",v)])∧∀base:Heap,K.In base→base.Ns mainGlobals mg→dW mg base→aQ l.prog w K mg base bj 6 fa fd ["_law_script"] (vC K ts):=by
 have e:=hfa.symm.trans (PySem.W.mg_of X G a34)
 cases e
 have F0:=bu (st:=fC) l0 c0 k0
 have b0:=F0.binds (ps:=["base","number"]) fun _ _ _ _ _ _ us hl=>ln2 us hl fun _ _=>rfl
 have F1:=bu (st:=cH) l1 c1 k1
 have b1:=F1.binds (ps:=["base","many"]) fun _ _ _ _ _ _ us hl=>ln2 us hl fun _ _=>rfl
 have F2:=bu (st:=fD) l2 c2 k2
 have b2:=F2.binds (ps:=["moves","room","figures"]) fun _ _ _ _ _ _ us hl=>oA us hl fun _ _ _=>rfl
 have F3:=ik (st:=bA) l3 c3 k3
 have b3:Binds K (PySem.W.fnOf "grown_from" "grown_from" (aA bA) (ax bA) (ah bA) (.ref zE) Kt Ku Kv Ks (.ref Dr) Kw) ["first","many","onward","is_yes","most"] []:=fun s us hK hl=>Kr us (by rw[List.append_nil] at hl;exact hl) fun _ _ _ _ _=>BindsTo.of_defaults (T:=zE) rfl (hK _ _ ld3) rfl rfl rfl
 have d3:∃t,Binds K (PySem.W.fnOf "grown_from" "grown_from" (aA bA) (ax bA) (ah bA) (.ref zE) Kt Ku Kv Ks (.ref Dr) Kw) ["first","many","onward","is_yes","most"] [.int 2000 t]:=⟨Kx,fun s us hK hl=>have h3:us.length=4:=(by simpa using hl);Dq us h3 fun _ _ _ _=>BindsTo.of_defaults (T:=zE) rfl (hK _ _ ld3) rfl rfl rfl⟩
 have F4:=bu (st:=d7) l4 c4 k4
 have b4:=F4.binds (ps:=["base","names","growth","most"]) fun _ _ _ _ _ _ us hl=>Dq us hl fun _ _ _ _=>rfl
 have F5:=bu (st:=cI) l5 c5 k5
 have b5:=F5.binds (ps:=["saying"]) fun _ _ _ _ _ _ us hl=>nA us hl fun _=>rfl
 have F6:=bu (st:=dg) l6 c6 k6
 have b6:=F6.binds (ps:=["saying"]) fun _ _ _ _ _ _ us hl=>nA us hl fun _=>rfl
 have F7:=bu (st:=cz) l7 c7 k7
 have b7:=F7.binds (ps:=["saying"]) fun _ _ _ _ _ _ us hl=>nA us hl fun _=>rfl
 have F8:=bu (st:=cg) l8 c8 k8
 have b8:=F8.binds (ps:=["told","place","saying"]) fun _ _ _ _ _ _ us hl=>oA us hl fun _ _ _=>rfl
 have F9:=bu (st:=dh) l9 c9 k9
 have b9:=F9.binds (ps:=["saying","inner"]) fun _ _ _ _ _ _ us hl=>ln2 us hl fun _ _=>rfl
 have F10:=bu (st:=cA) l10 c10 k10
 have b10:=F10.binds (ps:=["saying"]) fun _ _ _ _ _ _ us hl=>nA us hl fun _=>rfl
 have F11:=bu (st:=d8) l11 c11 k11
 have V3:=F11.binds (ps:=["saying"]) fun _ _ _ _ _ _ us hl=>nA us hl fun _=>rfl
 have F12:=bu (st:=eX) l12 c12 k12
 have V4:=F12.binds (ps:=["term","names"]) fun _ _ _ _ _ _ us hl=>ln2 us hl fun _ _=>rfl
 have F13:=bu (st:=gM) l13 c13 k13
 have V5:=F13.binds (ps:=["letter","times"]) fun _ _ _ _ _ _ us hl=>ln2 us hl fun _ _=>rfl
 have F14:=bu (st:=cJ) l14 c14 k14
 have V6:=F14.binds (ps:=["base","times"]) fun _ _ _ _ _ _ us hl=>ln2 us hl fun _ _=>rfl
 have F15:=bu (st:=cK) l15 c15 k15
 have V7:=F15.binds (ps:=["saying","names"]) fun _ _ _ _ _ _ us hl=>ln2 us hl fun _ _=>rfl
 have F16:=bu (st:=dq) l16 c16 k16
 have V8:=F16.binds (ps:=["base","room","total"]) fun _ _ _ _ _ _ us hl=>oA us hl fun _ _ _=>rfl
 have F17:=ik (st:=bx) l17 c17 k17
 have Oh:=iX lc17 le17
 have V9:Binds K (PySem.W.fnOf "same_growth" "same_growth" (aA bx) (ax bx) (ah bx) .none KJ KL KN KI (.ref tm) KO) ["base","names","saying"] []:=.all fun us hl=>oA us hl fun _ _ _=>rfl
 have F18:=ik (st:=bz) l18 c18 k18
 have Oi:=iX lc18 le18
 have V':Binds K (PySem.W.fnOf "less_growth" "less_growth" (aA bz) (ax bz) (ah bz) .none KQ KR KS KP (.ref tu) KU) ["base","names","saying"] []:=.all fun us hl=>oA us hl fun _ _ _=>rfl
 have F19:=bu (st:=fE) l19 c19 k19
 have Wa:=F19.binds (ps:=["base","row","pair","total"]) fun _ _ _ _ _ _ us hl=>Dq us hl fun _ _ _ _=>rfl
 have F20:=bu (st:=gj) l20 c20 k20
 have Wb:=F20.binds (ps:=["base","row","pair"]) fun _ _ _ _ _ _ us hl=>oA us hl fun _ _ _=>rfl
 have F21:=ik (st:=bW) l21 c21 k21
 have Oj:=iX lc21 le21
 have Wc:Binds K (PySem.W.fnOf "sign_growth" "sign_growth" (aA bW) (ax bW) (ah bW) .none K_ K0 K1 KZ (.ref tD) K2) ["world","names","saying"] []:=.all fun us hl=>oA us hl fun _ _ _=>rfl
 have F22:=ik (st:=bO) l22 c22 k22
 have Ol:=iX lc22 le22
 have Wd:Binds K (PySem.W.fnOf "alike_growth" "alike_growth" (aA bO) (ax bO) (ah bO) .none K4 K5 K6 K3 (.ref tE) K7) ["world","names","saying"] []:=.all fun us hl=>oA us hl fun _ _ _=>rfl
 have F23:=bu (st:=dr) l23 c23 k23
 have Wf:=F23.binds (ps:=["world","names","saying"]) fun _ _ _ _ _ _ us hl=>oA us hl fun _ _ _=>rfl
 have F24:=ik (st:=cn) l24 c24 k24
 have Wg:Binds K (PySem.W.fnOf "atom_of" "atom_of" (aA cn) (ax cn) (ah cn) (.ref tF) EN EO ER EM (.ref yb) ES) ["world","saying","most"] []:=fun s us hK hl=>oA us (by rw[List.append_nil] at hl;exact hl) fun _ _ _=>BindsTo.of_defaults (T:=tF) rfl (hK _ _ ld24) rfl rfl rfl
 have Wh:∃t,Binds K (PySem.W.fnOf "atom_of" "atom_of" (aA cn) (ax cn) (ah cn) (.ref tF) EN EO ER EM (.ref yb) ES) ["world","saying","most"] [.int 2000 t]:=⟨Ga,fun s us hK hl=>have h3:us.length=2:=(by simpa using hl);ln2 us h3 fun _ _=>BindsTo.of_defaults (T:=tF) rfl (hK _ _ ld24) rfl rfl rfl⟩
 have F25:=bu (st:=gN) l25 c25 k25
 have Wi:=F25.binds (ps:=["_law_script"]) fun _ _ _ _ _ _ us hl=>nA us hl fun _=>rfl
 have F26:=bu (st:=il) l26 c26 k26
 have Wj:=F26.binds (ps:=["_law_feed_here","_law_many"]) fun _ _ _ _ _ _ us hl=>ln2 us hl fun _ _=>rfl
 have F27:=bu (st:=gY) l27 c27 k27
 have Wk:=F27.binds (ps:=["_law_word"]) fun _ _ _ _ _ _ us hl=>nA us hl fun _=>rfl
 have F28:=bu (st:=eJ) l28 c28 k28
 have Wl:=F28.binds (ps:=["_law_feed_here","_law_many"]) fun _ _ _ _ _ _ us hl=>ln2 us hl fun _ _=>rfl
 have F29:=bu (st:=gP) l29 c29 k29
 have Wm:=F29.binds (ps:=["_law_feed_here","_law_names_here"]) fun _ _ _ _ _ _ us hl=>ln2 us hl fun _ _=>rfl
 have F30:=bu (st:=dQ) l30 c30 k30
 have Wn:=F30.binds (ps:=["_law_base","_law_many"]) fun _ _ _ _ _ _ us hl=>ln2 us hl fun _ _=>rfl
 have F31:=bu (st:=gZ) l31 c31 k31
 have Wo:=F31.binds (ps:=["_law_first","_law_many","_law_onward","_law_most"]) fun _ _ _ _ _ _ us hl=>Dq us hl fun _ _ _ _=>rfl
 have F32:=bu (st:=fF) l32 c32 k32
 have Wq:=F32.binds (ps:=["_law_found","_law_due_here"]) fun _ _ _ _ _ _ us hl=>ln2 us hl fun _ _=>rfl
 have F33:=ik (st:=dv) l33 c33 k33
 have Om:=iX lc33 le33
 have Wr:Binds K (PySem.W.fnOf "_law_due" "_law_due" (aA dv) (ax dv) (ah dv) .none Li Lj Lk Lh (.ref tG) Ll) ["_law_base","_law_word","_law_one","_law_other","_law_names_here"] []:=.all fun us hl=>Kr us hl fun _ _ _ _ _=>rfl
 have F34:=bu (st:=iJ) l34 c34 k34
 have T:Txt K mg ⟨f0,_,f1,_,f2,_,f3,_,Dr,f4,_,f5,_,f6,_,f7,_,f8,_,f9,_,FN,_,f11,_,FO,_,FP,_,FQ,_,FR,_,FT,_,FU,_,tm,jV,FV,_,tu,jW,FW,_,FX,_,FY,_,tD,jX,FZ,_,tE,jY,F_,_,F',_,yb,Gb,_,Gd,_,Ge,_,Gf,_,Gg,_,Gh,_,Gi,_,f32,_,Gj,_,tG,jZ,fa,_⟩:=⟨F0,PySem.W.mg_of X G a0,k0,b0,F1,PySem.W.mg_of X G a1,k1,b1,F2,PySem.W.mg_of X G a2,k2,b2,F3,PySem.W.mg_of X G a3,k3,b3,d3,F4,PySem.W.mg_of X G a4,k4,b4,F5,PySem.W.mg_of X G a5,k5,b5,F6,PySem.W.mg_of X G a6,k6,b6,F7,PySem.W.mg_of X G a7,k7,b7,F8,PySem.W.mg_of X G a8,k8,b8,F9,PySem.W.mg_of X G a9,k9,b9,F10,PySem.W.mg_of X G a10,k10,b10,F11,PySem.W.mg_of X G a11,k11,V3,F12,PySem.W.mg_of X G a12,k12,V4,F13,PySem.W.mg_of X G a13,k13,V5,F14,PySem.W.mg_of X G a14,k14,V6,F15,PySem.W.mg_of X G a15,k15,V7,F16,PySem.W.mg_of X G a16,k16,V8,F17,Oh,PySem.W.mg_of X G a17,k17,V9,F18,Oi,PySem.W.mg_of X G a18,k18,V',F19,PySem.W.mg_of X G a19,k19,Wa,F20,PySem.W.mg_of X G a20,k20,Wb,F21,Oj,PySem.W.mg_of X G a21,k21,Wc,F22,Ol,PySem.W.mg_of X G a22,k22,Wd,F23,PySem.W.mg_of X G a23,k23,Wf,F24,PySem.W.mg_of X G a24,k24,Wg,Wh,F25,PySem.W.mg_of X G a25,k25,Wi,F26,PySem.W.mg_of X G a26,k26,Wj,F27,PySem.W.mg_of X G a27,k27,Wk,F28,PySem.W.mg_of X G a28,k28,Wl,F29,PySem.W.mg_of X G a29,k29,Wm,F30,PySem.W.mg_of X G a30,k30,Wn,F31,PySem.W.mg_of X G a31,k31,Wo,F32,PySem.W.mg_of X G a32,k32,Wq,F33,Om,PySem.W.mg_of X G a33,k33,Wr,F34,PySem.W.mg_of X G a34,PySem.W.mg_none_of X G z0,PySem.W.mg_none_of X G z1,PySem.W.mg_none_of X G z2,PySem.W.mg_none_of X G z3,PySem.W.mg_none_of X G z4,PySem.W.mg_none_of X G z5,PySem.W.mg_none_of X G z6,PySem.W.mg_none_of X G z7,PySem.W.mg_none_of X G z8,PySem.W.mg_none_of X G z9,PySem.W.mg_none_of X G z10,PySem.W.mg_none_of X G z11,PySem.W.mg_none_of X G z12,PySem.W.mg_none_of X G z13,PySem.W.mg_none_of X G z14,PySem.W.mg_none_of X G z15,tne01,tne02,tne03,tne04,tne12,tne13,tne14,tne23,tne24,tne34⟩
 have Dp:kX K w.params pd (da ⟨pd,AJ,AK,AL,AN,AO⟩):=⟨⟨Ls,pn,p_l,p_k,by
  intro x r hm
  simp only[da,List.mem_cons,List.mem_nil_iff,or_false,Prod.mk.injEq] at hm
  rcases hm with⟨rfl,rfl⟩ | ⟨rfl,rfl⟩ | ⟨rfl,rfl⟩ | ⟨rfl,rfl⟩ | ⟨rfl,rfl⟩ | ⟨rfl,rfl⟩ | ⟨rfl,rfl⟩ | ⟨rfl,rfl⟩ | ⟨rfl,rfl⟩
  ·rw[PySem.W.find_K p_l pq_no];exact rfl
  ·rw[PySem.W.find_K p_l pq_an];exact rfl
  ·rw[PySem.W.find_K p_l pq_or];exact rfl
  ·rw[PySem.W.find_K p_l pq_so];exact rfl
  ·rw[PySem.W.find_K p_l pq_ea];exact rfl
  ·rw[PySem.W.find_K p_l pq_same];exact True.intro
  ·rw[PySem.W.find_K p_l pq_less];exact True.intro
  ·rw[PySem.W.find_K p_l pq_sign];exact True.intro
  ·rw[PySem.W.find_K p_l pq_alike];exact True.intro⟩,p_s⟩
 have U:iO K w.params mg ⟨pd,AJ,AK,AL,AN,AO⟩:=⟨PySem.W.mg_of X G p_a,Dp,fun H=>fO (us:=[.int 1 _]) pr_no (.cons ⟨_,rfl⟩ (.nil)) (by decide),fun H=>fO (us:=[.int 1 _,.int 2 _]) pr_an (.cons ⟨_,rfl⟩ (.cons ⟨_,rfl⟩ (.nil))) (by decide),fun H=>fO (us:=[.int 1 _,.int 2 _]) pr_or (.cons ⟨_,rfl⟩ (.cons ⟨_,rfl⟩ (.nil))) (by decide),fun H=>fO (us:=[.int 2 _]) pr_so (.cons ⟨_,rfl⟩ (.nil)) (by decide),fun H=>fO (us:=[.int 2 _]) pr_ea (.cons ⟨_,rfl⟩ (.nil)) (by decide)⟩
 have Ds:kX K w.params sd (dc ⟨sd,AQ,AU,AV,AW⟩):=⟨⟨LB,sn,s_l,s_k,by
  intro x r hm
  simp only[dc,List.mem_cons,List.mem_nil_iff,or_false,Prod.mk.injEq] at hm
  rcases hm with⟨rfl,rfl⟩ | ⟨rfl,rfl⟩ | ⟨rfl,rfl⟩ | ⟨rfl,rfl⟩ | ⟨rfl,rfl⟩ | ⟨rfl,rfl⟩ | ⟨rfl,rfl⟩ | ⟨rfl,rfl⟩ | ⟨rfl,rfl⟩
  ·rw[PySem.W.find_K s_l sq_sa];exact rfl
  ·rw[PySem.W.find_K s_l sq_le];exact rfl
  ·rw[PySem.W.find_K s_l sq_si];exact rfl
  ·rw[PySem.W.find_K s_l sq_al];exact rfl
  ·rw[PySem.W.find_K s_l sq_not];exact True.intro
  ·rw[PySem.W.find_K s_l sq_and];exact True.intro
  ·rw[PySem.W.find_K s_l sq_or];exact True.intro
  ·rw[PySem.W.find_K s_l sq_some];exact True.intro
  ·rw[PySem.W.find_K s_l sq_each];exact True.intro⟩,s_s⟩
 have Y:jo K w.params mg ⟨sd,AQ,AU,AV,AW⟩:=⟨PySem.W.mg_of X G s_a,Ds,fun H=>fO (us:=[.int 1 _,.int 2 _]) sr_sa (.cons ⟨_,rfl⟩ (.cons ⟨_,rfl⟩ (.nil))) (by decide),fun H=>fO (us:=[.int 1 _,.int 2 _]) sr_le (.cons ⟨_,rfl⟩ (.cons ⟨_,rfl⟩ (.nil))) (by decide),fun H=>fO (us:=[.int 2 _]) sr_si (.cons ⟨_,rfl⟩ (.nil)) (by decide),fun H=>fO (us:=[.int 2 _,.int 4 _]) sr_al (.cons ⟨_,rfl⟩ (.cons ⟨_,rfl⟩ (.nil))) (by decide)⟩
 exact⟨PySem.W.fnOf "law" "law" (aA iJ) (ax iJ) (ah iJ) .none Lo Lp Lq Ln ET Lr,[jV,jW,jX,jY,jZ],(List.forall_mem_cons.mpr ⟨⟨⟨_,PySem.W.codeHd_of_K X Oh⟩,lt17,ln17⟩,(List.forall_mem_cons.mpr ⟨⟨⟨_,PySem.W.codeHd_of_K X Oi⟩,lt18,ln18⟩,(List.forall_mem_cons.mpr ⟨⟨⟨_,PySem.W.codeHd_of_K X Oj⟩,lt21,ln21⟩,(List.forall_mem_cons.mpr ⟨⟨⟨_,PySem.W.codeHd_of_K X Ol⟩,lt22,ln22⟩,(List.forall_mem_cons.mpr ⟨⟨⟨_,PySem.W.codeHd_of_K X Om⟩,lt33,ln33⟩,(fun _ h=>nomatch h)⟩)⟩)⟩)⟩)⟩),fun s v=>.of_eq rfl,fun base _ _ hB=>Kj T hB U Y⟩
theorem walk {l:PySem.W.OpenLaw} {q:Program} {loose:List Str} {XP:(Str→Option Value)→Heap→Prop} {YP:World→Heap→Prop} {d:DefRec} {K:Params→PySem.W.Frag} (hn:l.most=some 63) (hdf:d.params.defaults=[])
  (hY:∀(w:World) (h:Heap),YP w h→(K w.params).In h)
  (F:∀(w:World) (mg:Str→Option Value) (fa:Addr) (h:Heap),(K w.params).In h→h.Ns mainGlobals mg→mg d.name=some (.ref fa)→YP w h→
   ∃(fd:FuncData) (ts:List Addr),(∀T∈ts,(∃c,PySem.W.CodeHd h c T)∧h.get? T=some (PySem.W.tabObj #[])∧(K w.params).lookup T=none)∧(∀(s:Shared) (u:Value),BindsTo s fd ⟨[u],[]⟩ [("_law_script",u)])∧
    ∀base:Heap,(K w.params).In base→base.Ns mainGlobals mg→dW mg base→aQ l.prog w (K w.params) mg base bj 6 fa fd ["_law_script"] (vC (K w.params) ts)):
  PySem.W.WalkO q loose XP YP l.row.toRowW d [] (fun f vs=>PySem.call f vs):=
 L2.D4 (n:=63) (k:=6) (x:="_law_script") (sp:=fun w ts=>vC (K w.params) ts) hn (by decide) hdf ⟨rfl,by decide,by decide,rfl⟩ hY F (fun _ _ a ns _ hl hO hS=>⟨a,ns,rfl,hS,hl,hO,fun _=>rfl⟩)
end My
namespace PySem.W.Fast
theorem tw7041496274951727411 : True := trivial
theorem tw5953727241923102081 : True := trivial
theorem tw7128531846608705923 : True := trivial
theorem tw12209612252749091792 : True := trivial
theorem tw5540969491934299097 : True := trivial
theorem tw17791818842966933927 : True := trivial
theorem tw11467858817553991656 : True := trivial
theorem tw6485545449213813819 : True := trivial
theorem tw8996772354399841866 : True := trivial
theorem tw1502034424388643795 : True := trivial
theorem tw3657915647764697989 : True := trivial
theorem tw17190314212639103481 : True := trivial
theorem tw1485358341267591286 : True := trivial
theorem tw11238245202492253549 : True := trivial
theorem tw6211666847687985697 : True := trivial
theorem tw16807208511593009979 : True := trivial
theorem tw10402452957045442190 : True := trivial
theorem tw443254682038366259 : True := trivial
theorem tw7248440902800730782 : True := trivial
theorem tw176421680014991613 : True := trivial
theorem tw7996518832183040708 : True := trivial
theorem tw4624227356457867298 : True := trivial
theorem tw12121725726089776376 : True := trivial
theorem tw292249512167392073 : True := trivial
theorem tw6223656495581300333 : True := trivial
theorem tw9761082412752994666 : True := trivial
theorem tw2533538879207333738 : True := trivial
theorem tw6478284736729671930 : True := trivial
theorem tw5200508732118081835 : True := trivial
theorem tw1277226167433305387 : True := trivial
theorem tw9693556692134456283 : True := trivial
theorem tw7961865924305861984 : True := trivial
theorem tw17980724897735207763 : True := trivial
theorem tw15843543512777339507 : True := trivial
theorem tw11145736316203115663 : True := trivial
theorem tw8683708701834526784 : True := trivial
theorem tw7018814887064762058 : True := trivial
theorem tw2846113045077590298 : True := trivial
theorem tw10412083279721013127 : True := trivial
theorem tw8095702455652581588 : True := trivial
theorem tw2885201514171755830 : True := trivial
theorem tw13918991686786359858 : True := trivial
theorem tw2633290466034917659 : True := trivial
theorem tw3540815387566687463 : True := trivial
theorem tw11180271891739074124 : True := trivial
theorem tw4056777384932327194 : True := trivial
theorem tw3882782539475745864 : True := trivial
theorem tw1446931927053714051 : True := trivial
theorem tw16605293987527901978 : True := trivial
theorem tw5862862702783469420 : True := trivial
theorem tw8412850425168408021 : True := trivial
theorem tw3142374202383251271 : True := trivial
theorem tw301472532308861257 : True := trivial
theorem tw673926068612648242 : True := trivial
theorem tw5906595223512772788 : True := trivial
theorem tw1166406147200031629 : True := trivial
theorem tw15703369859491966401 : True := trivial
theorem tw16529522749912923572 : True := trivial
theorem tw15182045171093026982 : True := trivial
theorem tw18204001292725348857 : True := trivial
theorem tw9986546011889983565 : True := trivial
theorem tw11342631916356492862 : True := trivial
theorem tw13255754175797281307 : True := trivial
theorem tw12078354953888588275 : True := trivial
theorem tw3225370929405075752 : True := trivial
theorem tw2874203472854588530 : True := trivial
theorem tw11235823136308686048 : True := trivial
theorem tw5343138045328837136 : True := trivial
theorem tw12866733030216147268 : True := trivial
theorem tw5927765595823960483 : True := trivial
theorem tw18204897352185693031 : True := trivial
theorem tw7395334028954922969 : True := trivial
theorem tw9087906716318433422 : True := trivial
theorem tw2553558470665630936 : True := trivial
theorem tw13568130422779011003 : True := trivial
theorem tw18042769336000831311 : True := trivial
theorem tw17928819149270630888 : True := trivial
theorem tw14858658106717623277 : True := trivial
theorem tw7134602523414162755 : True := trivial
theorem tw10931752883912731881 : True := trivial
theorem tw5076432607948854583 : True := trivial
theorem tw1703856303032257300 : True := trivial
theorem tw12771422490497669666 : True := trivial
theorem tw5096519891034515015 : True := trivial
theorem tw1966848489087372129 : True := trivial
theorem tw11523052136629779100 : True := trivial
theorem tw2098350410498339250 : True := trivial
theorem tw3352387022992320995 : True := trivial
theorem tw2053465741294099234 : True := trivial
theorem tw17210466466929259836 : True := trivial
theorem tw6160598926141801538 : True := trivial
theorem tw7039093560871848504 : True := trivial
theorem tw14221380678745269426 : True := trivial
theorem tw1696884105534312805 : True := trivial
theorem tw8302682696586574870 : True := trivial
theorem tw3307496074132969992 : True := trivial
theorem tw8473910653178891998 : True := trivial
theorem tw5106185090324663965 : True := trivial
theorem tw14962873838194533386 : True := trivial
theorem tw6821538692268468156 : True := trivial
theorem tw3217132333590356573 : True := trivial
theorem tw1233549789503153540 : True := trivial
theorem tw13103894240351295036 : True := trivial
theorem tw15626202687866404071 : True := trivial
theorem tw6769375257701050406 : True := trivial
theorem tw11964454176974669626 : True := trivial
theorem tw4184859491961934720 : True := trivial
theorem tw8935093688595799893 : True := trivial
theorem tw13575926602044871104 : True := trivial
theorem tw27034526355164714 : True := trivial
theorem tw3021763327932166335 : True := trivial
theorem tw2049707285402009396 : True := trivial
theorem tw17209286664344485890 : True := trivial
theorem tw16517967944649470605 : True := trivial
end PySem.W.Fast
open PySem PySem.W PyProof.Rows
set_option maxRecDepth 100000 in
set_option maxHeartbeats 0 in
theorem PySem.Challenge.cw_figurejudge_k34_rooms_of_same_and_less_holds : PySem.Challenge.rw_figurejudge_k34_rooms_of_same_and_less.Holds := by
 w_on;o_law;k_head;(case hw=>w_witness2)
 k_fill
 refine My.walk (l:=PySem.Challenge.rw_figurejudge_k34_rooms_of_same_and_less) rfl rfl (fun w h Y=>PySem.W.km_in_of Y) ?F
 case F=>
  intro w mg fa h KX G hmg Y
  refine' My.all_mk KX G hmg ?a0 ?l0 ?c0 ?k0 ?a1 ?l1 ?c1 ?k1 ?a2 ?l2 ?c2 ?k2 ?a3 ?l3 ?c3 ?k3 ?ld3 ?a4 ?l4 ?c4 ?k4 ?a5 ?l5 ?c5 ?k5 ?a6 ?l6 ?c6 ?k6 ?a7 ?l7 ?c7 ?k7 ?a8 ?l8 ?c8 ?k8 ?a9 ?l9 ?c9 ?k9 ?a10 ?l10 ?c10 ?k10 ?a11 ?l11 ?c11 ?k11 ?a12 ?l12 ?c12 ?k12 ?a13 ?l13 ?c13 ?k13 ?a14 ?l14 ?c14 ?k14 ?a15 ?l15 ?c15 ?k15 ?a16 ?l16 ?c16 ?k16 ?a17 ?l17 ?c17 ?k17 ?lc17 ?lv17 ?le17 ?ln17 ?lt17 ?a18 ?l18 ?c18 ?k18 ?lc18 ?lv18 ?le18 ?ln18 ?lt18 ?a19 ?l19 ?c19 ?k19 ?a20 ?l20 ?c20 ?k20 ?a21 ?l21 ?c21 ?k21 ?lc21 ?lv21 ?le21 ?ln21 ?lt21 ?a22 ?l22 ?c22 ?k22 ?lc22 ?lv22 ?le22 ?ln22 ?lt22 ?a23 ?l23 ?c23 ?k23 ?a24 ?l24 ?c24 ?k24 ?ld24 ?a25 ?l25 ?c25 ?k25 ?a26 ?l26 ?c26 ?k26 ?a27 ?l27 ?c27 ?k27 ?a28 ?l28 ?c28 ?k28 ?a29 ?l29 ?c29 ?k29 ?a30 ?l30 ?c30 ?k30 ?a31 ?l31 ?c31 ?k31 ?a32 ?l32 ?c32 ?k32 ?a33 ?l33 ?c33 ?k33 ?lc33 ?lv33 ?le33 ?ln33 ?lt33 ?a34 ?l34 ?c34 ?k34 ?z0 ?z1 ?z2 ?z3 ?z4 ?z5 ?z6 ?z7 ?z8 ?z9 ?z10 ?z11 ?z12 ?z13 ?z14 ?z15 ?tne01 ?tne02 ?tne03 ?tne04 ?tne12 ?tne13 ?tne14 ?tne23 ?tne24 ?tne34 ?p_a ?p_l ?p_k ?p_s ?pq_no ?pr_no ?pq_an ?pr_an ?pq_or ?pr_or ?pq_so ?pr_so ?pq_ea ?pr_ea ?pq_same ?pq_less ?pq_sign ?pq_alike ?s_a ?s_l ?s_k ?s_s ?sq_sa ?sr_sa ?sq_le ?sr_le ?sq_si ?sr_si ?sq_al ?sr_al ?sq_not ?sq_and ?sq_or ?sq_some ?sq_each
  (case a0=>k_is)
  (case l0=>k_is)
  (case c0=>k_is)
  (case k0=>k_is)
  (case a1=>k_is)
  (case l1=>k_is)
  (case c1=>k_is)
  (case k1=>k_is)
  (case a2=>k_is)
  (case l2=>k_is)
  (case c2=>k_is)
  (case k2=>k_is)
  (case a3=>k_is)
  (case l3=>k_is)
  (case c3=>k_is)
  (case k3=>k_is)
  (case ld3=>k_is)
  (case a4=>k_is)
  (case l4=>k_is)
  (case c4=>k_is)
  (case k4=>k_is)
  (case a5=>k_is)
  (case l5=>k_is)
  (case c5=>k_is)
  (case k5=>k_is)
  (case a6=>k_is)
  (case l6=>k_is)
  (case c6=>k_is)
  (case k6=>k_is)
  (case a7=>k_is)
  (case l7=>k_is)
  (case c7=>k_is)
  (case k7=>k_is)
  (case a8=>k_is)
  (case l8=>k_is)
  (case c8=>k_is)
  (case k8=>k_is)
  (case a9=>k_is)
  (case l9=>k_is)
  (case c9=>k_is)
  (case k9=>k_is)
  (case a10=>k_is)
  (case l10=>k_is)
  (case c10=>k_is)
  (case k10=>k_is)
  (case a11=>k_is)
  (case l11=>k_is)
  (case c11=>k_is)
  (case k11=>k_is)
  (case a12=>k_is)
  (case l12=>k_is)
  (case c12=>k_is)
  (case k12=>k_is)
  (case a13=>k_is)
  (case l13=>k_is)
  (case c13=>k_is)
  (case k13=>k_is)
  (case a14=>k_is)
  (case l14=>k_is)
  (case c14=>k_is)
  (case k14=>k_is)
  (case a15=>k_is)
  (case l15=>k_is)
  (case c15=>k_is)
  (case k15=>k_is)
  (case a16=>k_is)
  (case l16=>k_is)
  (case c16=>k_is)
  (case k16=>k_is)
  (case a17=>k_is)
  (case l17=>k_is)
  (case c17=>k_is)
  (case k17=>k_is)
  (case lc17=>k_is)
  (case lv17=>rfl)
  (case le17=>rfl)
  (case ln17=>kernel_rfl)
  (case lt17=>exact PySem.W.km_tabs_of Y _ (by decide))
  (case a18=>k_is)
  (case l18=>k_is)
  (case c18=>k_is)
  (case k18=>k_is)
  (case lc18=>k_is)
  (case lv18=>rfl)
  (case le18=>rfl)
  (case ln18=>kernel_rfl)
  (case lt18=>exact PySem.W.km_tabs_of Y _ (by decide))
  (case a19=>k_is)
  (case l19=>k_is)
  (case c19=>k_is)
  (case k19=>k_is)
  (case a20=>k_is)
  (case l20=>k_is)
  (case c20=>k_is)
  (case k20=>k_is)
  (case a21=>k_is)
  (case l21=>k_is)
  (case c21=>k_is)
  (case k21=>k_is)
  (case lc21=>k_is)
  (case lv21=>rfl)
  (case le21=>rfl)
  (case ln21=>kernel_rfl)
  (case lt21=>exact PySem.W.km_tabs_of Y _ (by decide))
  (case a22=>k_is)
  (case l22=>k_is)
  (case c22=>k_is)
  (case k22=>k_is)
  (case lc22=>k_is)
  (case lv22=>rfl)
  (case le22=>rfl)
  (case ln22=>kernel_rfl)
  (case lt22=>exact PySem.W.km_tabs_of Y _ (by decide))
  (case a23=>k_is)
  (case l23=>k_is)
  (case c23=>k_is)
  (case k23=>k_is)
  (case a24=>k_is)
  (case l24=>k_is)
  (case c24=>k_is)
  (case k24=>k_is)
  (case ld24=>k_is)
  (case a25=>k_is)
  (case l25=>k_is)
  (case c25=>k_is)
  (case k25=>k_is)
  (case a26=>k_is)
  (case l26=>k_is)
  (case c26=>k_is)
  (case k26=>k_is)
  (case a27=>k_is)
  (case l27=>k_is)
  (case c27=>k_is)
  (case k27=>k_is)
  (case a28=>k_is)
  (case l28=>k_is)
  (case c28=>k_is)
  (case k28=>k_is)
  (case a29=>k_is)
  (case l29=>k_is)
  (case c29=>k_is)
  (case k29=>k_is)
  (case a30=>k_is)
  (case l30=>k_is)
  (case c30=>k_is)
  (case k30=>k_is)
  (case a31=>k_is)
  (case l31=>k_is)
  (case c31=>k_is)
  (case k31=>k_is)
  (case a32=>k_is)
  (case l32=>k_is)
  (case c32=>k_is)
  (case k32=>k_is)
  (case a33=>k_is)
  (case l33=>k_is)
  (case c33=>k_is)
  (case k33=>k_is)
  (case lc33=>k_is)
  (case lv33=>rfl)
  (case le33=>rfl)
  (case ln33=>kernel_rfl)
  (case lt33=>exact PySem.W.km_tabs_of Y _ (by decide))
  (case a34=>k_is)
  (case l34=>k_is)
  (case c34=>k_is)
  (case k34=>k_is)
  (case z0=>k_is)
  (case z1=>k_is)
  (case z2=>k_is)
  (case z3=>k_is)
  (case z4=>k_is)
  (case z5=>k_is)
  (case z6=>k_is)
  (case z7=>k_is)
  (case z8=>k_is)
  (case z9=>k_is)
  (case z10=>k_is)
  (case z11=>k_is)
  (case z12=>k_is)
  (case z13=>k_is)
  (case z14=>k_is)
  (case z15=>k_is)
  (case tne01=>decide)
  (case tne02=>decide)
  (case tne03=>decide)
  (case tne04=>decide)
  (case tne12=>decide)
  (case tne13=>decide)
  (case tne14=>decide)
  (case tne23=>decide)
  (case tne24=>decide)
  (case tne34=>decide)
  (case p_a=>k_is)
  (case p_l=>k_is)
  (case p_k=>repeat (first | exact⟨⟩ | refine⟨⟨_,_,rfl,rfl⟩,?_⟩))
  (case p_s=>rfl)
  (case pq_no=>k_is)
  (case pr_no=>k_is)
  (case pq_an=>k_is)
  (case pr_an=>k_is)
  (case pq_or=>k_is)
  (case pr_or=>k_is)
  (case pq_so=>k_is)
  (case pr_so=>k_is)
  (case pq_ea=>k_is)
  (case pr_ea=>k_is)
  (case pq_same=>k_is)
  (case pq_less=>k_is)
  (case pq_sign=>k_is)
  (case pq_alike=>k_is)
  (case s_a=>k_is)
  (case s_l=>k_is)
  (case s_k=>repeat (first | exact⟨⟩ | refine⟨⟨_,_,rfl,rfl⟩,?_⟩))
  (case s_s=>rfl)
  (case sq_sa=>k_is)
  (case sr_sa=>k_is)
  (case sq_le=>k_is)
  (case sr_le=>k_is)
  (case sq_si=>k_is)
  (case sr_si=>k_is)
  (case sq_al=>k_is)
  (case sr_al=>k_is)
  (case sq_not=>k_is)
  (case sq_and=>k_is)
  (case sq_or=>k_is)
  (case sq_some=>k_is)
  (case sq_each=>k_is)
#print axioms PySem.Challenge.cw_figurejudge_k34_rooms_of_same_and_less_holds
