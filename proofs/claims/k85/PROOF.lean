import PyProof.Rows.All
import Wide.All
import OpenK.AllK
import Wide.FinOn
import Lean
import PyProof.EqAt
import PyProof.EqKinds
import PyProof.TupleCall
import PyProof.NeKinds
import PyProof.ListRange
import PyProof.Draws
import PyProof.Rows.SortStr
import KE.KDictSum
import KE.KEqDict
import KE.KDictOf
import KE.KRevSl
import PyProof.StrWalks
import PyProof.StrBlock2
import PyProof.SetKind
import PyProof.SetRoads
import PyProof.Rows.SetFrom
import PyProof.ReprRoads
import PyProof.ReprLen
import PyProof.NsDelKeeps
import PyProof.ListMulRoad
import PyProof.FactsAll.tuple_2
import KE.KLam
import KE.KNestM
import PyProof.AttrMissHeap
import PyProof.Rows.SortShell
import PySem.Challenge.RW_figurejudge_k85_worlds_written_and_read
set_option Elab.async false
set_option linter.all false
set_option maxRecDepth 100000
set_option maxHeartbeats 4000000
namespace L2
open PySem PySem.Spec PyProof.Rows
abbrev Key:=Sum Int Str
def lA:Key→Value→Bool
 | .inl k,v=>Value.isInt k v
 | .inr x,v=>Value.isStrOf x v
def M6 (w:World):Key→Int
 | .inl k=>hashInt k
 | .inr x=>hashStr w x
theorem cE:∀{k:Key} {v:Value},lA k v=true→(∃i t,k=Sum.inl i∧v=Value.int i t)∨(∃x t,k=Sum.inr x∧v=Value.str x t)
 | .inl i,v,h=>by
  obtain⟨t,e⟩:=Value.isInt_shape (k:=i) (v:=v) h
  exact .inl ⟨i,t,rfl,e⟩
 | .inr x,v,h=>by
  obtain⟨t,e⟩:=Value.isStrOf_shape (x:=x) (v:=v) h
  exact .inr ⟨x,t,rfl,e⟩
theorem AL (i:Int) (t:Tok):lA (.inl i) (.int i t)=true:=by simp[lA,Value.isInt]
theorem AN (x:Str) (t:Tok):lA (.inr x) (.str x t)=true:=by simp[lA,Value.isStrOf]
theorem GZ (a b:Int):decide ((Sum.inl a:Key)=Sum.inl b)=(a == b):=by
 by_cases e:a=b
 ·subst e;simp
 ·have h:¬(Sum.inl a:Key)=Sum.inl b:=fun q=>e (Sum.inl.inj q)
  rw[decide_eq_false h]
  exact(beq_eq_false_iff_ne.mpr e).symm
theorem G_ (a b:Str):decide ((Sum.inr a:Key)=Sum.inr b)=decide (a=b):=by
 by_cases e:a=b
 ·subst e;simp
 ·have h:¬(Sum.inr a:Key)=Sum.inr b:=fun q=>e (Sum.inr.inj q)
  rw[decide_eq_false h,decide_eq_false e]
theorem G0 (a:Int) (b:Str):decide ((Sum.inl a:Key)=Sum.inr b)=false:=decide_eq_false (fun q=>nomatch q)
theorem G1 (a:Str) (b:Int):decide ((Sum.inr a:Key)=Sum.inl b)=false:=decide_eq_false (fun q=>nomatch q)
def bq (prog:Program) (w:World):PySem.KeyKind prog w Key where
 is:=lA
 hash:=M6 w
 inj:=fun v a b ha hb=>by
  rcases cE ha with⟨i,t,rfl,rfl⟩ | ⟨x,t,rfl,rfl⟩
  ·rcases cE hb with⟨j,u,rfl,e⟩ | ⟨y,u,rfl,e⟩
   ·injection e with e1 _;rw[e1]
   ·exact nomatch e
  ·rcases cE hb with⟨j,u,rfl,e⟩ | ⟨y,u,rfl,e⟩
   ·exact nomatch e
   ·injection e with e1 _;rw[e1]
 byValue:=fun k v h=>by
  rcases cE h with⟨i,t,rfl,rfl⟩ | ⟨x,t,rfl,rfl⟩<;>rfl
 pyHash:=fun hv h=>by
  rcases cE hv with⟨i,t,rfl,rfl⟩ | ⟨x,t,rfl,rfl⟩
  ·exact wpAny_pyHash_int h
  ·exact wpAny_pyHash_str h
 eqBool:=fun hu hv h=>by
  rcases cE hu with⟨i,t,rfl,rfl⟩ | ⟨x,t,rfl,rfl⟩
  ·rcases cE hv with⟨j,u,rfl,rfl⟩ | ⟨y,u,rfl,rfl⟩
   ·rw[GZ] at h;exact wpAny_eqBool_int h
   ·rw[G0] at h;exact SeqAt.EqAt.int_str i t y u _ _ _ _ h
  ·rcases cE hv with⟨j,u,rfl,rfl⟩ | ⟨y,u,rfl,rfl⟩
   ·rw[G1] at h;exact SeqAt.EqAt.str_int x t j u _ _ _ _ h
   ·rw[G_] at h;exact wpAny_eqBool_str h
 «strs» :=fun k x t v h=>by
  rcases cE h with⟨i,u,rfl,e⟩ | ⟨y,u,rfl,e⟩
  ·exact nomatch e
  ·injection e with e1 _
   subst e1
   cases v<;>rfl
theorem yQ (prog:Program) (w:World) (k:Key) (v:Value):(bq prog w).is k v=lA k v:=rfl
theorem wM (prog:Program) (w:World) (i:Int) (t:Tok):(bq prog w).is (.inl i) (.int i t)=true:=AL i t
theorem wN (prog:Program) (w:World) (x:Str) (t:Tok):(bq prog w).is (.inr x) (.str x t)=true:=AN x t
inductive V where
 | non | bl (b:Bool) | int (i:Int) | str (x:Str) | iK (b:Array UInt8) | flt (b:UInt64) | ref (a:Addr) | ty (n:String)
 deriving DecidableEq
def RelV:V→Value→Prop
 | .non,u=>u=Value.none
 | .bl b,u=>u=Value.bool b
 | .int i,u=>∃t,u=Value.int i t
 | .str x,u=>∃t,u=Value.str x t
 | .iK b,u=>∃t,u=Value.bytes b t
 | .flt b,u=>∃t,u=Value.float b t
 | .ref a,u=>u=Value.ref a
 | .ty n,u=>u=Value.type n
abbrev Vals:List V→List Value→Prop:=Paired RelV
theorem Vals.length {xs:List V} {us:List Value} (r:Vals xs us):xs.length=us.length:=Paired.length r
theorem Vals.get:∀{xs:List V} {us:List Value} {i:Nat} {x:V},Vals xs us→xs[i]? =some x→∃u,us[i]? =some u∧RelV x u
 | _,_,_,_,.nil,e=>by simp at e
 | _,_,0,_,.cons r _,e=>by simp at e;subst e;exact⟨_,rfl,r⟩
 | _,_,i+1,x,.cons _ t,e=>by
  obtain⟨u,h1,h2⟩:=Vals.get (i:=i) (x:=x) t (by simpa using e)
  exact⟨u,by simpa using h1,h2⟩
theorem Vals.set {x:V} {u:Value} (r:RelV x u):∀{xs:List V} {us:List Value} (i:Nat),Vals xs us→Vals (xs.set i x) (us.set i u)
 | _,_,_,.nil=>.nil
 | _,_,0,.cons _ t=>.cons r t
 | _,_,i+1,.cons q t=>.cons q (Vals.set r i t)
theorem Vals.append:∀{xs ys:List V} {us ws:List Value},Vals xs us→Vals ys ws→Vals (xs++ys) (us++ws)
 | _,_,_,_,.nil,s=>s
 | _,_,_,_,.cons r t,s=>.cons r (Vals.append t s)
theorem Vals.take:∀{xs:List V} {us:List Value} (n:Nat),Vals xs us→Vals (xs.take n) (us.take n)
 | _,_,0,_=>.nil
 | _,_,_+1,.nil=>.nil
 | _,_,n+1,.cons r t=>.cons r (Vals.take n t)
theorem Vals.drop:∀{xs:List V} {us:List Value} (n:Nat),Vals xs us→Vals (xs.drop n) (us.drop n)
 | _,_,0,r=>r
 | _,_,_+1,.nil=>.nil
 | _,_,n+1,.cons _ t=>Vals.drop n t
def ic:Option V→Option Value→Prop
 | some v,some u=>RelV v u
 | none,none=>True
 | _,_=>False
def KV {κ:Type}:List (κ×V)→List (κ×Value)→Prop:=Paired fun(p:κ×V) (q:κ×Value)=>p.1=q.1∧RelV p.2 q.2
def kV:Key→V
 | .inl i=>.int i
 | .inr x=>.str x
inductive HO where
 | lst (xs:List V)
 | tup (xs:List V)
 | dK (kvs:List (Key×V)) | dT (kvs:List (List Key×V))
 | set (S:Int→Bool) (n:Nat)
 | ins (C dx:Addr) (fs:List (Str×V))
 | own (x:Addr)
 | xd (fs:List (Str×V))
 | met (f x:Addr)
 | rng (lo hi:Int)
 | nZ (o:Obj) (u:HO)
 | ub (ps:Array Value)
 | ext (φ:Heap→Prop)
abbrev Hp:=Addr→Option HO
def upd (H:Hp) (a:Addr) (o:HO):Hp:=fun b=>if b=a then some o else H b
theorem af {H:Hp} {a:Addr} {o:HO}:upd H a o a=some o:=by unfold upd;rw[if_pos rfl]
theorem aF {H:Hp} {a b:Addr} {o:HO} (h:b≠a):upd H a o b=H b:=by unfold upd;rw[if_neg h]
theorem lB {H:Hp} {a b:Addr} {o u:HO} (h:H a=some o) (h':H b=some u) (d:o≠u):a≠b:=by
 intro e;subst e;rw[h] at h';exact d (Option.some.inj h')
theorem aH {H:Hp} {a b:Addr} {o:HO} (h:H a=some o) (h':H b=none):a≠b:=by
 intro e;subst e;rw[h] at h';cases h'
section
variable (P:Program) (w:World)
def bV (H:Hp) (h:Heap) (a:Addr):HO→Prop
 | .lst xs=>xs.length≤sizeLine∧∃(its:List Value) (n:Nat),Vals xs its∧h.get? a=some {cls:=.type "list",data:=.seq its.toArray n}
 | .tup xs=>(xs.length≤sizeLine∧∃o,h.get? a=some o∧o.dict=none)∧∃its:List Value,Vals xs its∧IsTup h a its.toArray
 | .dK kvs=>kvs.length≤sizeLine∧(a == sysModules)=false∧∃vs,KV kvs vs∧h.DictOf (bq P w) a vs
 | .dT kvs=>kvs.length≤sizeLine∧(a == sysModules)=false∧∃xs:List (List Key×Addr×Value),
   Paired (fun(p:List Key×V) (q:List Key×Addr×Value)=>p.1=q.1∧H q.2.1=some (.tup (p.1.map kV))∧RelV p.2 q.2.2) kvs xs∧
   ∃o es ep,h.get? a=some o∧o.ExactDict∧o.data=.dict es ep∧es.toList=xs.map (entryOfKey (tupleKind (bq P w)))∧(xs.map (·.1)).Nodup
 | .set S n=>h.SetOf (intKind P w) a S n
 | .ins C dx fs=>H dx=some (.own a)∧fs.length≤1000∧dx≠a∧h.get? a=some (PySem.W.instObj C dx)∧
   ∃mA,h.Ns1 dx mA∧(∀f,ic (fs.lookup f) (mA f))∧PySem.Within mA (fs.map (·.1))
 | .own _=>∃o,h.get? a=some o
 | .xd fs=>∃mA,h.Ns1 a mA∧∀f,ic (fs.lookup f) (mA f)
 | .rng lo hi=>∃t u v,h.get? a=some {cls:=.type "range",data:=.fields #[.int lo t,.int hi u,.int 1 v]}
 | .nZ o u=>h.get? a=some o∧bV H h a u
 | .ub ps=>h.get? a=some {cls:=.none,data:=.fields ps}
 | .met f x=>h.get? a=some (PySem.W.methodObj (.ref f) (.ref x))
 | .ext φ=>φ h∧(∃o,h.get? a=some o)∧∀h1 h2:Heap,φ h1→(∀o,h1.get? a=some o→h2.get? a=some o)→φ h2
def du (H:Hp) (h:Heap):Prop:=∀a o,H a=some o→bV P w H h a o
end
section
variable {P:Program} {w:World} {H H':Hp} {h h':Heap} {a:Addr} {o:HO}
theorem bV.lt (x:bV P w H h a o):a<h.objs.size:=by
 cases o with
 | lst xs=>obtain⟨_,_,_,_,e⟩:=x;exact Heap.lt_size e
 | tup xs=>obtain⟨_,_,_,p⟩:=x;exact p.lt
 | dK kvs=>obtain⟨_,_,_,_,o,_,_,e,_⟩:=x;exact Heap.lt_size e
 | dT kvs=>obtain⟨_,_,_,_,o,_,_,e,_⟩:=x;exact Heap.lt_size e
 | set S n=>obtain⟨o,_,_,_,e,_⟩:=x;exact Heap.lt_size e
 | ins C dx fs=>obtain⟨_,_,_,e,_⟩:=x;exact Heap.lt_size e
 | own y=>obtain⟨_,e⟩:=x;exact Heap.lt_size e
 | xd fs=>obtain⟨_,⟨_,_,_,e,_⟩,_⟩:=x;exact Heap.lt_size e
 | rng lo hi=>obtain⟨_,_,_,e⟩:=x;exact Heap.lt_size e
 | nZ ob u=>obtain⟨e,_⟩:=x;exact Heap.lt_size e
 | ub ps=>exact Heap.lt_size (show h.get? a=some _ from x)
 | met f y=>exact Heap.lt_size (show h.get? a=some _ from x)
 | ext φ=>obtain⟨_,⟨_,e⟩,_⟩:=x;exact Heap.lt_size e
theorem Paired.lC {α β:Type} {F G:α→β→Prop}:∀{l₁:List α} {l₂:List β},Paired F l₁ l₂→(∀a b,F a b→G a b)→Paired G l₁ l₂
 | _,_,.nil,_=>.nil
 | _,_,.cons r t,f=>.cons (f _ _ r) (Paired.lC t f)
theorem bV.stay (x:bV P w H h a o) (k:∀b u,(b=a∨H b=some (.own a))→h.get? b=some u→h'.get? b=some u)
  (ho:∀b,H b=some (.own a)→H' b=some (.own a)) (ht:∀b xs,H b=some (.tup xs)→H' b=some (.tup xs)):bV P w H' h' a o:=by
 induction o with
 | lst xs=>obtain⟨z,its,n,r,e⟩:=x;exact⟨z,its,n,r,k _ _ (.inl rfl) e⟩
 | tup xs=>obtain⟨⟨z,o2,e2,d2⟩,its,r,ob,e,c⟩:=x;exact⟨⟨z,o2,k _ _ (.inl rfl) e2,d2⟩,its,r,ob,k _ _ (.inl rfl) e,c⟩
 | dK kvs=>obtain⟨z,y,vs,r,ob,es,ep,e,c⟩:=x;exact⟨z,y,vs,r,ob,es,ep,k _ _ (.inl rfl) e,c⟩
 | dT kvs=>
  obtain⟨z,y,xs,r,ob,es,ep,e,c⟩:=x
  exact⟨z,y,xs,Paired.lC r fun p q z=>⟨z.1,ht _ _ z.2.1,z.2.2⟩,ob,es,ep,k _ _ (.inl rfl) e,c⟩
 | set S n=>obtain⟨ob,es,ep,t,e,c⟩:=x;exact⟨ob,es,ep,t,k _ _ (.inl rfl) e,c⟩
 | ins C dx fs=>
  obtain⟨d,z,ne,e,mA,⟨od,es,ep,e2,c⟩,r⟩:=x
  exact⟨ho _ d,z,ne,k _ _ (.inl rfl) e,mA,⟨od,es,ep,k _ _ (.inr d) e2,c⟩,r⟩
 | own y=>obtain⟨ob,e⟩:=x;exact⟨ob,k _ _ (.inl rfl) e⟩
 | xd fs=>obtain⟨mA,⟨od,es,ep,e,c⟩,r⟩:=x;exact⟨mA,⟨od,es,ep,k _ _ (.inl rfl) e,c⟩,r⟩
 | rng lo hi=>obtain⟨t,u,v,e⟩:=x;exact⟨t,u,v,k _ _ (.inl rfl) e⟩
 | nZ ob u ih=>obtain⟨e,q⟩:=x;exact⟨k _ _ (.inl rfl) e,ih q⟩
 | ub ps=>
  have e:h.get? a=some {cls:=.none,data:=.fields ps}:=x
  show h'.get? a=some {cls:=.none,data:=.fields ps}
  exact k a _ (.inl rfl) e
 | met f y=>
  have e:h.get? a=some (PySem.W.methodObj (.ref f) (.ref y)):=x
  show h'.get? a=some (PySem.W.methodObj (.ref f) (.ref y))
  exact k a _ (.inl rfl) e
 | ext φ=>obtain⟨p,⟨o,e⟩,st⟩:=x;exact⟨st _ _ p fun o q=>k _ _ (.inl rfl) q,⟨o,k _ _ (.inl rfl) e⟩,st⟩
theorem du.lt (x:du P w H h) (e:H a=some o):a<h.objs.size:=(x a o e).lt
theorem du.fresh (x:du P w H h) (e:h.objs.size≤a):H a=none:=by
 cases q:H a with
 | none=>rfl
 | some u=>exact absurd (Nat.lt_of_lt_of_le (x.lt q) e) (Nat.lt_irrefl _)
theorem du.kept (x:du P w H h) (k:∀b u,h.get? b=some u→h'.get? b=some u):du P w H h':=fun a o e=>
 (x a o e).stay (fun b u _ q=>k b u q) (fun _ q=>q) fun _ _ q=>q
theorem du.laid (x:du P w H h) (k:∀b u,h.get? b=some u→h'.get? b=some u) (hp:h.objs.size≤a) (new:bV P w (upd H a o) h' a o):du P w (upd H a o) h':=fun b u e=>by
 have hn:=x.fresh hp
 by_cases hb:b=a
 ·subst hb;rw[af] at e;cases e;exact new
 ·rw[aF hb] at e
  exact(x b u e).stay (fun c v _ q=>k c v q) (fun c q=>by rw[aF (aH q hn)];exact q) fun c xs q=>by rw[aF (aH q hn)];exact q
end
def Rd (H:Hp) (a:Addr) (u:HO):Prop:=H a=some u∨∃o,H a=some (.nZ o u)
theorem Rd.ok {P:Program} {w:World} {H:Hp} {h:Heap} {a:Addr} {u:HO} (r:Rd H a u) (x:du P w H h):bV P w H h a u:=by
 rcases r with r | ⟨o,r⟩
 ·exact x a u r
 ·obtain⟨_,q⟩:=x a _ r
  exact q
def AO:Option HO→Prop
 | some (.lst _)=>True
 | some (.dK _)=>True
 | some (.dT _)=>True
 | some (.set _ _)=>True
 | some (.ins _ _ _)=>True
 | some (.ext _)=>True
 | _=>False
section
variable {P:Program} {w:World} {H:Hp} {h h':Heap} {x e:Addr} {o':HO}
theorem du.write (ok:du P w H h) (mu:AO (H x)) (he:e=x∨H e=some (.own x)) (k:∀b u,b≠e→h.get? b=some u→h'.get? b=some u) (heo:∃u,h'.get? e=some u)
  (new:bV P w (upd H x o') h' x o'):du P w (upd H x o') h':=fun b u q=>by
 have G2:∀c y,H c=some (.own y)→c≠x:=fun c y r z=>by subst z;rw[r] at mu;exact mu
 have M7:∀c xs,H c=some (.tup xs)→c≠x:=fun c xs r z=>by subst z;rw[r] at mu;exact mu
 by_cases hb:b=x
 ·subst hb;rw[af] at q;cases q;exact new
 ·rw[aF hb] at q
  by_cases hbe:b=e
  ·have q':H b=some (.own x):=by
    rcases he with z | z
    ·exact absurd (hbe.trans z) hb
    ·rw[hbe];exact z
   rw[q] at q';cases q'
   obtain⟨v,hv⟩:=heo
   exact⟨v,by rw[hbe];exact hv⟩
  ·refine(ok b u q).stay (fun c v hc r=>k c v ?_ r) (fun c r=>by rw[aF (G2 c b r)];exact r) fun c xs r=>by rw[aF (M7 c xs r)];exact r
   rcases hc with rfl | hc
   ·exact hbe
   ·rintro rfl
    rcases he with z | z
    ·exact G2 c b hc z
    ·rw[hc] at z;cases z;exact hb rfl
end
structure Un (fs ex:List Addr) (H H':Hp) (h h':Heap):Prop where
 keep:∀b o,h.get? b=some o→H b=none→b ∉ fs→b ∉ ex→h'.get? b=some o
 slot:∀b o,h.get? b=some o→H b=none→b∈fs→b ∉ ex→∃sl,h'.get? b=some {o with slots:=sl}
 free:∀b o,h.get? b=some o→H b=none→b ∉ ex→H' b=none
 there:∀b o,h.get? b=some o→b ∉ ex→∃o',h'.get? b=some o'
 tups:∀b xs,H b=some (.tup xs)→H' b=some (.tup xs)
 kc:∀b o u,H b=some (.nZ o u)→H' b=some (.nZ o u)
 lD:∀b ps,H b=some (.ub ps)→∃more,H' b=some (.ub (ps++more))
section
variable {fs fs' ex ex':List Addr} {H H1 H2:Hp} {h h1 h2 h':Heap} {a x e:Addr} {o:HO}
theorem Un.any (u:Un fs ex H H1 h h1) {b:Addr} {ob:Obj} (q:h.get? b=some ob) (n:H b=none) (hx:b ∉ ex):∃sl,h1.get? b=some {ob with slots:=sl}:=by
 by_cases hb:b∈fs
 ·exact u.slot b ob q n hb hx
 ·exact⟨ob.slots,u.keep b ob q n hb hx⟩
theorem Un.kept (k:∀b u,h.get? b=some u→h'.get? b=some u):Un fs ex H H h h':=
 ⟨fun b ob q _ _ _=>k b ob q,fun b ob q _ _ _=>⟨ob.slots,k b ob q⟩,fun _ _ _ n _=>n,fun b ob q _=>⟨ob,k b ob q⟩,fun _ _ q=>q,fun _ _ _ q=>q,fun _ ps q=>⟨#[],by rw[q];simp⟩⟩
theorem Un.refl:Un fs ex H H h h:=Un.kept fun _ _ q=>q
theorem Un.laid (k:∀b u,h.get? b=some u→h'.get? b=some u) (hp:h.objs.size≤a) (hn:H a=none):Un fs ex H (upd H a o) h h' where
 keep:=fun b u q _ _ _=>k b u q
 slot:=fun b u q _ _ _=>⟨u.slots,k b u q⟩
 free:=fun b u q n _=>by rw[aF (Nat.ne_of_lt (Nat.lt_of_lt_of_le (Heap.lt_size q) hp))];exact n
 there:=fun b u q _=>⟨u,k b u q⟩
 tups:=fun b xs q=>by rw[aF (aH q hn)];exact q
 kc:=fun b u xs q=>by rw[aF (aH q hn)];exact q
 lD:=fun b ps q=>⟨#[],by rw[aF (aH q hn),q];simp⟩
theorem Un.write (mu:AO (H x)) (he:e=x∨H e=some (.own x)) (k:∀b u,b≠e→h.get? b=some u→h'.get? b=some u) (heo:∃u,h'.get? e=some u):Un fs ex H (upd H x o) h h':=by
 have hx:∀b,H b=none→b≠x:=fun b n z=>by subst z;rw[n] at mu;exact mu
 have hb:∀b,H b=none→b≠e:=fun b n z=>by
  subst z
  rcases he with r | r
  ·exact hx b n r
  ·rw[n] at r;cases r
 have hm:∀b u,H b=some u→¬AO (some u)→b≠x:=fun b u q nm z=>by subst z;rw[q] at mu;exact nm mu
 refine⟨fun b u q n _ _=>k b u (hb b n) q,fun b u q n _ _=>⟨u.slots,k b u (hb b n) q⟩,fun b u q n _=>by rw[aF (hx b n)];exact n,fun b u q _=>?_,
  fun b xs q=>by rw[aF (hm b _ q fun z=>z)];exact q,fun b u xs q=>by rw[aF (hm b _ q fun z=>z)];exact q,fun b ps q=>⟨#[],by rw[aF (hm b _ q fun z=>z),q];simp⟩⟩
 by_cases hbe:b=e
 ·subst hbe;exact heo
 ·exact⟨u,k b u hbe q⟩
end
def Ef (h:Heap) (H:Hp):List Addr:=(List.range h.objs.size).filter fun a=>(H a).isSome
def lE (h:Heap) (H:Hp):Heap:=PySem.W.hideAll h (Ef h H)
theorem AQ (h:Heap) (H:Hp):(lE h H).objs.size=h.objs.size:=PySem.W.hideAll_size _ _
theorem C5 {h:Heap} {H:Hp} {b:Addr} {o:Obj} (e:h.get? b=some o) (n:H b=none):(lE h H).get? b=some o:=
 PySem.W.hideAll_get _ e fun hm=>by
  have q:(H b).isSome=true:=(List.mem_filter.mp hm).2
  rw[n] at q;simp at q
theorem FG {h:Heap} {H:Hp} {b:Addr} {o:Obj} (e:(lE h H).get? b=some o):h.get? b=some o∧H b=none:=by
 have e':h.get? b=some o:=PySem.W.of_hideAll (Ef h H) e
 refine⟨e',?_⟩
 cases q:H b with
 | none=>rfl
 | some x=>
  have hm:b∈Ef h H:=List.mem_filter.mpr ⟨List.mem_range.mpr (Heap.lt_size e'),by simp[q]⟩
  have z:(lE h H).get? b=none:=PySem.W.hideAll_none (Ef h H) hm
  rw[z] at e;cases e
structure Mod (K:PySem.W.Frag) (mg:Str→Option Value) (base:Heap):Prop where
 n_:K.In base
 glob:base.Ns mainGlobals mg
 blt:∃mb,base.Ns builtinsNs mb∧∀x:Str,x≠"__name__"→mb x=bootBuiltins x
 nolimit:base.NoLimit
structure Cx where
 prog:Program
 w:World
 K:PySem.W.Frag
 mg:Str→Option Value
 base:Heap
 A:Around
 N:List Str
 s₀:Shared
 H₀:Hp
 env:Env
 outer:List Env
 stack:List Env
 ex:List Addr
 fn:Str→Bool
 calm:Bool
 pn:List (Addr×Obj)
 xe:Value→Shared→Prop
def frs (l:List Env):List Addr:=l.filterMap (·.frame)
abbrev Cx.fs (X:Cx):List Addr:=frs X.outer
def xQ (sc:Scope) (x:Str):Prop:=sc.names.lookup x=some .local∨sc.names.lookup x=some .cell∨sc.names.lookup x=some .free
def Loc (sc:Scope) (x:Str):Prop:=sc.names.lookup x=some .local∨sc.names.lookup x=some .cell
def Look (env:Env) (h:Heap) (m:Str→Option Value) (x:Str) (u:Value):Prop:=
 (env.kindOf x=some .local∧m x=some u)∨((env.kindOf x=some .cell∨env.kindOf x=some .free)∧∃c,env.cells.lookup x=some c∧h.IsCell c (some u))
structure Cx.Ok (X:Cx):Prop where
 mod:Mod X.K X.mg X.base
 kind:X.env.scope.kind=.function
 glob:X.env.globals=mainGlobals
 blt:X.env.builtins=builtinsNs
 above:X.s₀.heap.objs.size≤X.env.locals
 inj:∀x y c,X.env.cells.lookup x=some c→X.env.cells.lookup y=some c→x=y
 has:∀x,(X.env.kindOf x=some .cell∨X.env.kindOf x=some .free)→∃c,X.env.cells.lookup x=some c
 cab:∀x c,X.fn x=true→X.env.cells.lookup x=some c→X.s₀.heap.objs.size≤c
 hd:X.calm=true→X.A.handled=none
 frames:X.A.frames=some X.stack
 stk:X.stack=X.outer∨(X.stack=X.env::X.outer∧X.env.frame=some X.env.locals)
 AU:∀b∈X.ex,b≠X.env.locals∧∀x c,X.env.cells.lookup x=some c→c≠b
 bs:∀b o,X.base.get? b=some o→X.s₀.heap.get? b=some o∧X.H₀ b=none
 n5:X.base.objs.size≤X.s₀.heap.objs.size
 qf:∀b o,X.base.get? b=some o→b ∉ X.ex
 oF:∀b∈X.ex,b ∉ X.fs
 ie:X.s₀.heap.FunFrames X.base X.outer
 qW:∀b∈X.fs,X.H₀ b=none
structure Inv (X:Cx) (pins:List (Addr×Obj)) (σ:List (Option V)) (H:Hp) (s:Shared):Prop where
 ok:X.Ok
 os:s.os=X.s₀.os
 bare:AllBare s.gens
 base:Un X.fs X.ex X.H₀ H X.s₀.heap s.heap
 loc:∃m,s.heap.Ns X.env.locals m∧∀(i:Nat) (x:Str) (v:V),X.N[i]? =some x→σ[i]? =some (some v)→xQ X.env.scope x→∃u,RelV v u∧Look X.env s.heap m x u
 cell:∀x c,X.env.cells.lookup x=some c→∃v,s.heap.IsCell c v
 free:H X.env.locals=none
 fS:∀x c,X.env.cells.lookup x=some c→H c=none
 pin:∀p∈X.pn++pins,s.heap.get? p.1=some p.2∧H p.1=none∧p.1≠X.env.locals∧p.1 ∉ X.fs∧∀v,p.2.data≠.cell v
 hok:du X.prog X.w H s.heap
 len:σ.length=X.N.length
section
variable {X:Cx} {pins:List (Addr×Obj)} {σ:List (Option V)} {H H':Hp} {s:Shared} {h':Heap}
theorem Cx.Ok.M8 (ok:X.Ok) {b:Addr} {o:Obj} (e:X.base.get? b=some o):b ∉ X.fs:=fun hb=>by
 have:=(ok.ie.mem hb).1
 rw[e] at this;cases this
theorem Inv.bs (I:Inv X pins σ H s):∀b o,X.base.get? b=some o→s.heap.get? b=some o∧H b=none:=fun b o e=>
 ⟨I.base.keep b o (I.ok.bs b o e).1 (I.ok.bs b o e).2 (I.ok.M8 e) (I.ok.qf b o e),I.base.free b o (I.ok.bs b o e).1 (I.ok.bs b o e).2 (I.ok.qf b o e)⟩
theorem Inv.bk (I:Inv X pins σ H s):∀b o,X.base.get? b=some o→s.heap.get? b=some o:=fun b o e=>(I.bs b o e).1
theorem Inv.mod (I:Inv X pins σ H s):Mod X.K X.mg X.base:=I.ok.mod
theorem Inv.gi (I:Inv X pins σ H s):X.K.In s.heap:=I.ok.mod.n_.keeps I.bk
theorem Inv.lt (I:Inv X pins σ H s):X.env.locals<s.heap.objs.size:=let ⟨_,hn,_⟩:=I.loc;hn.lt
theorem Inv.sz (I:Inv X pins σ H s):X.s₀.heap.objs.size≤s.heap.objs.size:=Nat.le_trans I.ok.above (Nat.le_of_lt I.lt)
theorem Inv.M9 (I:Inv X pins σ H s) {a:Addr} (h:s.heap.objs.size≤a):a ∉ X.fs:=fun hb=>by
 obtain⟨_,o,ho,_⟩:=I.ok.ie.mem hb
 exact absurd (Nat.lt_of_lt_of_le (Heap.lt_size ho) (Nat.le_trans I.sz h)) (Nat.lt_irrefl _)
theorem Inv.oY (I:Inv X pins σ H s):∀x c,X.env.cells.lookup x=some c→c≠X.env.locals:=fun x c e z=>by
 obtain⟨v,o,ho,hd⟩:=I.cell x c e
 obtain⟨m,⟨o',es,ep,ho',hd',_⟩,_⟩:=I.loc
 rw[z,ho'] at ho;cases ho;rw[hd'] at hd;cases hd
theorem Inv.ie (I:Inv X pins σ H s):s.heap.FunFrames X.base X.outer:=by
 have all:∀(l:List Env),(∀b∈frs l,b∈X.fs)→X.s₀.heap.FunFrames X.base l→s.heap.FunFrames X.base l:=by
  intro l
  induction l with
  | nil=>intro _ _;trivial
  | cons env r ih=>
   intro hs hl
   obtain⟨hk,⟨L,o,hf,hn,ho,hd⟩,hr⟩:=hl
   have hL:L∈X.fs:=hs L (by unfold frs;rw[List.filterMap_cons,hf];exact List.mem_cons_self)
   obtain⟨sl,e⟩:=I.base.slot L o ho (I.ok.qW L hL) hL fun z=>I.ok.oF L z hL
   exact⟨hk,⟨L,_,hf,hn,e,hd⟩,ih (fun b hb=>hs b (by unfold frs;rw[List.filterMap_cons,hf];exact List.mem_cons_of_mem _ hb)) hr⟩
 exact all X.outer (fun _ hb=>hb) I.ok.ie
theorem Inv.stack (I:Inv X pins σ H s):s.heap.FunFrames X.base X.stack:=by
 rcases I.ok.stk with e | ⟨e,hf⟩
 ·rw[e];exact I.ie
 ·rw[e]
  obtain⟨m,hn,_⟩:=I.loc
  refine .cons (by rw[I.ok.kind];decide) hf hn ?_ I.ie
  exact Heap.get?_none_of_le (Nat.le_trans I.ok.n5 I.ok.above)
theorem Inv.kr (I:Inv X pins σ H s):∀b∈frs X.stack,b∈X.env.locals::X.fs:=fun b hb=>by
 rcases I.ok.stk with e | ⟨e,hf⟩
 ·rw[e] at hb;exact List.mem_cons_of_mem _ hb
 ·rw[e] at hb
  unfold frs at hb
  rw[List.filterMap_cons,hf] at hb
  exact hb
theorem Inv.nJ (I:Inv X pins σ H s):∀b∈frs X.stack,H b=none:=fun b hb=>by
 rcases List.mem_cons.mp (I.kr b hb) with e | hb
 ·rw[e];exact I.free
 ·obtain⟨_,o,ho,_⟩:=I.ok.ie.mem hb
  exact I.base.free b o ho (I.ok.qW b hb) fun z=>I.ok.oF b z hb
theorem Inv.step {g':Array GenState} {t':Nat} {d':Drawn} {ch:List Addr} (I:Inv X pins σ H s)
  (hch:∀b∈ch,(b∈X.ex∨X.s₀.heap.objs.size≤b)∧b≠X.env.locals∧(∀x c,X.env.cells.lookup x=some c→c≠b)∧∀p∈X.pn++pins,p.1≠b)
  (keep:∀b o,b≠X.env.locals→b ∉ X.fs→b ∉ ch→s.heap.get? b=some o→H b=none→h'.get? b=some o)
  (slot:∀b o,b≠X.env.locals→b∈X.fs→b ∉ ch→s.heap.get? b=some o→H b=none→∃sl,h'.get? b=some {o with slots:=sl}) (free:∀b o,b ∉ ch→s.heap.get? b=some o→H b=none→H' b=none)
  (there:∀b o,b ∉ ch→s.heap.get? b=some o→∃o',h'.get? b=some o')
  (tups:∀b xs,H b=some (.tup xs)→H' b=some (.tup xs)) (kc:∀b o u,H b=some (.nZ o u)→H' b=some (.nZ o u)) (lD:∀b ps,H b=some (.ub ps)→∃more,H' b=some (.ub (ps++more)))
  (ns:∀m,s.heap.Ns X.env.locals m→h'.Ns X.env.locals m) (hok:du X.prog X.w H' h') (hg:AllBare g'):
  Inv X pins σ H' {s with heap:=h',gens:=g',drawn:=d',toks:=t'}:=by
 have xR:∀b o,X.s₀.heap.get? b=some o→b≠X.env.locals:=fun b o e=>Nat.ne_of_lt (Nat.lt_of_lt_of_le (Heap.lt_size e) I.ok.above)
 have Eg:∀b o,X.s₀.heap.get? b=some o→b ∉ X.ex→b ∉ ch:=fun b o e hx hb=>by
  rcases(hch b hb).1 with z | z
  ·exact hx z
  ·exact absurd (Nat.lt_of_lt_of_le (Heap.lt_size e) z) (Nat.lt_irrefl _)
 have cellK:∀x c,X.env.cells.lookup x=some c→∀v,s.heap.IsCell c v→h'.IsCell c v:=fun x c e v ⟨o,ho,hd⟩=>by
  have ku:c ∉ ch:=fun z=>(hch c z).2.2.1 x c e rfl
  by_cases hc:c∈X.fs
  ·obtain⟨sl,q⟩:=slot c o (I.oY x c e) hc ku ho (I.fS x c e)
   exact⟨_,q,hd⟩
  ·exact⟨o,keep c o (I.oY x c e) hc ku ho (I.fS x c e),hd⟩
 refine⟨I.ok,I.os,hg,⟨fun b o e n hb hx=>?_,fun b o e n hb hx=>?_,fun b o e n hx=>?_,fun b o e hx=>?_,fun b xs e=>tups b xs (I.base.tups b xs e),fun b o xs e=>kc b o xs (I.base.kc b o xs e),fun b ps e=>?_⟩,?_,fun x c e=>?_,?_,fun x c e=>?_,fun p hp=>?_,hok,I.len⟩
 ·exact keep b o (xR b o e) hb (Eg b o e hx) (I.base.keep b o e n hb hx) (I.base.free b o e n hx)
 ·obtain⟨sl,e1⟩:=I.base.slot b o e n hb hx
  obtain⟨sl',e2⟩:=slot b _ (xR b o e) hb (Eg b o e hx) e1 (I.base.free b o e n hx)
  exact⟨sl',e2⟩
 ·obtain⟨o',e1⟩:=I.base.there b o e hx
  exact free b o' (Eg b o e hx) e1 (I.base.free b o e n hx)
 ·obtain⟨o',e1⟩:=I.base.there b o e hx
  exact there b o' (Eg b o e hx) e1
 ·obtain⟨m1,e1⟩:=I.base.lD b ps e
  obtain⟨m2,e2⟩:=lD b _ e1
  exact⟨m1++m2,by rw[e2,Array.append_assoc]⟩
 ·obtain⟨m,hn,hl⟩:=I.loc
  refine⟨m,ns m hn,fun i x v e1 e2 e3=>?_⟩
  obtain⟨u,r,l⟩:=hl i x v e1 e2 e3
  refine⟨u,r,?_⟩
  rcases l with l | ⟨k,c,e,z⟩
  ·exact .inl l
  ·exact .inr ⟨k,c,e,cellK x c e _ z⟩
 ·obtain⟨v,z⟩:=I.cell x c e
  exact⟨v,cellK x c e v z⟩
 ·obtain⟨m,⟨o,_,_,ho,_⟩,_⟩:=I.loc
  exact free _ o (fun z=>(hch _ z).2.1 rfl) ho I.free
 ·obtain⟨v,o,ho,hd⟩:=I.cell x c e
  exact free c o (fun z=>(hch c z).2.2.1 x c e rfl) ho (I.fS x c e)
 ·obtain⟨e,n,ne,nf,d⟩:=I.pin p hp
  have ku:p.1 ∉ ch:=fun z=>(hch p.1 z).2.2.2 p hp rfl
  exact⟨keep p.1 p.2 ne nf ku e n,free p.1 p.2 ku e n,ne,nf,d⟩
theorem Inv.un {t':Nat} (I:Inv X pins σ H s) (u:Un X.fs [] H H' s.heap h') (hok:du X.prog X.w H' h'):Inv X pins σ H' {s with heap:=h',toks:=t'}:=by
 obtain⟨m,⟨o,es,ep,ho,r⟩,_⟩:=id I.loc
 obtain⟨sl,hL⟩:=u.any ho I.free (by simp)
 exact I.step (g':=s.gens) (d':=s.drawn) (ch:=[]) (fun _ z=>nomatch z) (fun b o _ hb _ e n=>u.keep b o e n hb (by simp)) (fun b o _ hb _ e n=>u.slot b o e n hb (by simp)) (fun b o _ e n=>u.free b o e n (by simp)) (fun b o _ e=>u.there b o e (by simp)) u.tups u.kc u.lD (fun m' hm=>by
  obtain⟨o',es',ep',ho',r'⟩:=hm
  rw[ho] at ho';cases ho'
  exact⟨_,es',ep',hL,r'⟩) hok I.bare
theorem Inv.call {g':Array GenState} {t':Nat} {d':Drawn} {ch:List Addr} (I:Inv X pins σ H s) (u:Un (frs X.stack) ch H H' s.heap h') (hok:du X.prog X.w H' h') (hg:AllBare g')
  (hch:∀b∈ch,(b∈X.ex∨X.s₀.heap.objs.size≤b)∧b≠X.env.locals∧(∀x c,X.env.cells.lookup x=some c→c≠b)∧∀p∈X.pn++pins,p.1≠b):
  Inv X pins σ H' {s with heap:=h',gens:=g',drawn:=d',toks:=t'}:=by
 obtain⟨m,⟨o,es,ep,ho,r⟩,_⟩:=id I.loc
 obtain⟨sl,hL⟩:=u.any ho I.free fun z=>(hch _ z).2.1 rfl
 exact I.step (ch:=ch) hch (fun b o hL hb hc e n=>u.keep b o e n (fun z=>(List.mem_cons.mp (I.kr b z)).elim hL hb) hc) (fun b o _ _ hc e n=>u.any e n hc) (fun b o hc e n=>u.free b o e n hc) (fun b o hc e=>u.there b o e hc) u.tups u.kc u.lD (fun m' hm=>by
  obtain⟨o',es',ep',ho',r'⟩:=hm
  rw[ho] at ho';cases ho'
  exact⟨_,es',ep',hL,r'⟩) hok hg
theorem Inv.turned {t':Nat} {it:Addr} (I:Inv X pins σ H s) (k:∀b o,b≠it→s.heap.get? b=some o→h'.get? b=some o) (hn:H it=none) (hL:it≠X.env.locals)
  (h1:it∈X.ex∨X.s₀.heap.objs.size≤it) (h2:∀x c,X.env.cells.lookup x=some c→c≠it) (h3:∀p∈X.pn++pins,p.1≠it):Inv X pins σ H {s with heap:=h',toks:=t'}:=by
 have LG:∀b u,H b=some u→b≠it:=fun b u e z=>by rw[z,hn] at e;cases e
 refine I.step (g':=s.gens) (d':=s.drawn) (ch:=[it]) (fun b hb=>?_) (fun b o _ _ hc e _=>k b o (fun z=>hc (by simp[z])) e) (fun b o _ _ hc e _=>⟨o.slots,k b o (fun z=>hc (by simp[z])) e⟩) (fun _ _ _ _ n=>n)
  (fun b o hc e=>⟨o,k b o (fun z=>hc (by simp[z])) e⟩) (fun _ _ e=>e) (fun _ _ _ e=>e) (fun b ps e=>⟨#[],by rw[e];simp⟩) (fun m hm=>?_) (fun b u e=>?_) I.bare
 ·have e:b=it:=by simpa using hb
  subst e
  exact⟨h1,hL,h2,h3⟩
 ·obtain⟨o,es,ep,ho,r⟩:=hm
  exact⟨o,es,ep,k _ o (Ne.symm hL) ho,r⟩
 ·refine(I.hok b u e).stay (fun c v hc q=>k c v ?_ q) (fun _ q=>q) fun _ _ q=>q
  rcases hc with z | z
  ·rw[z];exact LG b u e
  ·exact LG c _ z
theorem Inv.tok (I:Inv X pins σ H s) (t:Nat):Inv X pins σ H {s with toks:=t}:=I.un (h':=s.heap) (t':=t) Un.refl I.hok
theorem Inv.kept {t':Nat} (I:Inv X pins σ H s) (k:∀b u,s.heap.get? b=some u→h'.get? b=some u):Inv X pins σ H {s with heap:=h',toks:=t'}:=I.un (Un.kept k) (I.hok.kept k)
theorem Inv.laid {a:Addr} {o:HO} {t':Nat} (I:Inv X pins σ H s) (k:∀b u,s.heap.get? b=some u→h'.get? b=some u) (hp:s.heap.objs.size≤a) (new:bV X.prog X.w (upd H a o) h' a o):
  Inv X pins σ (upd H a o) {s with heap:=h',toks:=t'}:=I.un (Un.laid k hp (I.hok.fresh hp)) (I.hok.laid k hp new)
theorem Inv.write {x e:Addr} {o:HO} {t':Nat} (I:Inv X pins σ H s) (mu:AO (H x)) (he:e=x∨H e=some (.own x)) (k:∀b u,b≠e→s.heap.get? b=some u→h'.get? b=some u) (heo:∃u,h'.get? e=some u)
  (new:bV X.prog X.w (upd H x o) h' x o):Inv X pins σ (upd H x o) {s with heap:=h',toks:=t'}:=I.un (Un.write mu he k heo) (I.hok.write mu he k heo new)
theorem Inv.xS {yR:List (Addr×Obj)} (I:Inv X pins σ H s) (h:∀p∈yR,s.heap.get? p.1=some p.2∧H p.1=none∧p.1≠X.env.locals∧p.1 ∉ X.fs∧∀v,p.2.data≠.cell v):Inv X yR σ H s:=
 ⟨I.ok,I.os,I.bare,I.base,I.loc,I.cell,I.free,I.fS,fun p hp=>(List.mem_append.mp hp).elim (fun z=>I.pin p (List.mem_append_left _ z)) (h p),I.hok,I.len⟩
theorem oG {N:List Str} (hN:N.Nodup) {i j:Nat} {x:Str} (a:N[i]? =some x) (b:N[j]? =some x):i=j:=by
 obtain⟨h1,e1⟩:=List.getElem?_eq_some_iff.mp a
 obtain⟨h2,e2⟩:=List.getElem?_eq_some_iff.mp b
 exact(List.getElem_inj hN).mp (e1.trans e2.symm)
theorem mO {M:Model} {A:Around} {E:Value→Shared→Prop} {i:Nat} {x:Str} {v:V} {u:Value} {Q:Unit→Shared→Prop} (I:Inv X pins σ H s) (hN:X.N.Nodup) (hi:X.N[i]? =some x) (hx:Loc X.env.scope x) (r:RelV v u)
  (h:∀s',Inv X pins (σ.set i (some v)) H s'→(∃a,Heap.SameBut a s.heap s'.heap∧(a=X.env.locals∨X.env.cells.lookup x=some a))→Q () s') (hf:X.fn x=true∨X.env.scope.names.lookup x=some .local:=by first | exact .inl rfl | exact .inr rfl | assumption):wpAny M A (storeName X.env x u) Q E s:=by
 obtain⟨m,hn,hl⟩:=id I.loc
 have hcls:(X.env.scope.kind == .class||(X.env.scope.kind == .module&&X.env.locals != X.env.globals))=false:=by rw[I.ok.kind];rfl
 have LH:i<σ.length:=by rw[I.len];exact(List.getElem?_eq_some_iff.mp hi).1
 have oY:=I.oY
 have tracked:∀{a:Addr} {h':Heap},(∃o,s.heap.get? a=some o∧H a=none)→Heap.SameBut a s.heap h'→du X.prog X.w H h':=fun {a h'} ha hs b ob e=>by
  obtain⟨_,_,hfree⟩:=ha
  refine(I.hok b ob e).stay (fun c w' hc q=>(hs.2 c ?_).trans q) (fun _ q=>q) fun _ _ q=>q
  rintro rfl
  rcases hc with rfl | hc
  ·rw[hfree] at e;cases e
  ·rw[hfree] at hc;cases hc
 rcases hx with hk | hk
 ·refine wpAny_storeName_local hk hn (fun h' hn' hs=>?_) hcls
  obtain⟨oL,_,_,hoL,_⟩:=id hn
  refine h _ ⟨I.ok,I.os,I.bare,⟨fun b o e n hb hx=>?_,fun b o e n hb hx=>?_,I.base.free,fun b o e hx=>?_,I.base.tups,I.base.kc,I.base.lD⟩,⟨_,hn',fun j y v' e1 e2 e3=>?_⟩,fun y c e=>?_,I.free,I.fS,fun p hp=>?_,tracked ⟨oL,hoL,I.free⟩ hs,by simpa using I.len⟩ ⟨_,hs,.inl rfl⟩
  ·exact(hs.2 b (Nat.ne_of_lt (Nat.lt_of_lt_of_le (Heap.lt_size e) I.ok.above))).trans (I.base.keep b o e n hb hx)
  ·obtain⟨sl,e1⟩:=I.base.slot b o e n hb hx
   exact⟨sl,(hs.2 b (Nat.ne_of_lt (Nat.lt_of_lt_of_le (Heap.lt_size e) I.ok.above))).trans e1⟩
  ·obtain⟨o',e1⟩:=I.base.there b o e hx
   exact⟨o',(hs.2 b (Nat.ne_of_lt (Nat.lt_of_lt_of_le (Heap.lt_size e) I.ok.above))).trans e1⟩
  ·by_cases hj:j=i
   ·subst hj
    rw[hi] at e1;cases e1
    rw[List.getElem?_set_self LH] at e2
    cases e2
    exact⟨u,r,.inl ⟨hk,by simp⟩⟩
   ·rw[List.getElem?_set_ne (Ne.symm hj)] at e2
    obtain⟨u',r',q⟩:=hl j y v' e1 e2 e3
    refine⟨u',r',?_⟩
    rcases q with⟨k,e⟩ | ⟨k,c,e,z⟩
    ·refine .inl ⟨k,?_⟩
     have:y≠x:=fun e=>hj (oG hN e1 (e▸hi))
     simp[this,e]
    ·exact .inr ⟨k,c,e,z.sameBut hs (oY y c e)⟩
  ·obtain⟨w',z⟩:=I.cell y c e
   exact⟨w',z.sameBut hs (oY y c e)⟩
  ·obtain⟨e,n,ne,nf,d⟩:=I.pin p hp
   exact⟨(hs.2 p.1 ne).trans e,n,ne,nf,d⟩
 ·have hfn:X.fn x=true:=by
   rcases hf with z | z
   ·exact z
   ·rw[z] at hk;cases hk
  obtain⟨c,hc⟩:=I.ok.has x (.inl hk)
  obtain⟨w',z⟩:=I.cell x c hc
  refine wpAny_storeName_cell I.ok.kind hk hc z (fun h' hc' hs=>?_)
  obtain⟨oc,hoc,M'⟩:=id z
  refine h {s with heap:=h'} ⟨I.ok,I.os,I.bare,⟨fun b o e n hb hx=>?_,fun b o e n hb hx=>?_,I.base.free,fun b o e hx=>?_,I.base.tups,I.base.kc,I.base.lD⟩,⟨m,hn.sameBut hs (Ne.symm (oY x c hc)),fun j y v' e1 e2 e3=>?_⟩,fun y c' e=>?_,I.free,I.fS,fun p hp=>?_,tracked ⟨oc,hoc,I.fS x c hc⟩ hs,by simpa using I.len⟩ ⟨c,hs,.inr hc⟩
  ·exact(hs.2 b (Nat.ne_of_lt (Nat.lt_of_lt_of_le (Heap.lt_size e) (I.ok.cab x c hfn hc)))).trans (I.base.keep b o e n hb hx)
  ·obtain⟨sl,e1⟩:=I.base.slot b o e n hb hx
   exact⟨sl,(hs.2 b (Nat.ne_of_lt (Nat.lt_of_lt_of_le (Heap.lt_size e) (I.ok.cab x c hfn hc)))).trans e1⟩
  ·obtain⟨o',e1⟩:=I.base.there b o e hx
   exact⟨o',(hs.2 b (Nat.ne_of_lt (Nat.lt_of_lt_of_le (Heap.lt_size e) (I.ok.cab x c hfn hc)))).trans e1⟩
  ·by_cases hj:j=i
   ·subst hj
    rw[hi] at e1;cases e1
    rw[List.getElem?_set_self LH] at e2
    cases e2
    exact⟨u,r,.inr ⟨.inl hk,c,hc,hc'⟩⟩
   ·rw[List.getElem?_set_ne (Ne.symm hj)] at e2
    obtain⟨u',r',q⟩:=hl j y v' e1 e2 e3
    refine⟨u',r',?_⟩
    rcases q with q | ⟨k,c',e,z'⟩
    ·exact .inl q
    ·refine .inr ⟨k,c',e,z'.sameBut hs ?_⟩
     rintro rfl
     exact hj (oG hN e1 (I.ok.inj _ _ _ e hc▸hi))
  ·by_cases hcc:c'=c
   ·subst hcc;exact⟨_,hc'⟩
   ·obtain⟨w2,z2⟩:=I.cell y c' e
    exact⟨w2,z2.sameBut hs hcc⟩
  ·obtain⟨e,n,ne,nf,d⟩:=I.pin p hp
   refine⟨(hs.2 p.1 ?_).trans e,n,ne,nf,d⟩
   intro q
   rw[q,hoc] at e
   have q':oc=p.2:=Option.some.inj e
   exact d w' (by rw[←q'];exact M')
theorem ig {M:Model} {A:Around} {E:Value→Shared→Prop} {i:Nat} {x:Str} {v:V} {u:Value} {Q:Unit→Shared→Prop} (I:Inv X pins σ H s) (hN:X.N.Nodup) (hi:X.N[i]? =some x) (hx:Loc X.env.scope x) (r:RelV v u)
  (h:∀s',Inv X pins (σ.set i (some v)) H s'→Q () s') (hf:X.fn x=true∨X.env.scope.names.lookup x=some .local:=by first | exact .inl rfl | exact .inr rfl | assumption):wpAny M A (storeName X.env x u) Q E s:=
 mO I hN hi hx r (fun s' I' _=>h s' I') hf
theorem Inv.call' {s':Shared} {ch:List Addr} (I:Inv X pins σ H s) (ho:s'.os=s.os) (u:Un (frs X.stack) ch H H' s.heap s'.heap) (hok:du X.prog X.w H' s'.heap) (hg:AllBare s'.gens)
  (hch:∀b∈ch,(b∈X.ex∨X.s₀.heap.objs.size≤b)∧b≠X.env.locals∧(∀x c,X.env.cells.lookup x=some c→c≠b)∧∀p∈X.pn++pins,p.1≠b):Inv X pins σ H' s':=by
 obtain⟨h',g',d',t',o'⟩:=s'
 have e:o'=s.os:=ho
 subst e
 exact I.call (g':=g') (t':=t') (d':=d') u hok hg hch
end
abbrev XK:=Value→Option Addr→Hp→Prop
abbrev St:=List (Option V)
abbrev VK:=V→Hp→Prop
abbrev TE:=St→Hp→VK→Prop
abbrev TT:=St→Hp→(Bool→Hp→Prop)→Prop
abbrev TA:=St→Hp→(List V→Hp→Prop)→Prop
structure Ends where
 nx:St→Hp→Prop
 rt:VK
 bk:St→Hp→Prop:=fun _ _=>False
 ct:St→Hp→Prop:=fun _ _=>False
abbrev TS:=Ends→St→Hp→Prop
def EP (X:Cx) (pins:List (Addr×Obj)) (σ:St) (Q:VK) (u:Value) (s':Shared):Prop:=∃v H',Inv X pins σ H' s'∧RelV v u∧Q v H'
def TP (X:Cx) (pins:List (Addr×Obj)) (σ:St) (Q:Bool→Hp→Prop) (b:Bool) (s':Shared):Prop:=∃H',Inv X pins σ H' s'∧Q b H'
def AP (X:Cx) (pins:List (Addr×Obj)) (σ:St) (Q:List V→Hp→Prop) (us:List Value) (s':Shared):Prop:=∃vs H',Inv X pins σ H' s'∧Vals vs us∧Q vs H'
def SP (X:Cx) (pins:List (Addr×Obj)) (D:Ends) (f:Flow) (s':Shared):Prop:=
 match f with
 | .next=>∃σ' H',Inv X pins σ' H' s'∧D.nx σ' H'
 | .brk=>∃σ' H',Inv X pins σ' H' s'∧D.bk σ' H'
 | .cont=>∃σ' H',Inv X pins σ' H' s'∧D.ct σ' H'
 | .ret u=>∃v σ' H',Inv X pins σ' H' s'∧RelV v u∧D.rt v H'
def PE (X:Cx) (e:Expr) (t:TE):Prop:=
 ∀(pins:List (Addr×Obj)) (s:Shared) (σ:St) (H:Hp) (Q:VK),Inv X pins σ H s→t σ H Q→wpAny (model X.prog X.w) X.A (eval e X.env) (EP X pins σ Q) X.xe s
def PT (X:Cx) (e:Expr) (t:TT):Prop:=
 ∀(pins:List (Addr×Obj)) (s:Shared) (σ:St) (H:Hp) (Q:Bool→Hp→Prop),Inv X pins σ H s→t σ H Q→wpAny (model X.prog X.w) X.A (isTrue e X.env (eval e X.env)) (TP X pins σ Q) X.xe s
def PW (X:Cx) (e:Expr) (t:TT):Prop:=
 ∀(whole:Sem Value) (pins:List (Addr×Obj)) (s:Shared) (σ:St) (H:Hp) (Q:Bool→Hp→Prop),Inv X pins σ H s→t σ H Q→wpAny (model X.prog X.w) X.A (isTrue e X.env whole) (TP X pins σ Q) X.xe s
theorem PW.pt {X:Cx} {e:Expr} {t:TT} (h:PW X e t):PT X e t:=h _
def PA (X:Cx) (es:List Expr) (t:TA):Prop:=
 ∀(pos:Pos) (pins:List (Addr×Obj)) (s:Shared) (σ:St) (H:Hp) (Q:List V→Hp→Prop),Inv X pins σ H s→t σ H Q→wpAny (model X.prog X.w) X.A (spliced (backTo pos (starEach es X.env))) (AP X pins σ Q) X.xe s
def PS (X:Cx) (st:Stmt) (t:TS):Prop:=
 ∀(pins:List (Addr×Obj)) (s:Shared) (σ:St) (H:Hp) (D:Ends),Inv X pins σ H s→t D σ H→wpAny (model X.prog X.w) X.A (exec st X.env) (SP X pins D) X.xe s
def gL (X:Cx) (st:List Stmt) (t:TS):Prop:=
 ∀(pins:List (Addr×Obj)) (s:Shared) (σ:St) (H:Hp) (D:Ends),Inv X pins σ H s→t D σ H→wpAny (model X.prog X.w) X.A (execs st X.env) (SP X pins D) X.xe s
theorem aG {α:Type} {t:Sem α} {Q Q':α→Shared→Prop} {M:Model} {A:Around} {E:Value→Shared→Prop} {s:Shared} (h:wpAny M A t Q E s) (hQ:∀a s,Q a s→Q' a s):wpAny M A t Q' E s:=wpAny_mono h hQ fun _ _ x=>x
section
variable {X:Cx}
def C6 (i:Nat):TE:=fun σ H Q=>∃v,σ[i]? =some (some v)∧Q v H
def tC (v:V):TE:=fun _ H Q=>Q v H
theorem G3 {i:Nat} {x:Str} {pos:Pos} (hN:X.N[i]? =some x) (hv:xQ X.env.scope x) (hd:(x == ("__debug__":Str))=false:=by decide) (hcd:(x == ("__classdict__":Str))=false:=by decide):PE X (.Name x pos) (C6 i):=by
 intro pins s σ H Q I h
 obtain⟨v,e,h⟩:=h
 obtain⟨m,hn,hl⟩:=I.loc
 obtain⟨u,r,l⟩:=hl i x v hN e hv
 have fin:EP X pins σ Q u s:=⟨v,H,I,r,h⟩
 rcases l with⟨hk,hm⟩ | ⟨hk,c,hc,hcell⟩
 ·exact wpAny_Name (wpAny_loadName_local I.ok.kind hk hn hm fin) hd
 ·rcases hk with hk | hk
  ·exact wpAny_Name (wpAny_loadName_cell I.ok.kind hk hc hcell fin) hd
  ·exact wpAny_Name (wpAny_loadName_free I.ok.kind hk hc hcell fin hcd) hd
theorem ah {i j pos}:PE X (.Constant (.int i) j pos) (tC (.int i)):=fun _ _ _ H _ I h=>wpAny_Constant_int ⟨.int i,H,I.tok _,⟨_,rfl⟩,h⟩
theorem fC {b j pos}:PE X (.Constant (.bool b) j pos) (tC (.bl b)):=fun _ _ _ H _ I h=>Constant_bool ⟨.bl b,H,I,rfl,h⟩
theorem AV {j pos}:PE X (.Constant .none j pos) (tC .non):=fun _ _ _ H _ I h=>Constant_none ⟨.non,H,I,rfl,h⟩
theorem ay {x j pos}:PE X (.Constant (.str x) j pos) (tC (.str x)):=fun _ _ _ H _ I h=>Calls.Constant_str ⟨.str x,H,I.tok _,⟨_,rfl⟩,h⟩
def Gl (X:Cx) (x:Str):Prop:=X.env.kindOf x=some .globalImplicit
theorem gM {E:Value→Shared→Prop} {pins:List (Addr×Obj)} {s:Shared} {σ:St} {H:Hp} {x:Str} {u:Value} {pos:Pos} {Q:Value→Shared→Prop} (I:Inv X pins σ H s) (hg:Gl X x) (hm:X.mg x=some u) (h:Q u s)
  (hd:(x == ("__debug__":Str))=false:=by decide):wpAny (model X.prog X.w) X.A (eval (.Name x pos) X.env) Q E s:=
 Calls.Name_function_global I.ok.kind hg (Calls.loadGlobal_global (by rw[I.ok.glob];exact I.mod.glob.keeps I.bk) hm h) hd
theorem jt {E:Value→Shared→Prop} {pins:List (Addr×Obj)} {s:Shared} {σ:St} {H:Hp} {x:Str} {u:Value} {pos:Pos} {Q:Value→Shared→Prop} (I:Inv X pins σ H s) (hg:Gl X x) (hm:X.mg x=none) (hv:bootBuiltins x=some u) (h:Q u s)
  (hn:x≠"__name__":=by decide) (hd:(x == ("__debug__":Str))=false:=by decide):wpAny (model X.prog X.w) X.A (eval (.Name x pos) X.env) Q E s:=by
 obtain⟨mb,h1,h2⟩:=I.mod.blt
 exact Calls.Name_function_global I.ok.kind hg (Calls.loadGlobal_builtin (by rw[I.ok.glob];exact I.mod.glob.keeps I.bk) hm (by rw[I.ok.blt];exact h1.keeps I.bk) ((h2 x hn).trans hv) h) hd
theorem dv {x:Str} {v:V} {u:Value} {pos:Pos} (hg:Gl X x) (hm:X.mg x=some u) (r:RelV v u) (hd:(x == ("__debug__":Str))=false:=by decide):PE X (.Name x pos) (tC v):=
 fun _ _ _ H _ I h=>gM I hg hm ⟨v,H,I,r,h⟩ hd
theorem xT {x:Str} {v:V} {u:Value} {pos:Pos} (hg:Gl X x) (hm:X.mg x=none) (hv:bootBuiltins x=some u) (r:RelV v u) (hn:x≠"__name__":=by decide) (hd:(x == ("__debug__":Str))=false:=by decide):PE X (.Name x pos) (tC v):=
 fun _ _ _ H _ I h=>jt I hg hm hv ⟨v,H,I,r,h⟩ hn hd
variable {a b:Expr} {ta tb:TE} {pos:Pos}
variable {tA Eh:TT} {rest:List Expr}
def Na (t u:TT):TT:=fun σ H Q=>t σ H fun c H1=>if c=true then u σ H1 Q else Q false H1
def QJ (t u:TT):TT:=fun σ H Q=>t σ H fun c H1=>if c=true then Q true H1 else u σ H1 Q
def Nb (t:TT):TT:=fun σ H Q=>t σ H fun c H1=>Q (!c) H1
theorem nK (ha:PT X a tA):PW X (.BoolOp .And [a] pos) tA:=by
 intro wh pins s σ H Q I h
 refine isTrue_and (aG (ha pins s σ H Q I h) fun c s1 e=>?_)
 cases c with
 | true=>exact isTrue_and_nil e
 | false=>exact e
theorem kx (ha:PT X a tA):PW X (.BoolOp .Or [a] pos) tA:=by
 intro wh pins s σ H Q I h
 refine isTrue_or (aG (ha pins s σ H Q I h) fun c s1 e=>?_)
 cases c with
 | false=>exact isTrue_or_nil e
 | true=>exact e
theorem ky (ha:PT X a tA) (hb:PW X (.BoolOp .And (b::rest) pos) Eh):PW X (.BoolOp .And (a::b::rest) pos) (Na tA Eh):=by
 intro wh pins s σ H Q I h
 refine isTrue_and (aG (ha pins s σ H _ I h) fun c s1 ⟨H1,I1,q1⟩=>?_)
 cases c with
 | true=>exact hb wh pins s1 σ H1 Q I1 q1
 | false=>exact⟨H1,I1,q1⟩
theorem lF (ha:PT X a tA) (hb:PW X (.BoolOp .Or (b::rest) pos) Eh):PW X (.BoolOp .Or (a::b::rest) pos) (QJ tA Eh):=by
 intro wh pins s σ H Q I h
 refine isTrue_or (aG (ha pins s σ H _ I h) fun c s1 ⟨H1,I1,q1⟩=>?_)
 cases c with
 | true=>exact⟨H1,I1,q1⟩
 | false=>exact hb wh pins s1 σ H1 Q I1 q1
theorem kz (ha:PT X a tA):PT X (.UnaryOp .Not a pos) (Nb tA):=by
 intro pins s σ H Q I h
 exact isTrue_not (ha pins s σ H (fun c H1=>Q (!c) H1) I h)
def J' (ta tb:TE):TE:=fun σ H Q=>ta σ H fun x H1=>∃c,x=.bl c∧if c=true then tb σ H1 Q else Q (.bl false) H1
theorem G4 {op} {t:TE} (h:PE X a t):PE X (.BoolOp op [a] pos) t:=fun pins s σ H Q I hw=>BoolOp_one (h pins s σ H Q I hw)
theorem AW (ha:PE X a ta) (hb:PE X (.BoolOp .And (b::rest) pos) tb):PE X (.BoolOp .And (a::b::rest) pos) (J' ta tb):=by
 intro pins s σ H Q I h
 refine BoolOp_and (aG (ha pins s σ H _ I h) fun v s1 ⟨x,H1,I1,r1,q1⟩=>?_)
 obtain⟨c,rfl,q1⟩:=q1
 cases r1
 refine wpAny_truthy_bool ?_
 cases c with
 | true=>exact hb pins s1 σ H1 Q I1 q1
 | false=>exact⟨.bl false,H1,I1,rfl,q1⟩
end
def cF (K:PySem.W.Frag) (H:Hp) (a:Addr) (xs:List V):Prop:=
 Rd H a (.lst xs)∨
  ∃(o:Obj) (its:Array Value) (n:Nat),K.lookup a=some o∧o.cls=.type "list"∧o.dict=none∧o.data=.seq its n∧its.size≤sizeLine∧Vals xs its.toList
def bP (K:PySem.W.Frag) (H:Hp) (a:Addr) (xs:List V):Prop:=
 Rd H a (.tup xs)∨
  ∃(o:Obj) (its:Array Value) (n:Nat),K.lookup a=some o∧o.cls=.type "tuple"∧o.data=.seq its n∧its.size≤sizeLine∧Vals xs its.toList
def Nc:Value→Option V
 | .none=>some .non
 | .bool b=>some (.bl b)
 | .int i _=>some (.int i)
 | .str x _=>some (.str x)
 | .bytes b _=>some (.iK b)
 | .float b _=>some (.flt b)
 | .ref a=>some (.ref a)
 | .type n=>some (.ty n)
 | _=>none
theorem RelV.abs {x:V} {u:Value} (r:RelV x u):Nc u=some x:=by
 cases x with
 | non=>cases r;rfl
 | bl _=>cases r;rfl
 | int _=>obtain⟨t,rfl⟩:=r;rfl
 | str _=>obtain⟨t,rfl⟩:=r;rfl
 | iK _=>obtain⟨t,rfl⟩:=r;rfl
 | flt _=>obtain⟨t,rfl⟩:=r;rfl
 | ref _=>cases r;rfl
 | ty _=>cases r;rfl
theorem RelV.inj {x y:V} {u:Value} (r:RelV x u) (q:RelV y u):x=y:=Option.some.inj (r.abs.symm.trans q.abs)
theorem Vals.inj:∀{xs ys:List V} {us:List Value},Vals xs us→Vals ys us→xs=ys
 | _,_,_,.nil,.nil=>rfl
 | _,_,_,.cons r t,.cons r' t'=>by rw[r.inj r',Vals.inj t t']
section
variable {X:Cx} {pins:List (Addr×Obj)} {σ:St} {H:Hp} {s:Shared} {a:Addr} {xs ys:List V}
theorem cF.of {K:PySem.W.Frag} (h:H a=some (.lst xs)):cF K H a xs:=.inl (.inl h)
theorem bP.of {K:PySem.W.Frag} (h:H a=some (.tup xs)):bP K H a xs:=.inl (.inl h)
theorem Inv.list (I:Inv X pins σ H s) (h:cF X.K H a xs):∃its:List Value,Vals xs its∧PlainL s.heap a its.toArray∧xs.length≤sizeLine:=by
 rcases h with h | ⟨o,its,n,hk,hc,hd,hs,hz,r⟩
 ·obtain⟨z,its,n,r,e⟩:=h.ok I.hok
  exact⟨its,r,⟨_,n,e,rfl,rfl,rfl⟩,z⟩
 ·refine⟨its.toList,r,⟨o,n,I.gi a o hk,hc,hd,by simpa using hs⟩,?_⟩
  have e:=r.length
  simp only[Array.length_toList] at e
  omega
theorem Inv.tuple (I:Inv X pins σ H s) (h:bP X.K H a xs):∃its:List Value,Vals xs its∧IsTup s.heap a its.toArray∧xs.length≤sizeLine:=by
 rcases h with h | ⟨o,its,n,hk,hc,hs,hz,r⟩
 ·obtain⟨z,its,r,p⟩:=h.ok I.hok
  exact⟨its,r,p,z.1⟩
 ·refine⟨its.toList,r,⟨o,I.gi a o hk,hc,n,by simpa using hs⟩,?_⟩
  have e:=r.length
  simp only[Array.length_toList] at e
  omega
theorem Inv.uc (I:Inv X pins σ H s) (h:cF X.K H a xs) (h':cF X.K H a ys):xs=ys:=by
 obtain⟨its,r,⟨o,n,e,_,_,d⟩,_⟩:=I.list h
 obtain⟨its',r',⟨o',n',e',_,_,d'⟩,_⟩:=I.list h'
 rw[e] at e';cases e'
 rw[d] at d'
 injection d' with d1 _
 have:its=its':=by simpa using congrArg Array.toList d1
 subst this
 exact r.inj r'
theorem Inv.iL (I:Inv X pins σ H s) (h:bP X.K H a xs) (h':bP X.K H a ys):xs=ys:=by
 obtain⟨its,r,⟨o,e,_,n,d⟩,_⟩:=I.tuple h
 obtain⟨its',r',⟨o',e',_,n',d'⟩,_⟩:=I.tuple h'
 rw[e] at e';cases e'
 rw[d] at d'
 injection d' with d1 _
 have:its=its':=by simpa using congrArg Array.toList d1
 subst this
 exact r.inj r'
end
abbrev Cx.wish (X:Cx) (E:Value→Shared→Prop):Cx:={X with xe:=E}
abbrev Cx.AX (X:Cx):Cx:=X.wish fun _ _=>False
theorem Cx.Ok.wish {X:Cx} (ok:X.Ok) (E:Value→Shared→Prop):(X.wish E).Ok:=
 ⟨ok.mod,ok.kind,ok.glob,ok.blt,ok.above,ok.inj,ok.has,ok.cab,ok.hd,ok.frames,ok.stk,ok.AU,ok.bs,ok.n5,ok.qf,ok.oF,ok.ie,ok.qW⟩
theorem Cx.Ok.gW {X:Cx} {E:Value→Shared→Prop} (ok:(X.wish E).Ok):X.Ok:=
 ⟨ok.mod,ok.kind,ok.glob,ok.blt,ok.above,ok.inj,ok.has,ok.cab,ok.hd,ok.frames,ok.stk,ok.AU,ok.bs,ok.n5,ok.qf,ok.oF,ok.ie,ok.qW⟩
section
variable {X:Cx} {pins:List (Addr×Obj)} {σ:St} {H:Hp} {s:Shared} {E:Value→Shared→Prop}
theorem Inv.wish (I:Inv X pins σ H s) (E:Value→Shared→Prop):Inv (X.wish E) pins σ H s:=⟨I.ok.wish E,I.os,I.bare,I.base,I.loc,I.cell,I.free,I.fS,I.pin,I.hok,I.len⟩
theorem Inv.gW (I:Inv (X.wish E) pins σ H s):Inv X pins σ H s:=⟨I.ok.gW,I.os,I.bare,I.base,I.loc,I.cell,I.free,I.fS,I.pin,I.hok,I.len⟩
theorem SP.gW {D:Ends} {f:Flow} {s':Shared} (h:SP (X.wish E) pins D f s'):SP X pins D f s':=by
 cases f with
 | next=>obtain⟨σ',H',I,q⟩:=h;exact⟨σ',H',I.gW,q⟩
 | brk=>obtain⟨σ',H',I,q⟩:=h;exact⟨σ',H',I.gW,q⟩
 | cont=>obtain⟨σ',H',I,q⟩:=h;exact⟨σ',H',I.gW,q⟩
 | ret u=>obtain⟨v,σ',H',I,r,q⟩:=h;exact⟨v,σ',H',I.gW,r,q⟩
theorem gL.AX {st:List Stmt} {t:TS} (h:gL X.AX st t):gL X st t:=fun pins s σ H D I hw=>
 wpAny_mono (h pins s σ H D (I.wish _) hw) (fun _ _ q=>q.gW) fun _ _ z=>False.elim z
end
section
variable {X:Cx} {st:Stmt} {rest:List Stmt} {t u:TS} {e:Expr} {te:TE} {pos:Pos}
def Ei:TS:=fun D σ H=>D.nx σ H
def oH (t u:TS):TS:=fun D σ H=>t {D with nx:=u D} σ H
theorem bh:gL X [] Ei:=fun _ _ σ H _ I h=>wpAny_execs_nil ⟨σ,H,I,h⟩
theorem ai (h1:PS X st t) (h2:gL X rest u):gL X (st::rest) (oH t u):=by
 intro pins s σ H D I h
 refine wpAny_execs_cons (aG (h1 pins s σ H {D with nx:=u D} I h) fun f s1 q=>?_)
 cases f with
 | next=>
  obtain⟨σ',H',I',q⟩:=q
  exact h2 pins s1 σ' H' D I' q
 | ret v=>exact q
 | brk=>exact q
 | cont=>exact q
theorem aq (h1:PS X st t):gL X [st] t:=by
 intro pins s σ H D I h
 refine wpAny_execs_cons (aG (h1 pins s σ H D I h) fun f s1 q=>?_)
 cases f with
 | next=>exact wpAny_execs_nil q
 | ret v=>exact q
 | brk=>exact q
 | cont=>exact q
theorem Inv.quiet {pins:List (Addr×Obj)} {σ:St} {H:Hp} {s:Shared} (I:Inv X pins σ H s):interactive X.env=false:=by simp[interactive,I.ok.kind]
def Ej (te:TE):TS:=fun D σ H=>te σ H fun _ H1=>D.nx σ H1
theorem eh (he:PE X e te) (hs:swapsWith e none pos.line X.env=pure false:=by rfl):PS X (.Expr e pos) (Ej te):=by
 intro pins s σ H D I h
 exact wpAny_Expr_any (aG (he pins s σ H _ I h) fun v s1 ⟨x,H1,I1,r1,q1⟩=>⟨σ,H1,I1,q1⟩) I.quiet hs
def Nd (te:TE):TS:=fun D σ H=>te σ H D.rt
theorem aW (he:PE X e te):PS X (.Return (some e) pos) (Nd te):=by
 intro pins s σ H D I h
 exact wpAny_Return_some (aG (he pins s σ H _ I h) fun v s1 ⟨x,H1,I1,r1,q1⟩=>⟨x,σ,H1,I1,r1,q1⟩)
def ud (c:TT) (t u:TS):TS:=fun D σ H=>c σ H fun b H1=>if b=true then t D σ H1 else u D σ H1
theorem bM {c:Expr} {a b:List Stmt} {tc:TT} (hc:PT X c tc) (ha:gL X a t) (hb:gL X b u):PS X (.If c a b pos) (ud tc t u):=by
 intro pins s σ H D I h
 refine wpAny_If (aG (hc pins s σ H _ I h) fun d s1 ⟨H1,I1,q1⟩=>?_)
 cases d with
 | true=>exact ha pins s1 σ H1 D I1 q1
 | false=>exact hb pins s1 σ H1 D I1 q1
end
abbrev TG:=V→St→Hp→(St→Hp→Prop)→Prop
abbrev qX:=List V→St→Hp→(St→Hp→Prop)→Prop
def PG (X:Cx) (target:Expr) (t:TG):Prop:=
 ∀(pins:List (Addr×Obj)) (s:Shared) (σ:St) (H:Hp) (v:V) (u:Value) (Q:St→Hp→Prop),Inv X pins σ H s→RelV v u→t v σ H Q→
  wpAny (model X.prog X.w) X.A (assign target X.env u) (fun _ s'=>∃σ' H',Inv X pins σ' H' s'∧Q σ' H') X.xe s
def AY (X:Cx) (ts:List Expr) (t:qX):Prop:=
 ∀(pins:List (Addr×Obj)) (s:Shared) (σ:St) (H:Hp) (vs:List V) (us:List Value) (Q:St→Hp→Prop),Inv X pins σ H s→Vals vs us→t vs σ H Q→
  wpAny (model X.prog X.w) X.A (assignInOrder ((assignEach ts X.env).map (·.2)) us) (fun _ s'=>∃σ' H',Inv X pins σ' H' s'∧Q σ' H') X.xe s
abbrev C7:=V→V→V→Hp→(Hp→Prop)→Prop
def G5 (X:Cx) (t:C7):Prop:=
 ∀(pins:List (Addr×Obj)) (s:Shared) (σ:St) (H:Hp) (o i v:V) (ov iv u:Value) (Q:Hp→Prop),Inv X pins σ H s→RelV o ov→RelV i iv→RelV v u→t o i v H Q→
  wpAny (model X.prog X.w) X.A (setItem ov iv u) (fun _ s'=>∃H',Inv X pins σ H' s'∧Q H') X.xe s
section
variable {X:Cx} {pos:Pos}
def eU (i:Nat):TG:=fun v σ H Q=>Q (σ.set i (some v)) H
theorem aS {i:Nat} {x:Str} (hN:X.N.Nodup) (hi:X.N[i]? =some x) (hx:Loc X.env.scope x) (hf:X.fn x=true∨X.env.scope.names.lookup x=some .local:=by first | exact .inl rfl | exact .inr rfl | assumption):PG X (.Name x pos) (eU i):=by
 intro pins s σ H v u Q I r h
 exact wpAny_assign_Name (ig I hN hi hx r (fun s' I'=>⟨_,H,I',h⟩) hf)
def Nf:qX:=fun vs σ H Q=>vs=[]∧Q σ H
def Ka (t:TG) (u:qX):qX:=fun vs σ H Q=>∃v r,vs=v::r∧t v σ H fun σ' H'=>u r σ' H' Q
theorem kC:AY X [] Nf:=by
 intro pins s σ H vs us Q I r h
 obtain⟨e,h⟩:=h
 subst e
 cases r
 exact assignInOrder_nil ⟨σ,H,I,h⟩
theorem dP {e:Expr} {es:List Expr} {t:TG} {u:qX} (h1:PG X e t) (h2:AY X es u)
  (hs:(assignEach (e::es) X.env).map (·.2)=assign e X.env::(assignEach es X.env).map (·.2):=by rfl):AY X (e::es) (Ka t u):=by
 intro pins s σ H vs us Q I r h
 obtain⟨v,vr,e1,h⟩:=h
 subst e1
 cases r with
 | cons r rr=>
  rw[hs]
  refine assignInOrder_cons (aG (h1 pins s σ H _ _ _ I r h) fun _ s1 ⟨σ1,H1,I1,q1⟩=>?_)
  exact h2 pins s1 σ1 H1 _ _ Q I1 rr q1
def G6 (K:PySem.W.Frag) (n:Nat) (t:qX):TG:=fun v σ H Q=>∃a xs,v=.ref a∧bP K H a xs∧xs.length=n∧t xs σ H Q
theorem oZ {es:List Expr} {k:Nat} {t:qX} {n:Nat} (hc:X.calm=true) (h:AY X es t)
  (hn:(assignEach es X.env).length=n:=by rfl) (hst:(assignEach es X.env).findIdx? (·.1)=none:=by rfl):PG X (.Tuple es k pos) (G6 X.K n t):=by
 intro pins s σ H v u Q I r hw
 obtain⟨a,xs,e1,hq,hl,hw⟩:=hw
 subst e1
 cases r
 obtain⟨its,rv,ht,hz⟩:=I.tuple hq
 refine assign_Tuple_tuple (I.ok.hd hc) ht (by simp[hn,←hl,rv.length]) hst fun h' hx=>?_
 have I1:Inv X pins σ H {s with heap:=h'}:=I.kept (t':=s.toks) fun b o e=>hx b o (Nat.ne_of_lt (Heap.lt_size e)) e
 exact h pins _ σ H xs _ Q I1 (by simpa using rv) hw
def Ng (to ti:TE) (t:C7):TG:=fun v σ H Q=>to σ H fun o H1=>ti σ H1 fun i H2=>t o i v H2 fun H3=>Q σ H3
theorem uf {o i:Expr} {to ti:TE} {t:C7} (ho:PE X o to) (hi:PE X i ti) (hs:G5 X t)
  (ha:∀v,assign (.Subscript o i pos) X.env v=(do
   let ov ←holding [v] (eval o X.env)
   let iv ←holding [v,ov] (eval i X.env)
   standAt pos
   holding [v,ov,iv] (setItem ov iv v)
   release [v,ov,iv] []):=by intro _;rfl):PG X (.Subscript o i pos) (Ng to ti t):=by
 intro pins s σ H v u Q I r h
 rw[ha]
 refine wpAny_bind (wpAny_holding (aG (ho pins s σ H _ I h) fun ov s1 ⟨x,H1,I1,r1,q1⟩=>?_))
 refine wpAny_bind (wpAny_holding (aG (hi pins s1 σ H1 _ I1 q1) fun iv s2 ⟨y,H2,I2,r2,q2⟩=>?_))
 refine wpAny_bind (wpAny_standAt (wpAny_bind (wpAny_holding (aG (hs pins s2 σ H2 x y v ov iv u _ I2 r1 r2 r q2) fun _ s3 ⟨H3,I3,q3⟩=>?_))))
 exact wpAny_release ⟨σ,H3,I3,q3⟩
def oI (te:TE) (g:TG):TS:=fun D σ H=>te σ H fun x H1=>g x σ H1 D.nx
theorem mP {tg e:Expr} {te:TE} {g:TG} (he:PE X e te) (hg:PG X tg g) (hs:swapsWithSole [tg] e pos.line X.env=pure false:=by rfl) (hw:swappedStores [tg] e X.env=pure none:=by rfl)
  (h1:(assignEach [tg] X.env).map (·.2)=[assign tg X.env]:=by rfl):PS X (.Assign [tg] e pos) (oI te g):=by
 intro pins s σ H D I h
 refine wpAny_Assign_stores (aG (he pins s σ H _ I h) fun v s1 ⟨x,H1,I1,r1,q1⟩=>?_) hs hw
 rw[h1]
 exact aG (hg pins s1 σ H1 x v _ I1 r1 q1) fun _ s2 q=>q
theorem aA {i:Nat} {x:Str} {e:Expr} {te:TE} {pos':Pos} (hN:X.N.Nodup) (hi:X.N[i]? =some x) (hx:Loc X.env.scope x) (he:PE X e te) (hs:swapsWith e (some (.Name x pos')) pos.line X.env=pure false:=by rfl) (hf:X.fn x=true∨X.env.scope.names.lookup x=some .local:=by first | exact .inl rfl | exact .inr rfl | assumption):
  PS X (.Assign [.Name x pos'] e pos) (oI te (eU i)):=by
 intro pins s σ H D I h
 refine wpAny_Assign_Name (aG (he pins s σ H _ I h) fun v s1 ⟨y,H1,I1,r1,q1⟩=>?_) hs
 exact ig I1 hN hi hx r1 (fun s2 I2=>⟨_,H1,I2,q1⟩) hf
end
structure It where
 go:Nat→Hp→Prop
 xU:Nat→Hp→V→Hp→Prop
 stop:Nat→Hp→Prop
def fA (X:Cx) (pins:List (Addr×Obj)) (H:Hp) (b:Addr):Prop:=
 H b=none∧b≠X.env.locals∧b ∉ X.fs∧(b∈X.ex∨X.s₀.heap.objs.size≤b)∧(∀x c,X.env.cells.lookup x=some c→c≠b)∧∀p∈X.pn++pins,p.1≠b
theorem Inv.iV {X:Cx} {pins:List (Addr×Obj)} {σ:St} {H H':Hp} {s:Shared} {b:Addr} (I:Inv X pins σ H s) (hb:s.heap.objs.size≤b) (hn:H' b=none):fA X pins H' b:=by
 refine⟨hn,Nat.ne_of_gt (Nat.lt_of_lt_of_le I.lt hb),I.M9 hb,.inr (Nat.le_trans I.sz hb),fun x c e z=>?_,fun p hp z=>?_⟩
 ·obtain⟨v,q⟩:=I.cell x c e
  exact absurd (Nat.lt_of_lt_of_le q.lt (by rw[z];exact hb)) (Nat.lt_irrefl _)
 ·exact absurd (Nat.lt_of_lt_of_le (Heap.lt_size (I.pin p hp).1) (by rw[z];exact hb)) (Nat.lt_irrefl _)
structure Turn (P:Program) (w:World) (K:PySem.W.Frag) (tg:Expr) (J:It) (fp:List Addr) (it:Addr) (tn:Nat→Heap→Prop):Prop where
 mem:it∈fp
 obj:∀i h,tn i h→∀b∈fp,∃o,h.get? b=some o∧∀v,o.data≠.cell v
 keep:∀i h h',tn i h→(∀b∈fp,∀o,h.get? b=some o→h'.get? b=some o)→tn i h'
 item:∀(X:Cx),X.prog=P→X.w=w→X.K=K→X.calm=true→∀(i:Nat) (pins:List (Addr×Obj)) (s:Shared) (σ:St) (H:Hp) (E:Value→Shared→Prop),Inv X pins σ H s→(∀b∈fp,fA X pins H b)→tn i s.heap→J.go i H→
  wpAny (model P w) X.A (pyNext (.ref it)) (fun r s1=>∃u,r=some u∧
   wpAny (model P w) X.A (letOwnedTupleGo tg (.ref it) u) (fun _ s2=>∃x H',Inv X pins σ H' s2∧RelV x u∧J.xU i H x H'∧tn (i+1) s2.heap∧∀b∈fp,H' b=none) E s1) E s
 done:∀(X:Cx),X.prog=P→X.w=w→X.K=K→X.calm=true→∀(i:Nat) (pins:List (Addr×Obj)) (s:Shared) (σ:St) (H:Hp) (E:Value→Shared→Prop),Inv X pins σ H s→(∀b∈fp,fA X pins H b)→tn i s.heap→J.stop i H→
  wpAny (model P w) X.A (pyNext (.ref it)) (fun r s1=>r=none∧Inv X pins σ H s1) E s
 self:∀(A:Around) (i:Nat) (s:Shared) (Q:Value→Shared→Prop) (E:Value→Shared→Prop),tn i s.heap→Q (.ref it) s→wpAny (model P w) A (pyIter (.ref it)) Q E s
abbrev TI:=St→Hp→(It→Hp→Prop)→Prop
def PIE (X:Cx) (pins:List (Addr×Obj)) (σ:St) (tg:Expr) (R:It→Hp→Prop) (itv:Value) (s2:Shared):Prop:=
 ∃(it:Addr) (fp:List Addr) (tn:Nat→Heap→Prop) (J:It) (H':Hp),itv=.ref it∧Inv X pins σ H' s2∧Turn X.prog X.w X.K tg J fp it tn∧tn 0 s2.heap∧(∀b∈fp,fA X pins H' b)∧R J H'
def PI (X:Cx) (tg iter:Expr) (wi:TI):Prop:=
 ∀(pins:List (Addr×Obj)) (s:Shared) (σ:St) (H:Hp) (R:It→Hp→Prop),Inv X pins σ H s→wi σ H R→
  wpAny (model X.prog X.w) X.A (eval iter X.env) (fun v s1=>wpAny (model X.prog X.w) X.A (pyIter v) (PIE X pins σ tg R) X.xe s1) X.xe s
theorem tV {M:Model} {A:Around} {E:Value→Shared→Prop} {s:Shared} {tg:Expr} {it:Addr} {u:Value} {o:Obj} {n:String} {vs:Array Value} {Q:Unit→Shared→Prop} (ho:s.heap.get? it=some o) (hc:o.cls=.type n) (hd:o.data=.fields vs)
  (hn:["enumerate","zip","dict_itemiterator","dict_reverseitemiterator","odict_iterator","itertools.zip_longest","itertools.pairwise"].contains n=false) (hQ:Q () s):wpAny M A (letOwnedTupleGo tg (.ref it) u) Q E s:=by
 unfold letOwnedTupleGo
 cases tg<;>first
  | exact wpAny_pure hQ
  | (cases u<;>first
    | exact wpAny_pure hQ
    | (refine wpAny_bind (wpAny_load ho ?_)
       rw[hc,hd]
       show wpAny M A (if(["enumerate","zip","dict_itemiterator","dict_reverseitemiterator","odict_iterator","itertools.zip_longest","itertools.pairwise"].contains n&&vs[0]? == some (rawInt _))=true then _ else _) Q E s
       rw[if_neg (by intro h;rw[hn,Bool.false_and] at h;cases h)]
       exact wpAny_pure hQ))
def xV (K:PySem.W.Frag) (a:Addr):It:=
 ⟨fun i H=>∃xs x,cF K H a xs∧xs[i]? =some x,fun i H x H'=>H'=H∧∀xs,cF K H a xs→xs[i]? =some x,fun i H=>∃xs,cF K H a xs∧xs.length≤i⟩
def Ek (K:PySem.W.Frag) (a:Addr):It:=
 ⟨fun i H=>∃xs x,bP K H a xs∧xs[i]? =some x,fun i H x H'=>H'=H∧∀xs,bP K H a xs→xs[i]? =some x,fun i H=>∃xs,bP K H a xs∧xs.length≤i⟩
def qY (lo:Int) (n:Nat):It:=⟨fun i _=>i<n,fun i H x H'=>H'=H∧x=.int (lo+i),fun i _=>n≤i⟩
theorem AZ {P:Program} {w:World} {K:PySem.W.Frag} {tg:Expr} (a it:Addr):Turn P w K tg (xV K a) [it] it (fun i h=>h.IsListIter it a i) where
 mem:=by simp
 obj:=fun i h st b hb=>by
  have e:b=it:=by simpa using hb
  subst e
  obtain⟨o,e,c,d⟩:=st
  exact⟨o,e,fun v z=>by rw[d] at z;cases z⟩
 keep:=fun i h h' st k=>st.at fun o e=>k it (by simp) o e
 item:=by
  intro X hP hw hK hc i pins s σ H E I hf st hg
  subst hP hw hK
  obtain⟨xs,x,hq,hx⟩:=hg
  obtain⟨its,rv,p,hz⟩:=I.list hq
  obtain⟨u,hu,ru⟩:=rv.get hx
  obtain⟨f0,f1,f2,f3,f4,f5⟩:=hf it (by simp)
  refine wpAny_pyNext_list_item st p.isList (x:=u) (by simpa using hu) fun h' st' sb=>?_
  have I1:Inv X pins σ H {s with heap:=h'}:=I.turned (t':=s.toks) (fun b o hb e=>(sb.2 b hb).trans e) f0 f1 f3 f4 f5
  obtain⟨o,e,c,d⟩:=id st'
  exact⟨u,rfl,tV (s:={s with heap:=h'}) e c d (by decide) ⟨x,H,I1,ru,⟨rfl,fun ys hy=>by rw[I.uc hy hq];exact hx⟩,st',fun b hb=>(hf b hb).1⟩⟩
 done:=by
  intro X hP hw hK hc i pins s σ H E I hf st hg
  subst hP hw hK
  obtain⟨xs,hq,hx⟩:=hg
  obtain⟨its,rv,p,hz⟩:=I.list hq
  obtain⟨f0,f1,f2,f3,f4,f5⟩:=hf it (by simp)
  have hl:=rv.length
  exact wpAny_pyNext_list_end (I.ok.hd hc) st p.isList (by simp;omega) fun h' eb=>⟨rfl,I.turned (t':=s.toks) (fun b o hb e=>eb b o hb e) f0 f1 f3 f4 f5⟩
 self:=fun _ _ _ _ _ st h=>wpAny_pyIter_listiter st h
theorem yS {P:Program} {w:World} {K:PySem.W.Frag} {tg:Expr} (a it:Addr):Turn P w K tg (Ek K a) [it] it (fun i h=>h.IsTupleIter it a i) where
 mem:=by simp
 obj:=fun i h st b hb=>by
  have e:b=it:=by simpa using hb
  subst e
  obtain⟨o,e,c,d⟩:=st
  exact⟨o,e,fun v z=>by rw[d] at z;cases z⟩
 keep:=fun i h h' st k=>st.at fun o e=>k it (by simp) o e
 item:=by
  intro X hP hw hK hc i pins s σ H E I hf st hg
  subst hP hw hK
  obtain⟨xs,x,hq,hx⟩:=hg
  obtain⟨its,rv,p,hz⟩:=I.tuple hq
  obtain⟨u,hu,ru⟩:=rv.get hx
  obtain⟨f0,f1,f2,f3,f4,f5⟩:=hf it (by simp)
  refine wpAny_pyNext_tuple_item st (show s.heap.IsTuple a its.toArray from p) (x:=u) (by simpa using hu) fun h' st' sb=>?_
  have I1:Inv X pins σ H {s with heap:=h'}:=I.turned (t':=s.toks) (fun b o hb e=>(sb.2 b hb).trans e) f0 f1 f3 f4 f5
  obtain⟨o,e,c,d⟩:=id st'
  exact⟨u,rfl,tV (s:={s with heap:=h'}) e c d (by decide) ⟨x,H,I1,ru,⟨rfl,fun ys hy=>by rw[I.iL hy hq];exact hx⟩,st',fun b hb=>(hf b hb).1⟩⟩
 done:=by
  intro X hP hw hK hc i pins s σ H E I hf st hg
  subst hP hw hK
  obtain⟨xs,hq,hx⟩:=hg
  obtain⟨its,rv,p,hz⟩:=I.tuple hq
  obtain⟨f0,f1,f2,f3,f4,f5⟩:=hf it (by simp)
  have hl:=rv.length
  exact wpAny_pyNext_tuple_end (I.ok.hd hc) st (show s.heap.IsTuple a its.toArray from p) (by simp;omega) fun h' eb=>⟨rfl,I.turned (t':=s.toks) (fun b o hb e=>eb b o hb e) f0 f1 f3 f4 f5⟩
 self:=fun _ _ _ _ _ st h=>wpAny_pyIter_tupleiter st h
theorem yT {P:Program} {w:World} {K:PySem.W.Frag} {tg:Expr} (it:Addr) (lo:Int) (n:Nat):Turn P w K tg (qY lo n) [it] it (fun i h=>IsRangeIter h it (lo+(i:Nat)*1) ((n:Int)-(i:Nat)) 1) where
 mem:=by simp
 obj:=fun i h st b hb=>by
  have e:b=it:=by simpa using hb
  subst e
  exact⟨_,st,fun v z=>by
   have z':Data.fields _=Data.cell v:=z
   cases z'⟩
 keep:=fun i h h' st k=>k it (by simp) _ st
 item:=by
  intro X hP hw hK hc i pins s σ H E I hf st hg
  subst hP hw hK
  obtain⟨f0,f1,f2,f3,f4,f5⟩:=hf it (by simp)
  have W:=Walks.range (prog:=X.prog) (w:=X.w) (I.ok.hd hc) it lo 1 n
  refine W.item i s _ _ hg st fun v h' tk hv st' kk=>?_
  obtain⟨t,rfl⟩:=hv
  have I1:Inv X pins σ H {s with heap:=h',toks:=tk}:=I.turned (fun b o hb e=>kk b o (by simpa using hb) e) f0 f1 f3 f4 f5
  refine⟨_,rfl,tV (s:={s with heap:=h',toks:=tk}) (n:="range_iterator") st' rfl rfl (by decide) ⟨.int (lo+i),H,I1,⟨t,?_⟩,⟨rfl,rfl⟩,st',fun b hb=>(hf b hb).1⟩⟩
  rw[Int.mul_one]
 done:=by
  intro X hP hw hK hc i pins s σ H E I hf st hg
  subst hP hw hK
  obtain⟨f0,f1,f2,f3,f4,f5⟩:=hf it (by simp)
  exact wpAny_pyNext_range_end (I.ok.hd hc) st (by have:n≤i:=hg;omega) fun h' eb=>⟨rfl,I.turned (t':=s.toks) (fun b o hb e=>eb b o hb e) f0 f1 f3 f4 f5⟩
 self:=fun _ _ _ _ _ st h=>wpAny_pyIter_rangeiter st h
section
variable {X:Cx} {tg:Expr}
def Kb (K:PySem.W.Frag) (tl:TE):TI:=fun σ H R=>tl σ H fun x H1=>∃a,x=.ref a∧(∃xs,cF K H1 a xs)∧R (xV K a) H1
def G7 (K:PySem.W.Frag) (tl:TE):TI:=fun σ H R=>tl σ H fun x H1=>∃a,x=.ref a∧(∃xs,bP K H1 a xs)∧R (Ek K a) H1
theorem eE {l:Expr} {tl:TE} (hl:PE X l tl):PI X tg l (Kb X.K tl):=by
 intro pins s σ H R I h
 refine aG (hl pins s σ H _ I h) fun v s1 ⟨x,H1,I1,r1,q1⟩=>?_
 obtain⟨a,e,⟨xs,hq⟩,q⟩:=q1
 subst e
 cases r1
 obtain⟨its,rv,p,hz⟩:=I1.list hq
 refine wpAny_pyIter_list p.isList ?_
 refine⟨s1.heap.objs.size,[s1.heap.objs.size],_,_,H1,rfl,I1.kept (t':=s1.toks) fun b o e=>Heap.get?_push_of_some _ e,AZ a _,⟨_,Heap.get?_push_size _ rfl,rfl,rfl⟩,fun b hb=>?_,q⟩
 have e:b=s1.heap.objs.size:=by simpa using hb
 subst e
 exact I1.iV (Nat.le_refl _) (I1.hok.fresh (Nat.le_refl _))
theorem ug {l:Expr} {tl:TE} (hl:PE X l tl):PI X tg l (G7 X.K tl):=by
 intro pins s σ H R I h
 refine aG (hl pins s σ H _ I h) fun v s1 ⟨x,H1,I1,r1,q1⟩=>?_
 obtain⟨a,e,⟨xs,hq⟩,q⟩:=q1
 subst e
 cases r1
 obtain⟨its,rv,p,hz⟩:=I1.tuple hq
 refine wpAny_pyIter_tuple (show s1.heap.IsTuple a its.toArray from p) ?_
 refine⟨s1.heap.objs.size,[s1.heap.objs.size],_,_,H1,rfl,I1.kept (t':=s1.toks) fun b o e=>Heap.get?_push_of_some _ e,yS a _,⟨_,Heap.get?_push_size _ rfl,rfl,rfl⟩,fun b hb=>?_,q⟩
 have e:b=s1.heap.objs.size:=by simpa using hb
 subst e
 exact I1.iV (Nat.le_refl _) (I1.hok.fresh (Nat.le_refl _))
theorem uh {pins:List (Addr×Obj)} {σ:St} {H:Hp} {s:Shared} {R:It→Hp→Prop} {E:Value→Shared→Prop} {lo hi:Int} {t u v:Tok} {tk:Nat} (I:Inv X pins σ H s) (h1: -(2 ^ 62)≤lo) (h2:lo<2 ^ 62) (h3: -(2 ^ 62)≤hi) (h4:hi<2 ^ 62)
  (q:R (qY lo (hi-lo).toNat) H):wpAny (model X.prog X.w) X.A (pyIter (.ref s.heap.objs.size)) (PIE X pins σ tg R) E {s with heap:=s.heap.push {cls:=.type "range",data:=.fields #[.int lo t,.int hi u,.int 1 v]},toks:=tk}:=by
 refine wpAny_pyIter_range (IsRange.new ..) (small_one h1 h2 h3 h4) ?_
 have I1:Inv X pins σ H {s with heap:=s.heap.push {cls:=.type "range",data:=.fields #[.int lo t,.int hi u,.int 1 v]},toks:=tk}:=I.kept fun b o e=>Heap.get?_push_of_some _ e
 refine⟨(s.heap.push {cls:=.type "range",data:=.fields #[.int lo t,.int hi u,.int 1 v]}).objs.size,[(s.heap.push {cls:=.type "range",data:=.fields #[.int lo t,.int hi u,.int 1 v]}).objs.size],_,_,H,rfl,
  I1.kept (t':=tk) fun b o e=>Heap.get?_push_of_some _ e,yT _ lo (hi-lo).toNat,?_,fun b hb=>?_,q⟩
 ·have e1:lo+((0:Nat):Int)*1=lo:=by simp
  have e2:(((hi-lo).toNat:Nat):Int)-((0:Nat):Int)=Builtin.Range.rangeSize lo hi 1:=by rw[rangeSize_one];split<;>omega
  show IsRangeIter _ _ (lo+((0:Nat):Int)*1) ((((hi-lo).toNat:Nat):Int)-((0:Nat):Int)) 1
  rw[e1,e2]
  exact Heap.get?_push_size _ rfl
 ·have e:b=(s.heap.push {cls:=.type "range",data:=.fields #[.int lo t,.int hi u,.int 1 v]}).objs.size:=by simpa using hb
  subst e
  exact I1.iV (Nat.le_refl _) (I1.hok.fresh (Nat.le_refl _))
def Kc (ta:TA):TI:=fun σ H R=>ta σ H fun vs H1=>∃j:Int,vs=[.int j]∧ -(2 ^ 62)≤j∧j<2 ^ 62∧R (qY 0 j.toNat) H1
def Kd (ta:TA):TI:=fun σ H R=>ta σ H fun vs H1=>∃i j:Int,vs=[.int i,.int j]∧(-(2 ^ 62)≤i∧i<2 ^ 62∧ -(2 ^ 62)≤j∧j<2 ^ 62)∧R (qY i (j-i).toNat) H1
theorem dC {a:Expr} {ta:TA} {p pos:Pos} (hg:Gl X "range") (hm:X.mg "range"=none) (ha:PA X [a] ta) (hs:starEach [a] X.env=[(false,eval a X.env)]:=by rfl):PI X tg (.Call (.Name "range" p) [a] [] pos) (Kc ta):=by
 intro pins s σ H R I h
 refine Call_ (jt I hg hm boot_range (PyProof.Rows.callWith_type1 (aG (ha pos pins s σ H _ I h) fun us s1 ⟨vs,H1,I1,r1,q1⟩=>?_) hs rfl))
 obtain⟨j,e,q1,q2,q⟩:=q1
 subst e
 cases r1 with
 | cons r rr=>
  cases rr
  obtain⟨t,rfl⟩:=r
  exact call_range_1 (uh I1 (by omega) (by omega) q1 q2 (by simpa using q))
theorem A_ {a b:Expr} {ta:TA} {p pos:Pos} (hg:Gl X "range") (hm:X.mg "range"=none) (ha:PA X [a,b] ta) (hs:starEach [a,b] X.env=[(false,eval a X.env),(false,eval b X.env)]:=by rfl) (hs2:starEach [b] X.env=[(false,eval b X.env)]:=by rfl):
  PI X tg (.Call (.Name "range" p) [a,b] [] pos) (Kd ta):=by
 intro pins s σ H R I h
 refine Call_ (jt I hg hm boot_range (PyProof.Rows.callWith_type1 (aG (ha pos pins s σ H _ I h) fun us s1 ⟨vs,H1,I1,r1,q1⟩=>?_) (by rw[hs,hs2]) (by rw[hs2];rfl)))
 obtain⟨i,j,e,⟨q1,q2,q3,q4⟩,q⟩:=q1
 subst e
 cases r1 with
 | cons r rr=>
  cases rr with
  | cons r' rr=>
   cases rr
   obtain⟨t,rfl⟩:=r
   obtain⟨t',rfl⟩:=r'
   exact call_range_2 (uh I1 q1 q2 q3 q4 q)
def Nh (wi:TI) (g:TG) (tb:TS):TS:=fun D σ H=>wi σ H fun J H1=>∃W:Nat→Nat→St→Hp→Prop,(∃m,W 0 m σ H1)∧∀i m σ H,W i m σ H→
 (J.stop i H∧D.nx σ H)∨(J.go i H∧∃N:St→Hp→Prop,(∀σ' H',N σ' H'→∃m',m'<m∧W (i+1) m' σ' H')∧∀x H',J.xU i H x H'→g x σ H' fun σ2 H2=>tb {D with nx:=N,ct:=N,bk:=D.nx} σ2 H2)
def kD (fp:List Addr) (h:Heap):List (Addr×Obj):=fp.filterMap fun b=>(h.get? b).map fun o=>(b,o)
theorem fT {fp:List Addr} {h:Heap} {b:Addr} {o:Obj} (hb:b∈fp) (e:h.get? b=some o):(b,o)∈kD fp h:=List.mem_filterMap.mpr ⟨b,hb,by rw[e];rfl⟩
theorem A0 {fp:List Addr} {h:Heap} {p:Addr×Obj} (hp:p∈kD fp h):p.1∈fp∧h.get? p.1=some p.2:=by
 obtain⟨b,hb,e⟩:=List.mem_filterMap.mp hp
 cases q:h.get? b with
 | none=>rw[q] at e;cases e
 | some o=>
  rw[q] at e
  have e':(b,o)=p:=Option.some.inj e
  subst e'
  exact⟨hb,q⟩
theorem Inv.pinned {pins:List (Addr×Obj)} {σ:St} {H:Hp} {s:Shared} {fp:List Addr} (I:Inv X pins σ H s) (hf:∀b∈fp,fA X pins H b) (ho:∀b∈fp,∃o,s.heap.get? b=some o∧∀v,o.data≠.cell v):Inv X (pins++kD fp s.heap) σ H s:=
 I.xS fun p hp=>(List.mem_append.mp hp).elim (fun z=>I.pin p (List.mem_append_right _ z)) fun z=>by
  obtain⟨hb,e⟩:=A0 z
  obtain⟨f0,f1,f2,_⟩:=hf p.1 hb
  obtain⟨o,e',d⟩:=ho p.1 hb
  rw[e] at e';cases e'
  exact⟨e,f0,f1,f2,d⟩
theorem Inv.ju {pins pl:List (Addr×Obj)} {σ:St} {H:Hp} {s:Shared} (I:Inv X (pins++pl) σ H s):Inv X pins σ H s:=I.xS fun p hp=>I.pin p (List.mem_append_right _ (List.mem_append_left _ hp))
theorem gX {iter:Expr} {body:List Stmt} {wi:TI} {g:TG} {tb:TS} {pos:Pos} (hp:PassesOwn (model X.prog X.w) X.A X.env X.xe) (hc:X.calm=true) (hi:PI X tg iter wi) (hg:PG X tg g) (hb:gL X body tb)
  (hs:∀x,foldedSetIterable iter X.env x=pure x:=by intro _;rfl):PS X (.For tg iter body [] pos) (Nh wi g tb):=by
 intro pins s σ H D I h
 refine wpAny_For (aG (hi pins s σ H _ I h) fun v s1 h1=>aG h1 fun itv s2 h2=>?_) hs
 obtain⟨it,fp,tn,J,H2,e,I2,T,st2,f2,W,⟨m0,w0⟩,turn⟩:=h2
 subst e
 have stat:∀{H':Hp},(∀b∈fp,H' b=none)→∀b∈fp,fA X pins H' b:=fun hn b hb=>⟨hn b hb,(f2 b hb).2⟩
 refine codeAny_forLoop_any (fun n s'=>∃i σ' H',Inv X pins σ' H' s'∧tn i s'.heap∧(∀b∈fp,H' b=none)∧W i n σ' H') ?_ m0 ⟨0,σ,H2,I2,st2,fun b hb=>(f2 b hb).1,w0⟩
 rintro n s3 ⟨i,σ3,H3,I3,st3,LI,w3⟩
 rcases turn i n σ3 H3 w3 with⟨stop,qn⟩ | ⟨go,N,hN,step⟩
 ·refine wpAny_passesOwn hp (aG (T.done X rfl rfl rfl hc i pins s3 σ3 H3 X.xe I3 (stat LI) st3 stop) fun r s4 ⟨hr,I4⟩=>?_)
  subst hr
  exact wpAny_execs_nil ⟨σ3,H3,I4,qn⟩
 ·refine wpAny_passesOwn hp (aG (T.item X rfl rfl rfl hc i pins s3 σ3 H3 X.xe I3 (stat LI) st3 go) fun r s4 ⟨u,hr,h4⟩=>?_)
  subst hr
  refine wpAny_passesOwn hp (aG h4 fun _ s5 ⟨x,H5,I5,r5,y5,o_,ui⟩=>?_)
  have QK:=I5.pinned (stat ui) (T.obj _ _ o_)
  refine wpAny_passesOwn hp (aG (hg _ s5 σ3 H5 x u _ QK r5 (step x H5 y5)) fun _ s6 ⟨σ6,H6,I6,q6⟩=>?_)
  refine wpAny_passesOwn hp (aG (hb _ s6 σ6 H6 _ I6 q6) fun f s7 q7=>?_)
  have again:∀{σ7:St} {H7:Hp},Inv X (pins++kD fp s5.heap) σ7 H7 s7→N σ7 H7→∃m,m<n∧∃i σ' H',Inv X pins σ' H' s7∧tn i s7.heap∧(∀b∈fp,H' b=none)∧W i m σ' H':=fun {σ7 H7} I7 n7=>by
   obtain⟨m',hm,w7⟩:=hN σ7 H7 n7
   refine⟨m',hm,i+1,σ7,H7,I7.ju,T.keep _ _ _ o_ fun b hb o e=>(I7.pin (b,o) (List.mem_append_right _ (List.mem_append_right _ (fT hb e)))).1,fun b hb=>?_,w7⟩
   obtain⟨o,e,d⟩:=T.obj _ _ o_ b hb
   exact(I7.pin (b,o) (List.mem_append_right _ (List.mem_append_right _ (fT hb e)))).2.1
  cases f with
  | next=>obtain⟨σ7,H7,I7,n7⟩:=q7;exact again I7 n7
  | cont=>obtain⟨σ7,H7,I7,n7⟩:=q7;exact again I7 n7
  | brk=>obtain⟨σ7,H7,I7,q7⟩:=q7;exact⟨σ7,H7,I7.ju,q7⟩
  | ret v=>obtain⟨x7,σ7,H7,I7,r7,q7⟩:=q7;exact⟨x7,σ7,H7,I7.ju,r7,q7⟩
end
theorem oJ {K:PySem.W.Frag} {a:Addr} {xs:List V} {g:TG} {tb:TS} {D:Ends} {σ:St} {H:Hp} (Pv:Nat→St→Hp→Prop) (h0:Pv 0 σ H) (hl:∀i σ H,i≤xs.length→Pv i σ H→cF K H a xs)
  (hs:∀i x σ H,xs[i]? =some x→Pv i σ H→g x σ H fun σ2 H2=>tb {D with nx:=Pv (i+1),ct:=Pv (i+1),bk:=D.nx} σ2 H2) (hd:∀σ H,Pv xs.length σ H→D.nx σ H):
  ∃W:Nat→Nat→St→Hp→Prop,(∃m,W 0 m σ H)∧∀i m σ H,W i m σ H→
   ((xV K a).stop i H∧D.nx σ H)∨((xV K a).go i H∧∃N:St→Hp→Prop,(∀σ' H',N σ' H'→∃m',m'<m∧W (i+1) m' σ' H')∧∀x H',(xV K a).xU i H x H'→g x σ H' fun σ2 H2=>tb {D with nx:=N,ct:=N,bk:=D.nx} σ2 H2):=by
 refine⟨fun i m σ H=>m=xs.length-i∧i≤xs.length∧Pv i σ H,⟨xs.length,by simp,Nat.zero_le _,h0⟩,?_⟩
 rintro i m σ H ⟨rfl,hi,p⟩
 have q:=hl i σ H hi p
 by_cases hlt:i<xs.length
 ·refine .inr ⟨⟨xs,xs[i],q,by simp[hlt]⟩,Pv (i+1),fun σ' H' p'=>⟨xs.length-(i+1),by omega,rfl,hlt,p'⟩,fun x H' y=>?_⟩
  obtain⟨e,y⟩:=y
  subst e
  exact hs i x σ _ (y xs q) p
 ·have e:i=xs.length:=by omega
  subst e
  exact .inl ⟨⟨xs,q,Nat.le_refl _⟩,hd σ H p⟩
theorem iM {lo:Int} {n:Nat} {g:TG} {tb:TS} {D:Ends} {σ:St} {H:Hp} (Pv:Nat→St→Hp→Prop) (h0:Pv 0 σ H)
  (hs:∀i σ H,i<n→Pv i σ H→g (.int (lo+i)) σ H fun σ2 H2=>tb {D with nx:=Pv (i+1),ct:=Pv (i+1),bk:=D.nx} σ2 H2) (hd:∀σ H,Pv n σ H→D.nx σ H):
  ∃W:Nat→Nat→St→Hp→Prop,(∃m,W 0 m σ H)∧∀i m σ H,W i m σ H→
   ((qY lo n).stop i H∧D.nx σ H)∨((qY lo n).go i H∧∃N:St→Hp→Prop,(∀σ' H',N σ' H'→∃m',m'<m∧W (i+1) m' σ' H')∧∀x H',(qY lo n).xU i H x H'→g x σ H' fun σ2 H2=>tb {D with nx:=N,ct:=N,bk:=D.nx} σ2 H2):=by
 refine⟨fun i m σ H=>m=n-i∧i≤n∧Pv i σ H,⟨n,by simp,Nat.zero_le _,h0⟩,?_⟩
 rintro i m σ H ⟨rfl,hi,p⟩
 by_cases hlt:i<n
 ·refine .inr ⟨hlt,Pv (i+1),fun σ' H' p'=>⟨n-(i+1),by omega,rfl,hlt,p'⟩,fun x H' y=>?_⟩
  obtain⟨e,y⟩:=y
  subst e y
  exact hs i σ _ hlt p
 ·have e:i=n:=by omega
  subst e
  exact .inl ⟨Nat.le_refl _,hd σ H p⟩
abbrev R2:=V→V→Hp→VK→Prop
def bW (X:Cx) (f:Value→Value→Sem Value) (r:R2):Prop:=
 ∀(pins:List (Addr×Obj)) (s:Shared) (σ:St) (H:Hp) (x y:V) (v u:Value) (Q:VK),Inv X pins σ H s→RelV x v→RelV y u→r x y H Q→
  wpAny (model X.prog X.w) X.A (f v u) (EP X pins σ Q) X.xe s
def G8 (X:Cx) (f:Value→Sem Value) (r:V→Hp→VK→Prop):Prop:=
 ∀(pins:List (Addr×Obj)) (s:Shared) (σ:St) (H:Hp) (x:V) (v:Value) (Q:VK),Inv X pins σ H s→RelV x v→r x H Q→
  wpAny (model X.prog X.w) X.A (f v) (EP X pins σ Q) X.xe s
def cZ (X:Cx) (f:Value) (r:List V→Hp→VK→Prop):Prop:=
 ∀(pins:List (Addr×Obj)) (s:Shared) (σ:St) (H:Hp) (xs:List V) (us:List Value) (Q:VK),Inv X pins σ H s→Vals xs us→r xs H Q→
  wpAny (model X.prog X.w) X.A (call f us) (EP X pins σ Q) X.xe s
def Ni (X:Cx) (r:V→Hp→(Bool→Hp→Prop)→Prop):Prop:=
 ∀(pins:List (Addr×Obj)) (s:Shared) (σ:St) (H:Hp) (x:V) (v:Value) (Q:Bool→Hp→Prop),Inv X pins σ H s→RelV x v→r x H Q→
  wpAny (model X.prog X.w) X.A (truthy v) (TP X pins σ Q) X.xe s
def A2 (r:R2) (ta tb:TE):TE:=fun σ H Q=>ta σ H fun x H1=>tb σ H1 fun y H2=>r x y H2 Q
def QL (r:V→Hp→VK→Prop) (ta:TE):TE:=fun σ H Q=>ta σ H fun x H1=>r x H1 Q
def rI (C:Int→Int→Prop) (g:Int→Int→V):R2:=fun x y H Q=>∃i j,x=.int i∧y=.int j∧C i j∧Q (g i j) H
def qZ (g:Int→Int→V):R2:=fun x y H Q=>∃i j,x=.int i∧y=.int j∧Q (g i j) H
def rU (g:Int→V):V→Hp→VK→Prop:=fun x H Q=>∃i,x=.int i∧Q (g i) H
section
variable {X:Cx} {a b c:Expr} {ta tb tc:TE} {pos:Pos}
theorem C8 (ha:PE X a ta) (hb:PE X b tb) {pins:List (Addr×Obj)} {s:Shared} {σ:St} {H:Hp} {R:V→V→Hp→Prop} (I:Inv X pins σ H s)
  (h:ta σ H fun x H1=>tb σ H1 fun y H2=>R x y H2) {Q:Value→Shared→Prop} {f:Value→Value→Sem Value}
  (hf:∀v u s2 x y H2,Inv X pins σ H2 s2→RelV x v→RelV y u→R x y H2→wpAny (model X.prog X.w) X.A (f v u) Q X.xe s2):
  wpAny (model X.prog X.w) X.A (eval a X.env) (fun v s₁=>wpAny (model X.prog X.w) X.A (eval b X.env) (fun u s₂=>wpAny (model X.prog X.w) X.A (f v u) Q X.xe s₂) X.xe s₁) X.xe s:=by
 refine aG (ha pins s σ H _ I h) fun v s1 ⟨x,H1,I1,r1,q1⟩=>?_
 refine aG (hb pins s1 σ H1 _ I1 q1) fun u s2 ⟨y,H2,I2,r2,q2⟩=>?_
 exact hf v u s2 x y H2 I2 r1 r2 q2
theorem ao {op:Operator} {r:R2} (ho:bW X (binaryOp op) r) (ha:PE X a ta) (hb:PE X b tb):PE X (.BinOp a op b pos) (A2 r ta tb):=by
 intro pins s σ H Q I h
 exact wpAny_BinOp (C8 ha hb I h fun v u s2 x y H2 I2 rx ry q=>ho pins s2 σ H2 x y v u Q I2 rx ry q)
theorem o5 {op:UnaryOp} {r:V→Hp→VK→Prop} (ho:G8 X (unaryOp op) r) (ha:PE X a ta):PE X (.UnaryOp op a pos) (QL r ta):=by
 intro pins s σ H Q I h
 exact UnaryOp_ (aG (ha pins s σ H _ I h) fun v s1 ⟨x,H1,I1,r1,q1⟩=>ho pins s1 σ H1 x v Q I1 r1 q1)
theorem El {f:Value→Value→Sem Value} {C:Int→Int→Prop} {g:Int→Int→Int}
  (rule:∀(i j:Int) (t u:Tok) (s:Shared) (Q:Value→Shared→Prop) (E:Value→Shared→Prop),C i j→Q (.int (g i j) s.toks) {s with toks:=s.toks+1}→wpAny (model X.prog X.w) X.A (f (.int i t) (.int j u)) Q E s):
  bW X f (rI C fun i j=>.int (g i j)):=by
 intro pins s σ H x y v u Q I rx ry h
 obtain⟨i,j,rfl,rfl,hc,q⟩:=h
 obtain⟨t,rfl⟩:=rx
 obtain⟨t',rfl⟩:=ry
 exact rule i j t t' s _ _ hc ⟨.int (g i j),H,I.tok _,⟨_,rfl⟩,q⟩
theorem G9 {f:Value→Value→Sem Value} {g:Int→Int→Int}
  (rule:∀(i j:Int) (t u:Tok) (s:Shared) (Q:Value→Shared→Prop) (E:Value→Shared→Prop),Q (.int (g i j) s.toks) {s with toks:=s.toks+1}→wpAny (model X.prog X.w) X.A (f (.int i t) (.int j u)) Q E s):
  bW X f (qZ fun i j=>.int (g i j)):=by
 intro pins s σ H x y v u Q I rx ry h
 obtain⟨i,j,rfl,rfl,q⟩:=h
 obtain⟨t,rfl⟩:=rx
 obtain⟨t',rfl⟩:=ry
 exact rule i j t t' s _ _ ⟨.int (g i j),H,I.tok _,⟨_,rfl⟩,q⟩
theorem yU {f:Value→Value→Sem Value} {g:Int→Int→Bool}
  (rule:∀(i j:Int) (t u:Tok) (s:Shared) (Q:Value→Shared→Prop) (E:Value→Shared→Prop),Q (.bool (g i j)) s→wpAny (model X.prog X.w) X.A (f (.int i t) (.int j u)) Q E s):
  bW X f (qZ fun i j=>.bl (g i j)):=by
 intro pins s σ H x y v u Q I rx ry h
 obtain⟨i,j,rfl,rfl,q⟩:=h
 obtain⟨t,rfl⟩:=rx
 obtain⟨t',rfl⟩:=ry
 exact rule i j t t' s _ _ ⟨.bl (g i j),H,I,rfl,q⟩
def Nj (i j:Int):Prop:=0≤j∧j≤1000000∧i.natAbs<2 ^ 64
def yV (i j:Int):Prop:=(-(2 ^ 64)<i∧i<2 ^ 64)∨(-(2 ^ 64)<j∧j<2 ^ 64)
theorem yV.ok {i j:Int} (h:yV i j):IntMulOk i j:=by
 rcases h with⟨h1,h2⟩ | ⟨h1,h2⟩
 ·exact .of_left (intBits_le_64 h1 h2)
 ·exact .of_right (intBits_le_64 h1 h2)
theorem cp:bW X (binaryOp .Add) (qZ fun i j=>.int (i+j)):=G9 fun _ _ _ _ _ _ _ q=>add_int q
theorem jv:bW X (binaryOp .Sub) (qZ fun i j=>.int (i-j)):=G9 fun _ _ _ _ _ _ _ q=>sub_int q
theorem fF:bW X (binaryOp .Mult) (rI yV fun i j=>.int (i*j)):=El fun _ _ _ _ _ _ _ hc q=>mul_int q hc.ok
theorem G':bW X (binaryOp .Mod) (rI (fun _ j=>0<j) fun i j=>.int (i % j)):=El fun i j _ _ _ _ _ hc q=>by
 have h1:(0:Int)<j:=hc
 exact mod_int' (by omega) (by rw[Int.fmod_eq_emod_of_nonneg i (by omega)];exact q)
theorem Hb:bW X (binaryOp .Pow) (rI Nj fun i j=>.int (i ^ j.toNat)):=El fun _ _ _ _ _ _ _ hc q=>pow_int_small hc.1 hc.2.1 hc.2.2 q
theorem QM {f:Value→Sem Value} {g:Int→Int}
  (rule:∀(i:Int) (t:Tok) (s:Shared) (Q:Value→Shared→Prop) (E:Value→Shared→Prop),Q (.int (g i) s.toks) {s with toks:=s.toks+1}→wpAny (model X.prog X.w) X.A (f (.int i t)) Q E s):
  G8 X f (rU fun i=>.int (g i)):=by
 intro pins s σ H x v Q I rx h
 obtain⟨i,rfl,q⟩:=h
 obtain⟨t,rfl⟩:=rx
 exact rule i t s _ _ ⟨.int (g i),H,I.tok _,⟨_,rfl⟩,q⟩
theorem mQ:G8 X (unaryOp .USub) (rU fun i=>.int (-i)):=QM fun _ _ _ _ _ q=>neg_int q
end
def Hc:V→V→Bool
 | .non,.non=>true | .non,.int _=>true | .int _,.non=>true | .non,.bl _=>true | .bl _,.non=>true | .non,.str _=>true | .str _,.non=>true
 | .int _,.int _=>true | .bl _,.bl _=>true | .str _,.str _=>true | .iK _,.iK _=>true
 | .int _,.str _=>true | .str _,.int _=>true | .bl _,.str _=>true | .str _,.bl _=>true
 | _,_=>false
def QN:R2:=fun x y H Q=>Hc x y=true∧Q (.bl (decide (x=y))) H
def QO:R2:=fun x y H Q=>Hc x y=true∧Q (.bl (!decide (x=y))) H
theorem xW {i j:Int}:decide (V.int i=V.int j)=(i == j):=by
 rw[Bool.eq_iff_iff]
 simp
theorem A3 {i j:Bool}:decide (V.bl i=V.bl j)=(i == j):=by
 rw[Bool.eq_iff_iff]
 simp
theorem xX {i j:Str}:decide (V.str i=V.str j)=(i == j):=by
 rw[Bool.eq_iff_iff]
 simp
theorem xY {i j:Array UInt8}:decide (V.iK i=V.iK j)=(i.toList == j.toList):=by
 rw[Bool.eq_iff_iff]
 cases i
 cases j
 simp
section
variable {X:Cx} {a b c:Expr} {ta tb tc:TE} {pos:Pos}
theorem bB {pins:List (Addr×Obj)} {σ:St} {H:Hp} {s:Shared} {Q:VK} {k k':Bool} (I:Inv X pins σ H s) (q:Q (.bl k) H) (e:k=k'):EP X pins σ Q (.bool k') s:=by
 subst e
 exact⟨.bl k,H,I,rfl,q⟩
theorem dZ:bW X (compareOp .Eq) QN:=by
 intro pins s σ H x y v u Q I rx ry h
 obtain⟨hs,q⟩:=h
 cases x with
 | non=>
  cases rx
  cases y with
  | non=>cases ry;exact PySem.EqNone.eq_none_none (bB I q (by simp))
  | bl j=>cases ry;exact PySem.EqNone.eq_none_bool (bB I q (by simp))
  | int j=>obtain⟨t',rfl⟩:=ry;exact PySem.EqNone.eq_none_int (bB I q (by simp))
  | str j=>obtain⟨t',rfl⟩:=ry;exact PySem.EqNone.eq_none_str (bB I q (by simp))
  | _=>exact absurd (show false=true from hs) Bool.false_ne_true
 | bl i=>
  cases rx
  cases y with
  | non=>cases ry;exact PySem.EqNone.eq_bool_none (bB I q (by simp))
  | bl j=>cases ry;exact eq_bool (bB I q A3)
  | str j=>obtain⟨t',rfl⟩:=ry;exact PySem.EqMixed.eq_bool_str (bB I q (by simp))
  | _=>exact absurd (show false=true from hs) Bool.false_ne_true
 | int i=>
  obtain⟨t,rfl⟩:=rx
  cases y with
  | non=>cases ry;exact PySem.EqNone.eq_int_none (bB I q (by simp))
  | int j=>obtain⟨t',rfl⟩:=ry;exact eq_int (bB I q xW)
  | str j=>obtain⟨t',rfl⟩:=ry;exact PySem.EqMixed.eq_int_str (bB I q (by simp))
  | _=>exact absurd (show false=true from hs) Bool.false_ne_true
 | str i=>
  obtain⟨t,rfl⟩:=rx
  cases y with
  | non=>cases ry;exact PySem.EqNone.eq_str_none (bB I q (by simp))
  | bl j=>cases ry;exact PySem.EqMixed.eq_str_bool (bB I q (by simp))
  | int j=>obtain⟨t',rfl⟩:=ry;exact PySem.EqMixed.eq_str_int (bB I q (by simp))
  | str j=>obtain⟨t',rfl⟩:=ry;exact eq_str (bB I q xX)
  | _=>exact absurd (show false=true from hs) Bool.false_ne_true
 | iK i=>
  obtain⟨t,rfl⟩:=rx
  cases y with
  | iK j=>obtain⟨t',rfl⟩:=ry;exact PySem.W.eq_bytes (bB I q xY)
  | _=>exact absurd (show false=true from hs) Bool.false_ne_true
 | _=>cases y<;>exact absurd (show false=true from hs) Bool.false_ne_true
theorem iC:bW X (compareOp .NotEq) QO:=by
 intro pins s σ H x y v u Q I rx ry h
 obtain⟨hs,q⟩:=h
 cases x with
 | non=>
  cases rx
  cases y with
  | non=>cases ry;exact PySem.EqNone.ne_none_none (bB I q (by simp))
  | bl j=>cases ry;exact PySem.EqNone.ne_none_bool (bB I q (by simp))
  | int j=>obtain⟨t',rfl⟩:=ry;exact PySem.EqNone.ne_none_int (bB I q (by simp))
  | str j=>obtain⟨t',rfl⟩:=ry;exact PySem.EqNone.ne_none_str (bB I q (by simp))
  | _=>exact absurd (show false=true from hs) Bool.false_ne_true
 | bl i=>
  cases rx
  cases y with
  | non=>cases ry;exact PySem.EqNone.ne_bool_none (bB I q (by simp))
  | bl j=>cases ry;exact ne_bool (bB I q (congrArg not A3))
  | str j=>obtain⟨t',rfl⟩:=ry;exact PySem.EqMixed.ne_bool_str (bB I q (by simp))
  | _=>exact absurd (show false=true from hs) Bool.false_ne_true
 | int i=>
  obtain⟨t,rfl⟩:=rx
  cases y with
  | non=>cases ry;exact PySem.EqNone.ne_int_none (bB I q (by simp))
  | int j=>obtain⟨t',rfl⟩:=ry;exact ne_int (bB I q (congrArg not xW))
  | str j=>obtain⟨t',rfl⟩:=ry;exact PySem.EqMixed.ne_int_str (bB I q (by simp))
  | _=>exact absurd (show false=true from hs) Bool.false_ne_true
 | str i=>
  obtain⟨t,rfl⟩:=rx
  cases y with
  | non=>cases ry;exact PySem.EqNone.ne_str_none (bB I q (by simp))
  | bl j=>cases ry;exact PySem.EqMixed.ne_str_bool (bB I q (by simp))
  | int j=>obtain⟨t',rfl⟩:=ry;exact PySem.EqMixed.ne_str_int (bB I q (by simp))
  | str j=>obtain⟨t',rfl⟩:=ry;exact ne_str (bB I q (congrArg not xX))
  | _=>exact absurd (show false=true from hs) Bool.false_ne_true
 | iK i=>
  obtain⟨t,rfl⟩:=rx
  cases y with
  | iK j=>obtain⟨t',rfl⟩:=ry;exact PySem.W.ne_bytes (bB I q (congrArg not xY))
  | _=>exact absurd (show false=true from hs) Bool.false_ne_true
 | _=>cases y<;>exact absurd (show false=true from hs) Bool.false_ne_true
theorem o6:bW X (compareOp .Lt) (qZ fun i j=>.bl (decide (i<j))):=yU fun _ _ _ _ _ _ _ q=>lt_int q
theorem o7:bW X (compareOp .LtE) (qZ fun i j=>.bl (decide (i≤j))):=yU fun _ _ _ _ _ _ _ q=>le_int q
theorem nL:bW X (compareOp .Gt) (qZ fun i j=>.bl (decide (j<i))):=yU fun _ _ _ _ _ _ _ q=>gt_int q
theorem Ke:bW X (compareOp .GtE) (qZ fun i j=>.bl (decide (j≤i))):=yU fun _ _ _ _ _ _ _ q=>ge_int q
theorem A4:bW X (compareOp .In) (fun x y H Q=>∃i j,x=.str i∧y=.str j∧Q (.bl (!(Builtin.Str.occurrences j i 0 j.length 1).isEmpty)) H):=by
 intro pins s σ H x y v u Q I rx ry h
 obtain⟨i,j,rfl,rfl,q⟩:=h
 obtain⟨t,rfl⟩:=rx
 obtain⟨t',rfl⟩:=ry
 exact in_str (bB I q rfl)
theorem uj:bW X (compareOp .NotIn) (fun x y H Q=>∃i j,x=.str i∧y=.str j∧Q (.bl (!(!(Builtin.Str.occurrences j i 0 j.length 1).isEmpty))) H):=by
 intro pins s σ H x y v u Q I rx ry h
 obtain⟨i,j,rfl,rfl,q⟩:=h
 obtain⟨t,rfl⟩:=rx
 obtain⟨t',rfl⟩:=ry
 exact notIn_str (bB I q rfl)
theorem aR (b:Expr) {op:CmpOp} (h:op≠.In:=by decide) (h2:op≠.NotIn:=by decide):behindInMarks op b=false:=by
 have e1:(op == CmpOp.In)=false:=by cases op<;>first | rfl | exact absurd rfl h
 have e2:(op == CmpOp.NotIn)=false:=by cases op<;>first | rfl | exact absurd rfl h2
 cases b<;>simp[behindInMarks,e1,e2]
theorem jk {op:CmpOp} {r:R2} (ho:bW X (compareOp op) r) (ha:PE X a ta) (hb:PE X b tb) (hm:behindInMarks op b=false):PE X (.Compare a [op] [b] pos) (A2 r ta tb):=by
 intro pins s σ H Q I h
 exact wpAny_Compare1 (C8 ha hb I h fun v u s2 x y H2 I2 rx ry q=>ho pins s2 σ H2 x y v u Q I2 rx ry q) hm
def Em (t:TE):TT:=fun σ H Q=>t σ H fun x H'=>∃k,x=.bl k∧Q k H'
theorem aL {op:CmpOp} {r:R2} (ho:bW X (compareOp op) r) (ha:PE X a ta) (hb:PE X b tb) (hm:behindInMarks op b=false):PT X (.Compare a [op] [b] pos) (Em (A2 r ta tb)):=by
 intro pins s σ H Q I h
 refine wpAny_isTrue_Compare1 (aG (ha pins s σ H _ I h) fun v s1 ⟨x,H1,I1,r1,q1⟩=>aG (hb pins s1 σ H1 _ I1 q1) fun u s2 ⟨y,H2,I2,r2,q2⟩=>
  aG (ho pins s2 σ H2 x y v u _ I2 r1 r2 q2) fun c s3 ⟨z,H3,I3,r3,k,e,q3⟩=>?_) hm
 subst e
 cases r3
 exact wpAny_truthy_bool ⟨H3,I3,q3⟩
def A5 (r r':R2) (ta tb tc:TE):TE:=fun σ H Q=>ta σ H fun x H1=>tb σ H1 fun y H2=>r x y H2 fun z H3=>∃k,z=.bl k∧
 (if k=true then tc σ H3 fun w' H4=>r' y w' H4 Q else Q (.bl false) H3)
theorem C9 {op op':CmpOp} {r r':R2} (ho:bW X (compareOp op) r) (ho':bW X (compareOp op') r') (ha:PE X a ta) (hb:PE X b tb) (hc:PE X c tc)
  (hm:lastMarks [op,op'] [b,c]=false:=by with_unfolding_all rfl):PE X (.Compare a [op,op'] [b,c] pos) (A5 r r' ta tb tc):=by
 intro pins s σ H Q I h
 refine Compare_chain (aG (ha pins s σ H _ I h) fun v s1 ⟨x,H1,I1,r1,q1⟩=>chain_link (aG (hb pins s1 σ H1 _ I1 q1) fun u s2 ⟨y,H2,I2,r2,q2⟩=>
  aG (ho pins s2 σ H2 x y v u _ I2 r1 r2 q2) fun d s3 ⟨z,H3,I3,r3,k,e,q3⟩=>?_)) hm
 subst e
 cases r3
 refine wpAny_truthy_bool ?_
 cases k with
 | false=>exact ite_ff ⟨.bl false,H3,I3,rfl,q3⟩
 | true=>exact ite_tt (chain_last (aG (hc pins s3 σ H3 _ I3 q3) fun w' s4 ⟨z',H4,I4,r4,q4⟩=>ho' pins s4 σ H4 y z' u w' Q I4 r2 r4 q4))
theorem uk {op op':CmpOp} {r r':R2} (ho:bW X (compareOp op) r) (ho':bW X (compareOp op') r') (ha:PE X a ta) (hb:PE X b tb) (hc:PE X c tc)
  (hm:lastMarks [op,op'] [b,c]=false:=by with_unfolding_all rfl):PT X (.Compare a [op,op'] [b,c] pos) (Em (A5 r r' ta tb tc)):=by
 intro pins s σ H Q I h
 refine isTrue_chain (aG (ha pins s σ H _ I h) fun v s1 ⟨x,H1,I1,r1,q1⟩=>test_link (aG (hb pins s1 σ H1 _ I1 q1) fun u s2 ⟨y,H2,I2,r2,q2⟩=>
  aG (ho pins s2 σ H2 x y v u _ I2 r1 r2 q2) fun d s3 ⟨z,H3,I3,r3,k,e,q3⟩=>?_)) hm
 subst e
 cases r3
 refine wpAny_truthy_bool ?_
 cases k with
 | false=>
  obtain⟨k',e',q'⟩:=q3
  cases e'
  exact ite_ff ⟨H3,I3,q'⟩
 | true=>
  refine ite_tt (test_last (aG (hc pins s3 σ H3 _ I3 q3) fun w' s4 ⟨z',H4,I4,r4,q4⟩=>aG (ho' pins s4 σ H4 y z' u w' _ I4 r2 r4 q4) fun d' s5 ⟨z2,H5,I5,r5,k2,e2,q5⟩=>?_))
  subst e2
  cases r5
  exact wpAny_truthy_bool ⟨H5,I5,q5⟩
def He (K:PySem.W.Frag) (x:V) (H:Hp) (k:Bool):Prop:=
 match x with
 | .non=>k=false
 | .bl b=>k=b
 | .int i=>k=(i != 0)
 | .str y=>y.length≤sizeLine∧k=((y.length:Int) != 0)
 | .iK y=>y.size≤sizeLine∧k=((y.size:Int) != 0)
 | .ref p=>(∃xs,cF K H p xs∧k= !xs.isEmpty)∨(∃xs,bP K H p xs∧k= !xs.isEmpty)∨∃kvs,H p=some (.dK kvs)∧k= !kvs.isEmpty
 | _=>False
theorem yW {κ:Type} {kvs:List (κ×V)} {vs:List (κ×Value)} (r:KV kvs vs):(!vs.isEmpty)= !kvs.isEmpty:=by
 cases r<;>rfl
theorem o8 {xs:List V} {its:List Value} (r:Vals xs its):(!its.toArray.isEmpty)= !xs.isEmpty:=by
 cases r<;>simp
theorem kF:(sizeLine:Nat)<2 ^ 63:=by rw[sizeLine_eq];decide
theorem Hf:Ni X (fun x H Q=>∃k,He X.K x H k∧Q k H):=by
 intro pins s σ H x v Q I rx h
 obtain⟨k,e,q⟩:=h
 have hl:=kF
 have hs:sizeLine=16777216:=sizeLine_eq
 cases x with
 | non=>
  cases rx
  have e':k=false:=e
  subst e'
  exact truthy_none ⟨H,I,q⟩
 | bl b=>
  cases rx
  have e':k=b:=e
  subst e'
  exact wpAny_truthy_bool ⟨H,I,q⟩
 | int i=>
  obtain⟨t,rfl⟩:=rx
  have e':k=(i != 0):=e
  subst e'
  exact PySem.P.truthy_int ⟨H,I,q⟩
 | str y=>
  obtain⟨t,rfl⟩:=rx
  obtain⟨hy,e'⟩:y.length≤sizeLine∧k=((y.length:Int) != 0):=e
  subst e'
  exact PySem.P.truthy_str (by omega) ⟨H,I.tok _,q⟩
 | iK y=>
  obtain⟨t,rfl⟩:=rx
  obtain⟨hy,e'⟩:y.size≤sizeLine∧k=((y.size:Int) != 0):=e
  subst e'
  exact PySem.W.truthy_bytes (by omega) ⟨H,I.tok _,q⟩
 | ref p=>
  cases rx
  have e':(∃xs,cF X.K H p xs∧k= !xs.isEmpty)∨(∃xs,bP X.K H p xs∧k= !xs.isEmpty)∨∃kvs,H p=some (.dK kvs)∧k= !kvs.isEmpty:=e
  rcases e' with⟨xs,hx,e'⟩ | ⟨xs,hx,e'⟩ | ⟨kvs,hx,e'⟩
  ·subst e'
   obtain⟨its,r,pl,hz⟩:=I.list hx
   have hlen:=r.length
   exact wpAny_truthy_list pl.isList (by simp only[List.size_toArray];omega) ⟨H,I.tok _,by rw[o8 r];exact q⟩
  ·subst e'
   obtain⟨its,r,pl,hz⟩:=I.tuple hx
   have hlen:=r.length
   exact truthy_tuple pl (by simp only[List.size_toArray];omega) ⟨H,I.tok _,by rw[o8 r];exact q⟩
  ·subst e'
   obtain⟨hz,hS,vs,r,m⟩:kvs.length≤sizeLine∧(p == sysModules)=false∧∃vs,KV kvs vs∧s.heap.DictOf (bq X.prog X.w) p vs:=I.hok p _ hx
   have hlen:kvs.length=vs.length:=Paired.length r
   exact wpAny_truthy_dict hS m (by omega) ⟨H,I.tok _,by rw[yW r];exact q⟩
 | _=>exact(show False from e).elim
theorem lG (ha:PE X a ta) (he:∀whole,isTrue a X.env whole=(do let v ←whole;standAt a.pos;holding [v] (truthy v))):
  PT X a (fun σ H Q=>ta σ H fun x H'=>∃k,He X.K x H' k∧Q k H'):=by
 intro pins s σ H Q I h
 exact isTrue_plain (aG (ha pins s σ H _ I h) fun v s1 ⟨x,H1,I1,r1,q1⟩=>Hf pins s1 σ H1 x v Q I1 r1 q1) (he _)
theorem bb:bW X (binaryOp .Add) (fun x y H Q=>∃i j,x=.str i∧y=.str j∧i.length+j.length≤sizeLine∧Q (.str (i++j)) H):=by
 intro pins s σ H x y v u Q I rx ry h
 obtain⟨i,j,rfl,rfl,hz,q⟩:=h
 obtain⟨t,rfl⟩:=rx
 obtain⟨t',rfl⟩:=ry
 exact add_str (fun t' tk=>⟨.str (i++j),H,I.tok _,⟨_,rfl⟩,q⟩) hz
theorem vals1 {x:V} {us:List Value} (r:Vals [x] us):∃u,us=[u]∧RelV x u:=by
 cases r with
 | cons r1 r2=>cases r2;exact⟨_,rfl,r1⟩
theorem vals2 {x y:V} {us:List Value} (r:Vals [x,y] us):∃u w',us=[u,w']∧RelV x u∧RelV y w':=by
 cases r with
 | cons r1 r2=>
  cases r2 with
  | cons r3 r4=>cases r4;exact⟨_,_,rfl,r1,r3⟩
theorem q_ (hc:X.calm=true):cZ X (.builtin "min") (fun xs H Q=>∃i j,xs=[.int i,.int j]∧Q (.int (if j<i then j else i)) H):=by
 intro pins s σ H xs us Q I r h
 obtain⟨i,j,rfl,q⟩:=h
 obtain⟨u,w',rfl,⟨t,rfl⟩,⟨t',rfl⟩⟩:=vals2 r
 refine min_two_ints (I.ok.hd hc) fun h' tk k=>⟨_,H,I.kept k,?_,q⟩
 by_cases hj:j<i
 ·rw[if_pos hj,if_pos hj];exact⟨_,rfl⟩
 ·rw[if_neg hj,if_neg hj];exact⟨_,rfl⟩
theorem mR:cZ X (.type "int") (fun xs H Q=>(∃i,xs=[.int i]∧Q (.int i) H)∨∃k,xs=[.bl k]∧Q (.int (if k then 1 else 0)) H):=by
 intro pins s σ H xs us Q I r h
 rcases h with⟨i,rfl,q⟩ | ⟨k,rfl,q⟩
 ·obtain⟨u,rfl,t,rfl⟩:=vals1 r
  exact call_int_int ⟨.int i,H,I,⟨_,rfl⟩,q⟩
 ·obtain⟨u,rfl,r1⟩:=vals1 r
  cases r1
  exact call_int_bool ⟨.int (if k then 1 else 0),H,I.tok _,⟨_,rfl⟩,q⟩
theorem gY:cZ X (.type "str") (fun xs H Q=>∃i,xs=[.int i]∧i.natAbs.log2<1920∧Q (.str (toString i)) H):=by
 intro pins s σ H xs us Q I r h
 obtain⟨i,rfl,hz,q⟩:=h
 obtain⟨u,rfl,t,rfl⟩:=vals1 r
 exact PySem.P.str_of_int hz ⟨.str _,H,I.tok _,⟨_,rfl⟩,q⟩
def Dc (K:PySem.W.Frag) (x:V) (H:Hp) (n:Nat):Prop:=
 match x with
 | .str y=>y.length≤sizeLine∧n=y.length
 | .iK y=>y.size≤sizeLine∧n=y.size
 | .ref p=>(∃xs,cF K H p xs∧n=xs.length)∨∃xs,bP K H p xs∧n=xs.length
 | _=>False
theorem Dd:cZ X (.builtin "len") (fun xs H Q=>∃x n,xs=[x]∧Dc X.K x H n∧Q (.int n) H):=by
 intro pins s σ H xs us Q I r h
 obtain⟨x,n,rfl,e,q⟩:=h
 obtain⟨u,rfl,rx⟩:=vals1 r
 have hl:=kF
 have hs:sizeLine=16777216:=sizeLine_eq
 cases x with
 | str y=>
  obtain⟨t,rfl⟩:=rx
  obtain⟨hy,e'⟩:y.length≤sizeLine∧n=y.length:=e
  subst e'
  exact len_str (by omega) ⟨.int _,H,I.tok _,⟨_,rfl⟩,q⟩
 | iK y=>
  obtain⟨t,rfl⟩:=rx
  obtain⟨hy,e'⟩:y.size≤sizeLine∧n=y.size:=e
  subst e'
  exact PySem.W.len_bytes (by omega) ⟨.int _,H,I.tok _,⟨_,rfl⟩,q⟩
 | ref p=>
  cases rx
  have e':(∃xs,cF X.K H p xs∧n=xs.length)∨∃xs,bP X.K H p xs∧n=xs.length:=e
  rcases e' with⟨xs,hx,e'⟩ | ⟨xs,hx,e'⟩
  ·subst e'
   obtain⟨its,r',pl,hz⟩:=I.list hx
   have hlen:=r'.length
   exact Calls.call_len_list pl.isList (by simp only[List.size_toArray];omega) ⟨.int xs.length,H,I.tok _,⟨_,by simp only[List.size_toArray];rw[hlen]⟩,q⟩
  ·subst e'
   obtain⟨its,r',pl,hz⟩:=I.tuple hx
   have hlen:=r'.length
   exact len_tuple pl (by simp only[List.size_toArray];omega) ⟨.int xs.length,H,I.tok _,⟨_,by simp only[List.size_toArray];rw[hlen]⟩,q⟩
 | _=>exact(show False from e).elim
end
theorem rg {h:Heap} {dx:Addr} {mA:Str→Option Value} (n:h.Ns1 dx mA):∃od,h.get? dx=some od∧∀name,PySem.W.lookIn name od=some (mA name):=by
 obtain⟨o,es,ep,ho,hd,hk,_,hm⟩:=n
 refine⟨o,ho,fun name=>?_⟩
 have e:=hm name
 unfold nsFind findBy at e
 rw[←Array.find?_toList] at e
 unfold PySem.W.lookIn
 rw[hd]
 dsimp only
 split
 ·rename_i y q
  rw[q] at e
  exact congrArg some e
 ·rename_i q
  rw[q] at e
  have a:es.toList.any (·.refKey)=false:=by
   rw[List.any_eq_false]
   intro y hy
   obtain⟨z,t,hkey⟩:=hk y (Array.mem_toList_iff.mp hy)
   simp[DictEntry.refKey,hkey]
  have a':¬es.toList.any (·.refKey)=true:=by rw[a];exact Bool.false_ne_true
  rw[if_neg a']
  exact congrArg some e
theorem ic.some_of {v:V} {o:Option Value} (r:ic (some v) o):∃u,o=some u∧RelV v u:=by
 cases o with
 | none=>exact(show False from r).elim
 | some u=>exact⟨u,rfl,r⟩
theorem A6 {v:V} {u:Value} (r:RelV v u):PySem.W.handedIn u=true:=by
 cases v with
 | non=>cases(show u=Value.none from r);rfl
 | bl b=>cases(show u=Value.bool b from r);rfl
 | int i=>obtain⟨t,e⟩:=(show ∃t,u=Value.int i t from r);cases e;rfl
 | str x=>obtain⟨t,e⟩:=(show ∃t,u=Value.str x t from r);cases e;rfl
 | iK b=>obtain⟨t,e⟩:=(show ∃t,u=Value.bytes b t from r);cases e;rfl
 | flt b=>obtain⟨t,e⟩:=(show ∃t,u=Value.float b t from r);cases e;rfl
 | ref a=>cases(show u=Value.ref a from r);rfl
 | ty n=>cases(show u=Value.type n from r);rfl
section
variable {X:Cx} {pins:List (Addr×Obj)} {σ:St} {H:Hp} {s:Shared} {a C dx:Addr} {fs:List (Str×V)} {f:Str} {v:V} {A:Around} {E:Value→Shared→Prop}
theorem FH {prog:Program} {w:World} {env:Env} {e:Expr} {f:Str} {pos:Pos} {s:Shared} {Q:Value→Shared→Prop} (hb:attributeBase e f env (eval e env)=eval e env)
  (h:wpAny (model prog w) A (eval e env) (fun o s₁=>wpAny (model prog w) A (getAttr o f true) Q E s₁) E s):wpAny (model prog w) A (eval (.Attribute e f pos) env) Q E s:=
 Attribute_any_ h (by rw[arm_eval_Attribute,hb])
end
structure aO (k:Nat) (A:Around):Prop where
 hd:A.handled=none
 dp:A.depth+3*k+5<recursionLimit
 un:A.units+16*k+200<cLine
 gd:A.guards=some []
theorem aO.mono {j k:Nat} {A:Around} (r:aO k A) (h:j≤k):aO j A:=⟨r.hd,by have:=r.dp;omega,by have:=r.un;omega,r.gd⟩
theorem aO.deeper {k:Nat} {A:Around} (r:aO (k+1) A) (env:Env):aO k (A.deeper env):=
 ⟨r.hd,by have:=r.dp;show A.depth+1+3*k+5<_;omega,by have:=r.un;show A.units+3+16*k+200<_;omega,r.gd⟩
theorem yX {A:Around} {C:Addr} {us:List Value} {kw:List (Str×Value)}:(A.under (.builtin "type.__call__" ⟨.ref C::us,kw⟩)).depth=A.depth+1:=by
 first | rfl | simp[Around.under,Code.weight,Code.isCreation,Code.isGuard,Code.isCaller,Code.frames,Code.isFrame,guardIds]
theorem yY {A:Around} {C:Addr} {us:List Value} {kw:List (Str×Value)}:(A.under (.builtin "type.__call__" ⟨.ref C::us,kw⟩)).units=A.units+1:=by
 first | rfl | simp[Around.under,Code.cUnits,Code.frames,Code.isFrame]
theorem aO.make {k:Nat} {A:Around} (r:aO (k+1) A) (C:Addr) (us:List Value) (kw:List (Str×Value)):aO k (A.under (.builtin "type.__call__" ⟨.ref C::us,kw⟩)):=
 ⟨r.hd,by have:=r.dp;rw[yX];omega,by have:=r.un;rw[yY];omega,by first | exact r.gd | (show pushGuards _ A.guards=_;rw[r.gd];rfl) | simp[Around.under,r.gd]⟩
theorem aO.depth {k:Nat} {A:Around} (r:aO k A):A.depth<recursionLimit:=by have:=r.dp;omega
theorem aO.units {k:Nat} {A:Around} (r:aO k A):A.units+64<cLine:=by have:=r.un;omega
def qg:TA:=fun _ H Q=>Q [] H
def tW (ta:TE) (tr:TA):TA:=fun σ H Q=>ta σ H fun x H1=>tr σ H1 fun xs H2=>Q (x::xs) H2
section
variable {X:Cx} {e:Expr} {es:List Expr} {te:TE} {t:TA} {pos:Pos}
theorem ag:PA X [] qg:=fun _ _ _ _ H Q I h=>Calls.spliced_nil ⟨[],H,I,.nil,h⟩
theorem ae (ha:PE X e te) (hr:PA X es t) (hs:starEach (e::es) X.env=(false,eval e X.env)::starEach es X.env:=by rfl):PA X (e::es) (tW te t):=by
 intro pos pins s σ H Q I h
 rw[hs]
 show wpAny _ _ (spliced ((false,eval e X.env)::backTo pos (starEach es X.env))) _ _ s
 refine Calls.spliced_cons (aG (ha pins s σ H _ I h) fun u s1 ⟨x,H1,I1,r1,q1⟩=>?_)
 exact aG (hr pos pins s1 σ H1 _ I1 q1) fun us s2 ⟨xs,H2,I2,r2,q2⟩=>⟨x::xs,H2,I2,.cons r1 r2,q2⟩
def Nk (t:TA):TE:=fun σ H Q=>t σ H fun xs H1=>xs.length≤sizeLine∧∀p,H1 p=none→Q (.ref p) (upd H1 p (.tup xs))
def Hg (t:TA):TE:=fun σ H Q=>t σ H fun xs H1=>xs.length≤sizeLine∧∀p,H1 p=none→Q (.ref p) (upd H1 p (.lst xs))
theorem cU {x1} (h:PA X es t):PE X (.Tuple es x1 pos) (Nk t):=by
 intro pins s σ H Q I hq
 refine wpAny_Tuple_spliced (aG (h pos pins s σ H _ I hq) fun us s1 ⟨xs,H1,I1,r,z,q⟩=>⟨by rw[←r.length];exact z,?_⟩)
 have hf:H1 s1.heap.objs.size=none:=I1.hok.fresh (Nat.le_refl _)
 refine⟨.ref s1.heap.objs.size,upd H1 s1.heap.objs.size (.tup xs),I1.laid (t':=s1.toks) (fun b u e=>Heap.get?_push_of_some _ e) (Nat.le_refl _) ?_,rfl,q _ hf⟩
 exact⟨⟨z,_,Heap.get?_push_size _ rfl,rfl⟩,us,r,⟨_,Heap.get?_push_size _ rfl,rfl,_,rfl⟩⟩
theorem bo (h:PA X es t):PE X (.List es pos) (Hg t):=by
 intro pins s σ H Q I hq
 refine wpAny_List_spliced (aG (h pos pins s σ H _ I hq) fun us s1 ⟨xs,H1,I1,r,z,q⟩=>⟨by rw[←r.length];exact z,?_⟩)
 have hf:H1 s1.heap.objs.size=none:=I1.hok.fresh (Nat.le_refl _)
 refine⟨.ref s1.heap.objs.size,upd H1 s1.heap.objs.size (.lst xs),I1.laid (t':=s1.toks) (fun b u e=>Heap.get?_push_of_some _ e) (Nat.le_refl _) ?_,rfl,q _ hf⟩
 exact⟨z,us,0,r,Heap.get?_push_size _ rfl⟩
end
abbrev Sp:=List V→Hp→VK→XK→Prop
abbrev mS:=List Env→Hp→Shared→XK→Value→Shared→Prop
structure oK (P:Program) (w:World) (K:PySem.W.Frag) (mg:Str→Option Value) (base:Heap) (A:Around) (outer:List Env) (s:Shared) (H:Hp):Prop where
 frames:A.frames=some outer
 mod:Mod K mg base
 bs:∀b o,base.get? b=some o→s.heap.get? b=some o∧H b=none
 n5:base.objs.size≤s.heap.objs.size
 ie:s.heap.FunFrames base outer
 qW:∀b∈frs outer,H b=none
 hok:du P w H s.heap
 bare:AllBare s.gens
def CE (outer:List Env) (P:Program) (w:World) (H:Hp) (s:Shared) (Q:VK) (u:Value) (s':Shared):Prop:=
 ∃v H',s'.os=s.os∧AllBare s'.gens∧Un (frs outer) [] H H' s.heap s'.heap∧du P w H' s'.heap∧RelV v u∧Q v H'
def CR (CX:mS) (outer:List Env) (P:Program) (w:World) (H:Hp) (s:Shared) (Q:VK) (E:XK) (r:Result) (s':Shared):Prop:=
 match r with
 | .ok (.ret u)=>CE outer P w H s Q u s'
 | .ok _=>False
 | .error e=>CX outer H s E e s'
structure bC (P:Program) (w:World) (K:PySem.W.Frag) (mg:Str→Option Value) (base:Heap) (CX:mS) (k:Nat) (f:Addr) (fd:FuncData) (ps:List Str) (sp:Sp):Prop where
 len:∀vs H Q E,sp vs H Q E→vs.length=ps.length
 run:∀(A:Around) (outer:List Env) (s:Shared) (H:Hp) (args:Args) (us:List Value) (vs:List V) (Q:VK) (E:XK),aO k A→oK P w K mg base A outer s H→BindsTo s fd args (ps.zip us)→Vals vs us→sp vs H Q E→
  codeAny (model P w) A (.call (.ref f) args) (CR CX outer P w H s Q E) s
theorem oK.make {P:Program} {w:World} {K:PySem.W.Frag} {mg:Str→Option Value} {base:Heap} {A:Around} {outer:List Env} {s:Shared} {H:Hp} (e:oK P w K mg base A outer s H) (C:Addr) (us:List Value) (kw:List (Str×Value)):
  oK P w K mg base (A.under (.builtin "type.__call__" ⟨.ref C::us,kw⟩)) outer s H:=⟨by first | exact e.frames | (simpa[Around.under,Code.envs,Code.isFrame,pushEnvs] using e.frames),e.mod,e.bs,e.n5,e.ie,e.qW,e.hok,e.bare⟩
section
variable {X:Cx} {pins:List (Addr×Obj)} {σ:St} {H:Hp} {s s':Shared}
theorem Inv.env0 (I:Inv X pins σ H s):oK X.prog X.w X.K X.mg X.base X.A X.stack s H:=
 ⟨I.ok.frames,I.ok.mod,I.bs,Nat.le_trans I.ok.n5 I.sz,I.stack,I.nJ,I.hok,I.bare⟩
theorem Inv.after {Q:VK} {u:Value} (I:Inv X pins σ H s) (h:CE X.stack X.prog X.w H s Q u s'):EP X pins σ Q u s':=by
 obtain⟨v,H',os,bare,un,hok,r,q⟩:=h
 obtain⟨hh,g,d,t,os'⟩:=s'
 obtain rfl:os'=s.os:=os
 exact⟨v,H',I.call (h':=hh) (g':=g) (d':=d) (t':=t) (ch:=[]) un hok bare (fun b z=>absurd z (by simp)),r,q⟩
end
def Kf (sp:Sp) (rh:List V) (E:XK) (t:TA):TE:=fun σ H Q=>t σ H fun vs H1=>sp (vs++rh) H1 Q E
def Binds (K:PySem.W.Frag) (fd:FuncData) (ps:List Str) (ds:List Value):Prop:=
 ∀(s:Shared) (us:List Value),K.In s.heap→(us++ds).length=ps.length→BindsTo s fd ⟨us,[]⟩ (ps.zip (us++ds))
theorem Binds.all {K:PySem.W.Frag} {fd:FuncData} {ps:List Str} (h:∀us:List Value,us.length=ps.length→bindArgs fd ⟨us,[]⟩=pure (ps.zip us)):Binds K fd ps []:=fun s us _ hl=>by
 rw[List.append_nil] at hl ⊢
 exact .of_eq (h us hl)
def Passes (CX:mS) (X:Cx) (E:XK):Prop:=∀(pins:List (Addr×Obj)) (σ:St) (H:Hp) (s:Shared) (e:Value) (s':Shared),Inv X pins σ H s→CX X.stack H s E e s'→X.xe e s'
section
variable {X:Cx} {CX:mS} {k:Nat} {f C:Addr} {fd:FuncData} {ps:List Str} {sp:Sp} {rh:List V} {ds:List Value} {E:XK} {x m:Str} {p pos apos:Pos} {e o:Expr} {es:List Expr} {ta:TE} {t:TA}
theorem Hh {pins:List (Addr×Obj)} {σ:St} {H:Hp} {s:Shared} {Q:VK} {us:List Value} {vs:List V} (F:bC X.prog X.w X.K X.mg X.base CX k f fd ps sp) (hr:aO k X.A) (hb:Binds X.K fd ps ds) (hd:Vals rh ds) (hx:Passes CX X E)
  (I:Inv X pins σ H s) (r:Vals vs us) (h:sp (vs++rh) H Q E):wpAny (model X.prog X.w) X.A (call (.ref f) us) (EP X pins σ Q) X.xe s:=by
 have r2:Vals (vs++rh) (us++ds):=r.append hd
 have hl:(us++ds).length=ps.length:=by rw[←r2.length];exact F.len _ _ _ _ h
 refine wpAny_call (codeAny_mono (F.run X.A X.stack s H ⟨us,[]⟩ (us++ds) (vs++rh) Q E hr I.env0 (hb s us I.gi hl) r2 h) fun r s' hq=>?_)
 cases r with
 | error e=>exact hx pins σ H s e s' I hq
 | ok fl=>
  cases fl with
  | ret u=>exact I.after hq
  | next=>exact False.elim hq
  | brk=>exact False.elim hq
  | cont=>exact False.elim hq
theorem aD (F:bC X.prog X.w X.K X.mg X.base CX k f fd ps sp) (hr:aO k X.A) (hg:Gl X x) (hm:X.mg x=some (.ref f)) (hk:PySem.W.keepIn X.K (.ref f)=true) (hb:Binds X.K fd ps ds) (hd:Vals rh ds) (hx:Passes CX X E)
  (ha:PA X (e::es) t) (hdb:(x == ("__debug__":Str))=false:=by decide) (he:starEach (e::es) X.env=(false,eval e X.env)::starEach es X.env:=by rfl) (hpl:(backTo pos (starEach es X.env)).any (·.1)=false:=by rfl):
  PE X (.Call (.Name x p) (e::es) [] pos) (Kf sp rh E t):=by
 intro pins s σ H Q I h
 refine wpAny_Call_Name_kw (gM I hg hm ?_ hdb)
 refine PySem.W.callWith_K (h₀:=X.base) I.ok.mod.n_ hk (aG (ha pos pins s σ H _ I h) fun us s1 ⟨vs,H1,I1,r,q⟩=>⟨I1.gi,?_⟩) he hpl
 exact Hh F hr hb hd hx I1 r q
end
structure bj (N P:List Str) (sc:Scope):Prop where
 kind:sc.kind=.function
 co:sc.isCoroutine=false
 gen:sc.isGenerator=false
 nd:N.Nodup
 pre:N.take P.length=P
 par:∀x∈P,sc.names.lookup x=some .local∨sc.names.lookup x=some .cell
 Hi:∀y∈sc.names,y.2≠.free
theorem rj {kindOf:Str→Option NameKind} {x:Str}:∀{binds:List (Str×Value)} {m:Str→Option Value},(∀v,(x,v) ∉ binds)→bindL kindOf binds m x=m x
 | [],_,_=>rfl
 | (n,v)::r,m,h=>by
  unfold bindL
  rw[rj fun w hw=>h w (List.mem_cons_of_mem _ hw)]
  split
  ·have:x≠n:=by rintro rfl;exact h v List.mem_cons_self
   simp[this]
  ·rfl
theorem rl {kindOf:Str→Option NameKind} {x:Str}:∀{binds:List (Str×Value)} {m:Str→Option Value},(∀v,(x,v) ∉ binds)→bindC kindOf binds m x=m x
 | [],_,_=>rfl
 | (n,v)::r,m,h=>by
  unfold bindC
  rw[rl fun w hw=>h w (List.mem_cons_of_mem _ hw)]
  split
  ·rfl
  ·have:x≠n:=by rintro rfl;exact h v List.mem_cons_self
   simp[this]
theorem rA {kindOf:Str→Option NameKind} {x:Str} {v:Value}:∀{P:List Str} {vs:List Value} {i:Nat} {m:Str→Option Value},P.Nodup→P[i]? =some x→vs[i]? =some v→kindOf x=some .local→
  bindL kindOf (P.zip vs) m x=some v
 | [],_,_,_,_,h,_,_=>by simp at h
 | _::_,[],_,_,_,_,h,_=>by simp at h
 | p::P,w::vs,0,m,nd,h1,h2,hk=>by
  simp at h1 h2;subst h1;subst h2
  show bindL kindOf ((p,w)::P.zip vs) m p=_
  unfold bindL
  rw[rj fun v hv=>(List.nodup_cons.mp nd).1 (List.of_mem_zip hv).1,if_pos hk]
  simp
 | p::P,w::vs,i+1,m,nd,h1,h2,hk=>by
  show bindL kindOf ((p,w)::P.zip vs) m x=_
  unfold bindL
  exact rA (i:=i) (List.nodup_cons.mp nd).2 (by simpa using h1) (by simpa using h2) hk
theorem rB {kindOf:Str→Option NameKind} {x:Str} {v:Value}:∀{P:List Str} {vs:List Value} {i:Nat} {m:Str→Option Value},P.Nodup→P[i]? =some x→vs[i]? =some v→kindOf x≠some .local→
  bindC kindOf (P.zip vs) m x=some v
 | [],_,_,_,_,h,_,_=>by simp at h
 | _::_,[],_,_,_,_,h,_=>by simp at h
 | p::P,w::vs,0,m,nd,h1,h2,hk=>by
  simp at h1 h2;subst h1;subst h2
  show bindC kindOf ((p,w)::P.zip vs) m p=_
  unfold bindC
  rw[rl fun v hv=>(List.nodup_cons.mp nd).1 (List.of_mem_zip hv).1,if_neg hk]
  simp
 | p::P,w::vs,i+1,m,nd,h1,h2,hk=>by
  show bindC kindOf ((p,w)::P.zip vs) m x=_
  unfold bindC
  exact rB (i:=i) (List.nodup_cons.mp nd).2 (by simpa using h1) (by simpa using h2) hk
def start (N:List Str) (vs:List V):St:=vs.map some++List.replicate (N.length-vs.length) none
def gg (CX:mS) (P:Program) (w:World) (K:PySem.W.Frag) (mg:Str→Option Value) (base:Heap) (N:List Str) (qual:Str) (scope:Scope) (f:Addr) (cd:Value) (A:Around) (outer:List Env) (s:Shared) (H:Hp) (E:XK):Cx where
 prog:=P
 w:=w
 K:=K
 mg:=mg
 base:=base
 A:=A.deeper (envOfC qual scope s.heap.objs.size f cd)
 N:=N
 s₀:=s
 H₀:=H
 env:=envOfC qual scope s.heap.objs.size f cd
 outer:=outer
 stack:=envOfC qual scope s.heap.objs.size f cd::outer
 ex:=[]
 calm:=true
 fn:=fun _=>true
 pn:=[]
 xe:=fun e s'=>wpAny (model P w) (A.deeper (envOfC qual scope s.heap.objs.size f cd)) (leaving (envOfC qual scope s.heap.objs.size f cd) e) (fun _ s''=>CX outer H s E e s'') (fun e' s''=>CX outer H s E e' s'') s'
theorem um {sc:Scope} {n:Nat} {x:Str} (h:sc.names.lookup x=some .cell):∃c,(cellsFrom n sc.names []).lookup x=some c:=by
 have q:=PySem.W.cellsFrom_some sc.names n [] (.inl h)
 exact Option.isSome_iff_exists.mp q
theorem A7 {CX:mS} {P:Program} {w:World} {K:PySem.W.Frag} {mg:Str→Option Value} {base:Heap} {N ps:List Str} {qual:Str} {scope:Scope} {f:Addr} {cd:Value} {A:Around} {outer:List Env} {s s1:Shared} {H:Hp} {E:XK} {us:List Value} {vs:List V}
  (S:bj N ps scope) (hd:A.handled=none) (e0:oK P w K mg base A outer s H) (hl:vs.length=ps.length) (r:Vals vs us)
  (x:InCallC s s.heap.objs.size (bindL (envOfC qual scope s.heap.objs.size f cd).kindOf (ps.zip us) fun _=>none) (cellsFrom (s.heap.objs.size+1) scope.names []) (bindC (envOfC qual scope s.heap.objs.size f cd).kindOf (ps.zip us) fun _=>none) s1):
  Inv (gg CX P w K mg base N qual scope f cd A outer s H E) [] (start N vs) H s1:=by
 have hpl:ps.length≤N.length:=by have:=congrArg List.length S.pre;rw[List.length_take] at this;omega
 obtain⟨h1,tk,rfl,hk⟩:=x.done
 have A8:∀b:Addr,b ∉ (gg CX P w K mg base N qual scope f cd A outer s H E).ex:=fun b z=>absurd (show b∈([]:List Addr) from z) (by simp)
 refine⟨⟨e0.mod,S.kind,rfl,rfl,Nat.le_refl _,fun y z c h1 h2=>?_,fun y hy=>?_,fun y c _ h=>?_,fun _=>hd,Around.frames_deeper e0.frames,.inr ⟨rfl,rfl⟩,fun b z=>absurd z (A8 b),e0.bs,e0.n5,fun b _ _=>A8 b,fun b z=>absurd z (A8 b),e0.ie,e0.qW⟩,
  rfl,e0.bare,Un.kept hk,⟨_,x.toInCall.ns,fun i y v h1 h2 h3=>?_⟩,fun y c h=>⟨_,x.cell y c h⟩,e0.hok.fresh (Nat.le_refl _),fun y c h=>?_,fun p hp=>absurd (show p∈([]:List (Addr×Obj)) from hp) (by simp),e0.hok.kept hk,?_⟩
 ·exact name_of_addr x.apart (PySem.mem_of_lookup h1) (PySem.mem_of_lookup h2)
 ·have hy:scope.names.lookup y=some .cell∨scope.names.lookup y=some .free:=hy
  rcases hy with hy | hy
  ·exact um hy
  ·exact absurd rfl (S.Hi _ (PySem.mem_of_lookup hy))
 ·exact Nat.le_of_lt (x.above y c (PySem.mem_of_lookup h))
 ·have hi:i<vs.length:=by
   unfold start at h2
   by_cases hi:i<vs.length
   ·exact hi
   ·rw[List.getElem?_append_right (by simpa using hi)] at h2
    rw[List.getElem?_replicate] at h2
    split at h2<;>cases h2
  have ha:vs[i]? =some v:=by
   unfold start at h2
   rw[List.getElem?_append_left (by simpa using hi),List.getElem?_map] at h2
   cases e:vs[i]? with
   | none=>rw[e] at h2;cases h2
   | some a=>rw[e] at h2;cases h2;rfl
  obtain⟨u,hu,rv⟩:=r.get ha
  have hp:ps[i]? =some y:=by
   rw[←S.pre,List.getElem?_take_of_lt (by omega)];exact h1
  have LJ:ps.Nodup:=by rw[←S.pre];exact S.nd.sublist (List.take_sublist _ _)
  refine⟨u,rv,?_⟩
  rcases S.par y (List.mem_of_getElem? hp) with k | k
  ·exact .inl ⟨k,rA LJ hp hu k⟩
  ·obtain⟨c,e⟩:=um (n:=s.heap.objs.size+1) k
   refine .inr ⟨.inl k,c,e,?_⟩
   have q:=x.cell y c e
   rw[rB LJ hp hu (by show scope.names.lookup y≠_;rw[k];decide)] at q
   exact q
 ·exact e0.hok.fresh (Nat.le_of_lt (x.above y c (PySem.mem_of_lookup h)))
 ·unfold start
  show _=N.length
  rw[List.length_append,List.length_map,List.length_replicate]
  omega
theorem En {CX:mS} {P:Program} {w:World} {K:PySem.W.Frag} {mg:Str→Option Value} {base:Heap} {k:Nat} {f:Addr} {name qual:Str} {params:Arguments} {body:List Stmt} {scope:Scope} {dV kV doc pm cdv ct oc:Value} {an od:Option Addr}
  {osl:Array (Option Value)} {N ps:List Str} {sp:Sp} (lk:K.lookup f=some ⟨oc,od,.func (PySem.W.fnOf name qual params body scope dV kV doc pm an cdv ct),osl⟩) (hcd:PySem.W.codeIn K cdv qual=true) (S:bj N ps scope)
  (len:∀vs H Q E,sp vs H Q E→vs.length=ps.length)
  (hbody:∀(A:Around) (outer:List Env) (s:Shared) (H:Hp) (vs:List V) (Q:VK) (E:XK),aO k (A.deeper (envOfC qual scope s.heap.objs.size f cdv))→sp vs H Q E→
   ∃t,gL (gg CX P w K mg base N qual scope f cdv A outer s H E) body t∧t {nx:=fun _ H'=>Q .non H',rt:=Q} (start N vs) H):
  bC P w K mg base CX (k+1) f (PySem.W.fnOf name qual params body scope dV kV doc pm an cdv ct) ps sp:=by
 refine⟨len,fun A outer s H args us vs Q E hr e0 hb r hsp=>?_⟩
 have hl:=len _ _ _ _ hsp
 have KX:K.In s.heap:=e0.mod.n_.keeps fun b o e=>(e0.bs b o e).1
 have lim:s.heap.NoLimit:=e0.mod.nolimit.keeps fun b o e=>(e0.bs b o e).1
 have hkind:∀y∈ps.zip us,scope.names.lookup y.1=some .local∨(scope.names.lookup y.1=some .cell∧((cellsFrom (s.heap.objs.size+1) scope.names []).lookup y.1).isSome=true):=fun⟨n,v⟩ hy=>by
  rcases S.par n (List.of_mem_zip hy).1 with q | q
  ·exact .inl q
  ·exact .inr ⟨q,PySem.W.cellsFrom_some _ _ _ (.inl q)⟩
 refine codeAny_call_function hr.depth (KX _ _ lk) rfl S.co S.gen rfl (PySem.W.codeRec_of KX hcd) (hb _ _ _ _ ?_)
 refine wpAny_newFunctionEnv_cells S.kind hkind fun env he s1 x=>?_
 subst he
 refine⟨lim.keeps x.toInCall.keep,codeAny_func ?_⟩
 obtain⟨t,ht,hq⟩:=hbody A outer s H vs Q E (hr.deeper _) hsp
 have I:Inv (gg CX P w K mg base N qual scope f cdv A outer s H E) [] (start N vs) H s1:=A7 S hr.hd e0 hl r x
 refine wpAny_mono (ht [] s1 (start N vs) H _ I hq) (fun fl s' hs=>?_) fun e s' hs=>hs
 have fin:∀{σ':St} {H':Hp} {v:V} {u:Value},Inv (gg CX P w K mg base N qual scope f cdv A outer s H E) [] σ' H' s'→RelV v u→Q v H'→CE outer P w H s Q u s':=
  fun {σ' H' v u} J rv q=>⟨v,H',J.os,J.bare,J.base,J.hok,rv,q⟩
 cases fl with
 | ret u=>
  obtain⟨v,σ',H',J,rv,q⟩:=hs
  exact fin J rv q
 | next=>
  obtain⟨σ',H',J,q⟩:=hs
  exact fin (v:=V.non) (u:=Value.none) J rfl q
 | brk=>
  obtain⟨_,_,_,q⟩:=hs
  exact False.elim q
 | cont=>
  obtain⟨_,_,_,q⟩:=hs
  exact False.elim q
section
variable {X:Cx} {x:Str} {p pos:Pos} {e:Expr} {es:List Expr} {t:TA} {id T:String} {r:List V→Hp→VK→Prop}
def Hj (r:List V→Hp→VK→Prop) (t:TA):TE:=fun σ H Q=>t σ H fun vs H1=>r vs H1 Q
theorem aE (hc:cZ X (.builtin id) r) (hg:Gl X x) (hm:X.mg x=none) (hv:bootBuiltins x=some (.builtin id)) (ha:PA X (e::es) t) (hn:x≠"__name__":=by decide) (hdb:(x == ("__debug__":Str))=false:=by decide)
  (he:starEach (e::es) X.env=(false,eval e X.env)::starEach es X.env:=by rfl) (hpl:(backTo pos (starEach es X.env)).any (·.1)=false:=by rfl):PE X (.Call (.Name x p) (e::es) [] pos) (Hj r t):=by
 intro pins s σ H Q I h
 refine wpAny_Call_Name_kw (jt I hg hm hv ?_ hn hdb)
 exact PyProof.Rows.callWith_builtin1 (aG (ha pos pins s σ H _ I h) fun us s1 ⟨vs,H1,I1,r1,q1⟩=>hc pins s1 σ H1 vs us Q I1 r1 q1) he hpl
theorem bE (hc:cZ X (.type T) r) (hg:Gl X x) (hm:X.mg x=none) (hv:bootBuiltins x=some (.type T)) (ha:PA X (e::es) t) (hn:x≠"__name__":=by decide) (hdb:(x == ("__debug__":Str))=false:=by decide)
  (he:starEach (e::es) X.env=(false,eval e X.env)::starEach es X.env:=by rfl) (hpl:(backTo pos (starEach es X.env)).any (·.1)=false:=by rfl):PE X (.Call (.Name x p) (e::es) [] pos) (Hj r t):=by
 intro pins s σ H Q I h
 refine wpAny_Call_Name_kw (jt I hg hm hv ?_ hn hdb)
 exact PyProof.Rows.callWith_type1 (aG (ha pos pins s σ H _ I h) fun us s1 ⟨vs,H1,I1,r1,q1⟩=>hc pins s1 σ H1 vs us Q I1 r1 q1) he hpl
end
end L2
namespace HT
open PySem PyProof.Rows
section
variable {prog:Program} {w:World} {A:Around} {E:Value→Shared→Prop} {s:Shared}
theorem FI {t b:Addr} {vs ws:List Value} {Q:Value→Shared→Prop} (ht:IsTup s.heap t vs.toArray) (hb:IsTup s.heap b ws.toArray) (hv:vs≠[])
  (h1:ws=[]→Q (.ref t) s) (h2:ws≠[]→Q (.ref s.heap.objs.size) {s with heap:=s.heap.push {cls:=.type "tuple",data:=.seq (vs++ws).toArray}})
  (hsz:vs.length+ws.length≤sizeLine):wpAny (model prog w) A (binaryOp .Add (.ref t) (.ref b)) Q E s:=by
 obtain⟨⟨cls,dd,data,sl⟩,ho,hc,n,hd⟩:=id ht
 obtain⟨⟨cls2,dd2,data2,sl2⟩,ho2,hc2,n2,hd2⟩:=id hb
 simp only at hc hd hc2 hd2
 subst hc hd hc2 hd2
 have e:vs.toArray++ws.toArray=(vs++ws).toArray:=by simp
 by_cases hw:ws=[]
 ·exact concat_meets ⟨_,ho,rfl⟩ ⟨_,ho2,rfl⟩ noFill_tuple_add seq_tuple_add PySem.F.slot_tuple_add PySem.F.entry_tuple_add (PySem.F.args_tuple_add_2 _ _)
   (tuple_addW1 t b vs.toArray ws.toArray n n2 dd dd2 sl sl2 (by simpa using hv) (by simp[hw])) ⟨ho,ho2,h1 hw⟩
 ·refine concat_meets ⟨_,ho,rfl⟩ ⟨_,ho2,rfl⟩ noFill_tuple_add seq_tuple_add PySem.F.slot_tuple_add PySem.F.entry_tuple_add (PySem.F.args_tuple_add_2 _ _)
   (tuple_addW2 t b vs.toArray ws.toArray n n2 dd dd2 sl sl2 (by simpa using hv) (by simpa using hw) (by rw[List.size_toArray,List.size_toArray];exact hsz)) ⟨ho,ho2,?_⟩
  rw[e]
  exact h2 hw
def aM (n d:Nat):Option Int→Nat
 | none=>d
 | some v=>if v<0 then(v+(n:Int)).toNat else min v.toNat n
theorem lH (n d:Nat):aM n d none=d:=rfl
theorem kG (n d k:Nat):aM n d (some (k:Int))=min k n:=by
 show(if(k:Int)<0 then((k:Int)+(n:Int)).toNat else min (k:Int).toNat n)=min k n
 rw[if_neg (by omega),Int.toNat_natCast]
theorem uo (n d:Nat) (hd:d≤n) (o:Option Int):aM n d o≤n:=by
 cases o with
 | none=>exact hd
 | some v=>
  show(if v<0 then(v+(n:Int)).toNat else min v.toNat n)≤n
  by_cases hv:v<0
  ·rw[if_pos hv];omega
  ·rw[if_neg hv];exact Nat.min_le_right _ _
theorem xZ (v:Int) (n d:Nat):(if v<0 then max (v+(n:Int)) 0 else min v (n:Int))=((aM n d (some v):Nat):Int):=by
 show(if v<0 then max (v+(n:Int)) 0 else min v (n:Int))=(((if v<0 then(v+(n:Int)).toNat else min v.toNat n):Nat):Int)
 by_cases hv:v<0
 ·simp only[if_pos hv];omega
 ·simp only[if_neg hv];omega
theorem yZ (lo hi:Option Int) (n:Nat):Builtin.Slice.sliceAdjust lo hi 1 (n:Int)=(((aM n 0 lo:Nat):Int),((aM n n hi:Nat):Int)):=by
 have h1:¬((1:Int)<0):=by omega
 unfold Builtin.Slice.sliceAdjust
 simp only[h1,if_false]
 refine Prod.ext ?_ ?_
 ·cases lo with
  | none=>rfl
  | some v=>exact xZ v n 0
 ·cases hi with
  | none=>rfl
  | some v=>exact xZ v n n
theorem y_ (i j:Nat):Builtin.Slice.slicePlaces (i:Int) (j:Int) 1=j-i:=by
 unfold Builtin.Slice.slicePlaces
 have h1:(1:Int)>0:=by omega
 simp only[h1,if_true,Int.ediv_one]
 split<;>omega
theorem o9 {v:Value} {o:Option Int} {Q:Option Int→Shared→Prop} (p:IsPart v o) (h:Q o s):wpAny (model prog w) A (Builtin.Slice.slicePartIndex v) Q E s:=by
 cases p with
 | none=>exact slicePart_none h
 | int i t=>exact slicePart_int h
theorem jw {sl:Addr} {vl vu:Value} {lo hi:Option Int} {n:Nat} {Q:Int×Int×Nat→Shared→Prop} (hs:s.heap.IsSliceOf sl vl vu .none) (pl:IsPart vl lo) (pu:IsPart vu hi)
  (h:Q (((aM n 0 lo:Nat):Int),1,aM n n hi-aM n 0 lo) s):wpAny (model prog w) A (Builtin.Slice.sliceApplied (.ref sl) (pure (n:Int))) Q E s:=by
 obtain⟨os,hos,hcs,hds⟩:=id hs
 unfold Builtin.Slice.sliceApplied Builtin.Slice.sliceFields
 refine wpAny_bind (wpAny_bind (wpAny_field hos hds (x:=vl) rfl (wpAny_bind (wpAny_field hos hds (x:=vu) rfl (wpAny_bind (wpAny_field hos hds (x:=.none) rfl (wpAny_pure ?_)))))))
 refine wpAny_bind (slicePart_none ?_)
 show wpAny _ _ (if((1:Int) == 0)=true then _ else _) _ _ s
 rw[if_neg (by decide)]
 refine wpAny_bind (o9 pl (wpAny_bind (o9 pu (wpAny_bind (wpAny_pure ?_)))))
 show wpAny _ _ (match Builtin.Slice.sliceAdjust lo hi 1 (n:Int) with | (lo,hi)=>pure (lo,(1:Int),Builtin.Slice.slicePlaces lo hi 1)) _ _ s
 rw[yZ lo hi n]
 show wpAny _ _ (pure (((aM n 0 lo:Nat):Int),(1:Int),Builtin.Slice.slicePlaces ((aM n 0 lo:Nat):Int) ((aM n n hi:Nat):Int) 1)) _ _ s
 rw[y_]
 exact wpAny_pure h
theorem De (xs:Array Value) (i k:Nat):((List.range k).filterMap fun(m:Nat)=>xs[((i:Int)+(m:Int)*1).toNat]?).toArray=((xs.toList.drop i).take k).toArray:=by
 have e:(fun(m:Nat)=>xs[((i:Int)+(m:Int)*1).toNat]?)=fun m=>xs[i+m]? :=by
  funext m
  have:((i:Int)+(m:Int)*1).toNat=i+m:=by omega
  rw[this]
 rw[e]
 have:=pick_run xs i k
 rw[List.filterMap_map] at this
 have e2:((fun x=>xs[x]?)∘fun x=>i+x)=fun m=>xs[i+m]? :=rfl
 rw[e2] at this
 rw[this]
theorem nY {t sl:Addr} {items:Array Value} {vl vu:Value} {lo hi:Option Int} {Q:Value→Shared→Prop} (ht:IsTup s.heap t items) (hs:s.heap.IsSliceOf sl vl vu .none) (pl:IsPart vl lo) (pu:IsPart vu hi)
  (hw:¬(aM items.size 0 lo=0∧aM items.size items.size hi=items.size))
  (h:Q (.ref s.heap.objs.size) {s with heap:=s.heap.push {cls:=.type "tuple",data:=.seq ((items.toList.drop (aM items.size 0 lo)).take (aM items.size items.size hi-aM items.size 0 lo)).toArray}})
  (hsz:items.size≤sizeLine):wpAny (model prog w) A (getItem (.ref t) (.ref sl)) Q E s:=by
 have tX:sizeOk (.seq ((items.toList.drop (aM items.size 0 lo)).take (aM items.size items.size hi-aM items.size 0 lo)).toArray):=by
  show((items.toList.drop (aM items.size 0 lo)).take (aM items.size items.size hi-aM items.size 0 lo)).toArray.size≤sizeLine
  rw[List.size_toArray,List.length_take,List.length_drop,Array.length_toList]
  omega
 have hj:aM items.size items.size hi≤items.size:=uo _ _ (Nat.le_refl _) hi
 obtain⟨os,hos,hcs,hds⟩:=id hs
 have hTs:s.TypeIs (.ref sl) "slice":=⟨os,hos,hcs⟩
 unfold getItem
 try with_reducible refine wpAny_holding ?_
 first | refine wpAny_bind (wpAny_pure ?_) | skip
 refine wpAny_bind (wpAny_sequenceKey ht.typeIs (by decide) ?_)
 refine wpAny_bind (wpAny_callSpecial?_slot (name:=Str.ofString "__getitem__") ht.typeIs PyProof.Rows.slot_tuple_getitem
  (wpAny_call_entry PyProof.Rows.slot_tuple_getitem ht.typeIs entry_tuple_getitem ?_ (args_tuple_getitem _ _)))
 show wpAny _ _ (Builtin.Tuple.tupleItemsOf (.ref t) >>= _) _ _ s
 refine wpAny_bind (tupleItemsOf_ ht ?_)
 refine wpAny_bind (wpAny_typeOf hTs ?_)
 rw[if_pos (by decide)]
 refine wpAny_bind (jw hs pl pu ?_)
 have hno:¬((((aM items.size 0 lo:Nat):Int) == 0&&(1:Int) == 1&&(aM items.size items.size hi-aM items.size 0 lo) == items.size)=true):=by
  intro q
  rw[Bool.and_eq_true,Bool.and_eq_true] at q
  have q1:((aM items.size 0 lo:Nat):Int)=0:=eq_of_beq q.1.1
  have q2:aM items.size items.size hi-aM items.size 0 lo=items.size:=eq_of_beq q.2
  exact hw ⟨by omega,by omega⟩
 show wpAny _ _ (if(((aM items.size 0 lo:Nat):Int) == 0&&(1:Int) == 1&&(aM items.size items.size hi-aM items.size 0 lo) == items.size)=true then _ else _) _ _ s
 rw[if_neg hno,De]
 first
  | exact wpAny_bind (m:=Builtin.Tuple.tupleExact _) (wpAny_newObj_type (wpAny_pure ⟨_,rfl,wpAny_pure h⟩) tX)
  | exact wpAny_bind (m:=Builtin.Tuple.tupleExact _) (wpAny_newObj_type (wpAny_bind (wpAny_pure (wpAny_pure ⟨_,rfl,wpAny_pure h⟩))) tX)
  | exact wpAny_bind (wpAny_bind (m:=Builtin.Tuple.tupleExact _) (wpAny_newObj_type (wpAny_pure (wpAny_pure ⟨_,rfl,wpAny_pure h⟩)) tX))
  | exact wpAny_bind (wpAny_bind (m:=Builtin.Tuple.tupleExact _) (wpAny_newObj_type (wpAny_pure ⟨_,rfl,wpAny_pure h⟩) tX))
end
end HT
namespace L2
open PySem PySem.Spec PyProof.Rows
abbrev TO:=St→Hp→(Option Int→Hp→Prop)→Prop
def PO (X:Cx) (e:Option Expr) (t:TO):Prop:=
 ∀(pins:List (Addr×Obj)) (s:Shared) (σ:St) (H:Hp) (Q:Option Int→Hp→Prop),Inv X pins σ H s→t σ H Q→
  wpAny (model X.prog X.w) X.A (evalPart e X.env) (fun u s'=>∃o H',Inv X pins σ H' s'∧IsPart u o∧Q o H') X.xe s
def qh:TO:=fun _ H Q=>Q none H
def Kg (t:TE):TO:=fun σ H Q=>t σ H fun x H1=>∃i,x=.int i∧Q (some i) H1
section
variable {X:Cx} {e:Expr} {te:TE} {lo hi:Option Expr} {tl th:TO} {pos p2:Pos}
theorem bG:PO X none qh:=by
 intro pins s σ H Q I h
 rw[evalPart_none]
 exact wpAny_pure ⟨none,H,I,.none,h⟩
theorem bF (h:PE X e te):PO X (some e) (Kg te):=by
 intro pins s σ H Q I hw
 rw[evalPart_some]
 refine aG (h pins s σ H _ I hw) fun u s1 ⟨x,H1,I1,r1,q1⟩=>?_
 obtain⟨i,rfl,q⟩:=q1
 obtain⟨t,rfl⟩:=r1
 exact⟨some i,H1,I1,.int i t,q⟩
def x5 (X:Cx) (r:V→Option Int→Option Int→Hp→VK→Prop):Prop:=
 ∀(pins:List (Addr×Obj)) (s:Shared) (σ:St) (H:Hp) (x:V) (v vl vu:Value) (lo hi:Option Int) (sl:Addr) (Q:VK),Inv X pins σ H s→RelV x v→s.heap.IsSliceOf sl vl vu .none→IsPart vl lo→IsPart vu hi→r x lo hi H Q→
  ∃T id,typeLookup (.type T) "__getitem__"=pure (some (.builtin id))∧s.TypeIs v T∧wpAny (model X.prog X.w) X.A (getItem v (.ref sl)) (EP X pins σ Q) X.xe s
def QP (r:V→Option Int→Option Int→Hp→VK→Prop) (te:TE) (tl th:TO):TE:=fun σ H Q=>te σ H fun x H1=>tl σ H1 fun l H2=>th σ H2 fun u H3=>r x l u H3 Q
theorem br {r:V→Option Int→Option Int→Hp→VK→Prop} (hr:x5 X r) (he:PE X e te) (hl:PO X lo tl) (hu:PO X hi th):PE X (.Subscript e (.Slice lo hi none p2) pos) (QP r te tl th):=by
 intro pins s σ H Q I h
 refine Subscript_ (aG (he pins s σ H _ I h) fun v s1 ⟨x,H1,I1,r1,q1⟩=>?_)
 refine wpAny_Slice (aG (hl pins s1 σ H1 _ I1 q1) fun vl s2 ⟨l,H2,I2,pl,q2⟩=>aG (hu pins s2 σ H2 _ I2 q2) fun vu s3 ⟨u,H3,I3,pu,q3⟩=>?_)
 rw[evalPart_none]
 refine wpAny_pure ?_
 have I4:Inv X pins σ H3 {s3 with heap:=s3.heap.push {cls:=.type "slice",data:=.fields #[vl,vu,.none]}}:=I3.kept (t':=s3.toks) fun b ob q=>Heap.get?_push_of_some _ q
 obtain⟨T,id,hT,ht,hg⟩:=hr pins {s3 with heap:=s3.heap.push {cls:=.type "slice",data:=.fields #[vl,vu,.none]}} σ H3 x v vl vu l u s3.heap.objs.size Q I4 r1 (Heap.IsSliceOf.new ..) pl pu q3
 show wpAny (model X.prog X.w) X.A (subscriptTail e (.Slice lo hi none p2) v (.ref s3.heap.objs.size)) (EP X pins σ Q) X.xe {s3 with heap:=s3.heap.push {cls:=.type "slice",data:=.fields #[vl,vu,.none]}}
 exact tail_any (ops:=[.ref s3.heap.objs.size,v]) ht hT hg (by with_unfolding_all rfl)
def fG (xs:List V) (lo hi:Option Int):List V:=(xs.drop (HT.aM xs.length 0 lo)).take (HT.aM xs.length xs.length hi-HT.aM xs.length 0 lo)
theorem og (xs:List V) (lo hi:Option Int):(fG xs lo hi).length≤xs.length:=by
 unfold fG
 rw[List.length_take,List.length_drop]
 omega
def Nl (K:PySem.W.Frag):V→Option Int→Option Int→Hp→VK→Prop:=fun x lo hi H Q=>∃a xs,x=.ref a∧bP K H a xs∧
 ¬(HT.aM xs.length 0 lo=0∧HT.aM xs.length xs.length hi=xs.length)∧∀p,H p=none→Q (.ref p) (upd H p (.tup (fG xs lo hi)))
theorem Hk:x5 X (Nl X.K):=by
 intro pins s σ H x v vl vu lo hi sl Q I rx hs pl pu h
 obtain⟨a,xs,rfl,hx,hw,q⟩:=h
 cases rx
 obtain⟨its,r,ht,hz⟩:=I.tuple hx
 have hlen:its.toArray.size=xs.length:=by rw[List.size_toArray];exact r.length.symm
 refine⟨"tuple",_,PyProof.Rows.slot_tuple_getitem.lookup,ht.typeIs,?_⟩
 refine HT.nY ht hs pl pu (by rw[hlen];exact hw) ?_ (by rw[hlen];exact hz)
 rw[hlen]
 refine⟨.ref s.heap.objs.size,_,I.laid (t':=s.toks) (o:=.tup (fG xs lo hi)) (fun b ob q=>Heap.get?_push_of_some _ q) (Nat.le_refl _) ?_,rfl,q _ (I.hok.fresh (Nat.le_refl _))⟩
 exact⟨⟨Nat.le_trans (og xs lo hi) hz,_,Heap.get?_push_size _ rfl,rfl⟩,_,(r.drop (HT.aM xs.length 0 lo)).take (HT.aM xs.length xs.length hi-HT.aM xs.length 0 lo),IsTup.new _ _⟩
def Kh (K:PySem.W.Frag):R2:=fun x y H Q=>∃a b xs ys,x=.ref a∧y=.ref b∧bP K H a xs∧bP K H b ys∧xs≠[]∧xs.length+ys.length≤sizeLine∧
 (ys=[]→Q (.ref a) H)∧(ys≠[]→∀p,H p=none→Q (.ref p) (upd H p (.tup (xs++ys))))
theorem Vals.qi {xs:List V} {us:List Value} (r:Vals xs us):us=[]↔xs=[]:=by
 cases r with
 | nil=>simp
 | cons _ _=>simp
theorem x6:bW X (binaryOp .Add) (Kh X.K):=by
 intro pins s σ H x y v u Q I rx ry h
 obtain⟨a,b,xs,ys,rfl,rfl,ha,hb,hx,hz,q1,q2⟩:=h
 cases rx
 cases ry
 obtain⟨its,r1,p1,_⟩:=I.tuple ha
 obtain⟨its2,r2,p2,_⟩:=I.tuple hb
 refine HT.FI p1 p2 (fun z=>hx (r1.qi.mp z)) (fun z=>⟨.ref a,H,I,rfl,q1 (r2.qi.mp z)⟩) (fun z=>?_) (by rw[←r1.length,←r2.length];exact hz)
 refine⟨.ref s.heap.objs.size,_,I.laid (t':=s.toks) (o:=.tup (xs++ys)) (fun b ob q=>Heap.get?_push_of_some _ q) (Nat.le_refl _) ?_,rfl,q2 (fun w=>z (r2.qi.mpr w)) _ (I.hok.fresh (Nat.le_refl _))⟩
 exact⟨⟨by rw[List.length_append];exact hz,_,Heap.get?_push_size _ rfl,rfl⟩,_,r1.append r2,IsTup.new _ _⟩
end
def oh (n:Nat) (i:Int):Option Nat:=if 0≤i then(if i<n then some i.toNat else none) else if-(n:Int)≤i then some (i+n).toNat else none
def kH {α:Type} (xs:List α) (i:Int):Option α:=(oh xs.length i).bind fun j=>xs[j]?
theorem x8 {n:Nat} {i:Int} {j:Nat} (h:oh n i=some j):seqIndex? i n=some j∧j<n∧ -(n:Int)≤i∧i<n:=by
 unfold oh at h
 by_cases h0:0≤i
 ·rw[if_pos h0] at h
  by_cases h1:i<n
  ·rw[if_pos h1] at h
   have e:i.toNat=j:=Option.some.inj h
   exact⟨by rw[seqIndex_of h0 h1,e],by omega,by omega,h1⟩
  ·rw[if_neg h1] at h;cases h
 ·rw[if_neg h0] at h
  by_cases h1: -(n:Int)≤i
  ·rw[if_pos h1] at h
   have e:(i+n).toNat=j:=Option.some.inj h
   exact⟨by rw[seqIndex_neg (by omega) h1,e],by omega,h1,by omega⟩
  ·rw[if_neg h1] at h;cases h
theorem qj {α:Type} {xs:List α} {i:Int} {v:α} (h:kH xs i=some v):∃j,seqIndex? i xs.length=some j∧xs[j]? =some v∧j<xs.length∧ -(xs.length:Int)≤i∧i<xs.length:=by
 unfold kH at h
 cases e:oh xs.length i with
 | none=>rw[e] at h;cases h
 | some j=>
  rw[e] at h
  obtain⟨h1,h2,h3,h4⟩:=x8 e
  exact⟨j,h1,h,h2,h3,h4⟩
theorem aB {α:Type} {xs:List α} {j:Nat} {v:α} (h:xs[j]? =some v):kH xs (j:Int)=some v:=by
 have hj:j<xs.length:=(List.getElem?_eq_some_iff.mp h).1
 have e:oh xs.length (j:Int)=some j:=by
  unfold oh
  rw[if_pos (by omega),if_pos (by omega)];simp
 unfold kH;rw[e];exact h
def FJ (b:Expr):Prop:=∀o i,subscripted b false o i=operate [o,i] (getItem o i)
def x9 (X:Cx) (r:R2):Prop:=
 ∀(value slice:Expr) (pins:List (Addr×Obj)) (s:Shared) (σ:St) (H:Hp) (x y:V) (v u:Value) (Q:VK),Inv X pins σ H s→RelV x v→RelV y u→r x y H Q→
  subscripted slice false v u=operate [v,u] (getItem v u)→wpAny (model X.prog X.w) X.A (subscriptTail value slice v u) (EP X pins σ Q) X.xe s
def Eo (X:Cx) (id:String) (r:V→List V→Hp→VK→Prop):Prop:=
 ∀(pins:List (Addr×Obj)) (s:Shared) (σ:St) (H:Hp) (x:V) (xs:List V) (v:Value) (us:List Value) (Q:VK),Inv X pins σ H s→RelV x v→Vals xs us→r x xs H Q→
  wpAny (model X.prog X.w) X.A (call (.builtin id) (v::us)) (EP X pins σ Q) X.xe s
section
variable {X:Cx} {a b:Expr} {ta tb:TE} {pos:Pos}
theorem aK {r:R2} (hr:x9 X r) (ha:PE X a ta) (hb:PE X b tb) (hs:FJ b):PE X (.Subscript a b pos) (A2 r ta tb):=by
 intro pins s σ H Q I h
 exact Subscript_ (C8 ha hb I h fun v u s2 x y H2 I2 rx ry q=>hr a b pins s2 σ H2 x y v u Q I2 rx ry q (hs _ _))
def Hl (K:PySem.W.Frag):R2:=fun x y H Q=>∃p xs i v,x=.ref p∧y=.int i∧cF K H p xs∧kH xs i=some v∧Q v H
def Hm (K:PySem.W.Frag):R2:=fun x y H Q=>∃p xs i v,x=.ref p∧y=.int i∧bP K H p xs∧kH xs i=some v∧Q v H
def Nm:R2:=fun x y H Q=>∃z i c,x=.str z∧y=.int i∧z.length≤sizeLine∧kH z.cps.toList i=some c∧Q (.str ⟨#[c]⟩) H
theorem FK:x9 X (Hl X.K):=by
 intro value slice pins s σ H x y v u Q I rx ry h hs
 obtain⟨p,xs,i,z,rfl,rfl,hq,he,q⟩:=h
 cases rx
 obtain⟨t,rfl⟩:=ry
 obtain⟨its,r,pl,hz⟩:=I.list hq
 obtain⟨j,h1,h2,h3,h4,h5⟩:=qj he
 obtain⟨w,ew,mC⟩:=r.get h2
 have hl:=r.length
 have hn:=kF
 have fin:EP X pins σ Q w s:=⟨z,H,I,mC,q⟩
 by_cases h0:0≤i
 ·have hj:i.toNat=j:=by
   rw[seqIndex_of h0 h5] at h1
   exact Option.some.inj h1
  exact item_listR pl.isList h0 (by omega) (by rw[hj];simpa using ew) fin hs
 ·have hj:(i+(its.toArray.size:Int)).toNat=j:=by
   rw[seqIndex_neg (by omega) h4] at h1
   rw[List.size_toArray,←hl]
   exact Option.some.inj h1
  exact subscriptTail_builtinR (x:=w) pl.isList.typeIs slot_list_getitem.lookup
   (wpAny_getItem_list_neg (Q:=fun r s'=>r=w∧EP X pins σ Q r s') pl.isList (by omega) (by rw[List.size_toArray]<;>omega) (by omega) (by rw[hj];simpa using ew) ⟨rfl,fin⟩) hs
theorem Hn:x9 X (Hm X.K):=by
 intro value slice pins s σ H x y v u Q I rx ry h hs
 obtain⟨p,xs,i,z,rfl,rfl,hq,he,q⟩:=h
 cases rx
 obtain⟨t,rfl⟩:=ry
 obtain⟨its,r,pl,hz⟩:=I.tuple hq
 obtain⟨j,h1,h2,h3,h4,h5⟩:=qj he
 obtain⟨w,ew,mC⟩:=r.get h2
 have hl:=r.length
 have hn:=kF
 have fin:EP X pins σ Q w s:=⟨z,H,I,mC,q⟩
 exact subscriptTail_builtinR (x:=w) pl.typeIs slot_tuple_getitem.lookup
  (getItem_tuple (j:=j) (Q:=fun r s'=>r=w∧EP X pins σ Q r s') pl (by omega) (by omega) (by rw[List.size_toArray,←hl];exact h1) (by simpa using ew) ⟨rfl,fin⟩) hs
theorem uq:x9 X Nm:=by
 intro value slice pins s σ H x y v u Q I rx ry h hs
 obtain⟨z,i,c,rfl,rfl,hz,he,q⟩:=h
 obtain⟨t,rfl⟩:=rx
 obtain⟨t',rfl⟩:=ry
 obtain⟨j,h1,h2,h3,h4,h5⟩:=qj he
 have hl:z.cps.toList.length=z.length:=by simp[Str.length]
 rw[hl] at h1 h4 h5
 have hn:=kF
 exact tail_any (typeIs_str s z t) slot_str_getitem.lookup (getItem_str (c:=c) (by
  have e1:decide (i< -(2 ^ 63:Int))=false:=decide_eq_false (by omega)
  have e2:decide (i ≥ 2 ^ 63)=false:=decide_eq_false (by omega)
  rw[e1,e2,Bool.or_false]) (by rw[h1];simpa using h2) ⟨.str ⟨#[c]⟩,H,I.tok _,⟨_,rfl⟩,q⟩) hs
theorem y3 (its:List Value) (n j:Nat) (u:Value):Obj.mapSeq (·.setIfInBounds j u) {cls:=.type "list",data:=.seq its.toArray n}={cls:=.type "list",data:=.seq (its.set j u).toArray n}:=by
 simp[Obj.mapSeq]
theorem Inv.lst {pins:List (Addr×Obj)} {σ:St} {H:Hp} {s:Shared} {p:Addr} {xs:List V} (I:Inv X pins σ H s) (h:H p=some (.lst xs)):
  ∃(its:List Value) (n:Nat),Vals xs its∧s.heap.get? p=some {cls:=.type "list",data:=.seq its.toArray n}∧xs.length≤sizeLine:=by
 obtain⟨z,its,n,r,e⟩:=I.hok p _ h
 exact⟨its,n,r,e,z⟩
theorem Inv.Ho {pins:List (Addr×Obj)} {σ:St} {H:Hp} {s:Shared} {p:Addr} {xs ys:List V} {its its':List Value} {n n':Nat} {f:Obj→Obj} (I:Inv X pins σ H s) (h:H p=some (.lst xs))
  (ho:s.heap.get? p=some {cls:=.type "list",data:=.seq its.toArray n}) (hf:f {cls:=.type "list",data:=.seq its.toArray n}={cls:=.type "list",data:=.seq its'.toArray n'}) (r:Vals ys its') (hz:ys.length≤sizeLine) (t:Nat):
  Inv X pins σ (upd H p (.lst ys)) {s with heap:=s.heap.update p f,toks:=t}:=by
 have e:(s.heap.update p f).get? p=some {cls:=.type "list",data:=.seq its'.toArray n'}:=by
  rw[Heap.get?_update_self f ho (by rw[hf]<;>rfl),hf]
 refine I.write (x:=p) (e:=p) (by rw[h];trivial) (.inl rfl) (fun b u hb q=>(Heap.get?_update_other _ _ (Ne.symm hb)).trans q) ⟨_,e⟩ ?_
 exact⟨hz,its',n',r,e⟩
def Ki:V→V→V→Hp→(Hp→Prop)→Prop:=fun o i v H Q=>∃p xs k j,o=.ref p∧i=.int k∧H p=some (.lst xs)∧oh xs.length k=some j∧Q (upd H p (.lst (xs.set j v)))
theorem set_list:G5 X Ki:=by
 intro pins s σ H o i v ov iv u Q I ro ri rv h
 obtain⟨p,xs,k,j,rfl,rfl,hp,hj,q⟩:=h
 cases ro
 obtain⟨t,rfl⟩:=ri
 obtain⟨its,n,r,ho,hz⟩:=I.lst hp
 obtain⟨h1,h2,h3,h4⟩:=x8 hj
 have hl:=r.length
 have hn:=kF
 have I':Inv X pins σ (upd H p (.lst (xs.set j v))) {s with heap:=s.heap.update p (Obj.mapSeq (·.setIfInBounds j u))}:=
  I.Ho hp ho (y3 its n j u) (r.set rv j) (by rw[List.length_set];exact hz) s.toks
 by_cases h0:0≤k
 ·have hk:k.toNat=j:=by
   rw[seqIndex_of h0 h4] at h1
   exact Option.some.inj h1
  exact PySem.W.ki_setAt ho h0 (by omega) (by rw[List.size_toArray,←hl];exact h4) (by rw[hk];exact⟨_,I',q⟩)
 ·have hk:(k+(its.toArray.size:Int)).toNat=j:=by
   rw[seqIndex_neg (by omega) h3] at h1
   rw[List.size_toArray,←hl]
   exact Option.some.inj h1
  exact PySem.W.ki_setBack ho (by omega) (by rw[List.size_toArray,←hl];exact h3) (by omega) (by rw[hk];exact⟨_,I',q⟩)
theorem ur (lo hi:Option Int) (n:Nat):(sliceBounds lo hi none n).1=((HT.aM n 0 lo:Nat):Int)∧(sliceBounds lo hi none n).2.1=((HT.aM n n hi:Nat):Int)∧(sliceBounds lo hi none n).2.2=1:=by
 refine⟨?_,?_,rfl⟩
 ·cases lo with
  | none=>simp[sliceBounds,HT.aM]
  | some i=>
   simp only[sliceBounds,HT.aM,Option.getD_none,show(1:Int)>0 by decide,if_true]
   by_cases h:i<0
   ·simp only[h,if_true]<;>omega
   ·simp only[h,if_false]<;>omega
 ·cases hi with
  | none=>simp[sliceBounds,HT.aM]
  | some i=>
   simp only[sliceBounds,HT.aM,Option.getD_none,show(1:Int)>0 by decide,if_true]
   by_cases h:i<0
   ·simp only[h,if_true]<;>omega
   ·simp only[h,if_false]<;>omega
theorem tj (its:List Value) (lo hi:Option Int):slicePick its.toArray lo hi none=((its.drop (HT.aM its.length 0 lo)).take (HT.aM its.length its.length hi-HT.aM its.length 0 lo)).toArray:=by
 obtain⟨h1,h2,h3⟩:=ur lo hi its.toArray.size
 unfold slicePick
 rw[h1,h2,h3]
 simp only[sliceRange_one,pick_run,List.size_toArray]<;>rfl
def y4 (K:PySem.W.Frag):V→Option Int→Option Int→Hp→VK→Prop:=fun x lo hi H Q=>∃a xs,x=.ref a∧cF K H a xs∧∀p,H p=none→Q (.ref p) (upd H p (.lst (fG xs lo hi)))
theorem FL:x5 X (y4 X.K):=by
 intro pins s σ H x v vl vu lo hi sl Q I rx hs pl pu h
 obtain⟨a,xs,rfl,hx,q⟩:=h
 cases rx
 obtain⟨its,r,ht,hz⟩:=I.list hx
 have hlen:=r.length
 refine⟨"list",_,slot_list_getitem.lookup,ht.isList.typeIs,?_⟩
 refine wpAny_getItem_list_slice ht.isList hs pl pu .none (by simp) ?_ (by rw[List.size_toArray]<;>omega)
 rw[tj,←hlen]
 refine⟨.ref s.heap.objs.size,_,I.laid (t':=s.toks) (o:=.lst (fG xs lo hi)) (fun b ob q=>Heap.get?_push_of_some _ q) (Nat.le_refl _) ?_,rfl,q _ (I.hok.fresh (Nat.le_refl _))⟩
 exact⟨Nat.le_trans (og xs lo hi) hz,_,0,(r.drop (HT.aM xs.length 0 lo)).take (HT.aM xs.length xs.length hi-HT.aM xs.length 0 lo),Heap.get?_push_size _ rfl⟩
def iE:V→Bool
 | .non=>true
 | .bl _=>true
 | .int _=>true
 | .str _=>true
 | _=>false
def kI:V→V→Bool
 | .non,.non=>true
 | .bl a,.bl b=>a == b
 | .bl a,.int b=>(if a then 1 else 0) == b
 | .int a,.bl b=>a == (if b then 1 else 0)
 | .int a,.int b=>a == b
 | .str a,.str b=>a == b
 | _,_=>false
theorem A9 {A:Around} {s:Shared} {y x:V} {u v:Value} (ry:RelV y u) (rx:RelV x v) (fy:iE y=true) (fx:iE x=true):SeqAt.EqAt A s u v (kI y x):=by
 cases y with
 | non=>
  cases ry
  cases x with
  | non=>cases rx;exact SeqAt.EqAt.same _
  | bl b=>cases rx;exact SeqAt.EqAt.none_bool b
  | int b=>obtain⟨t,rfl⟩:=rx;exact SeqAt.EqAt.none_int b t
  | str b=>obtain⟨t,rfl⟩:=rx;exact SeqAt.EqAt.none_str b t
  | _=>exact absurd (show false=true from fx) Bool.false_ne_true
 | bl a=>
  cases ry
  cases x with
  | non=>cases rx;exact SeqAt.EqAt.bool_none a
  | bl b=>cases rx;exact SeqAt.EqAt.bool_bool a b
  | int b=>obtain⟨t,rfl⟩:=rx;exact SeqAt.EqAt.bool_int a b t
  | str b=>obtain⟨t,rfl⟩:=rx;exact SeqAt.EqAt.bool_str a b t
  | _=>exact absurd (show false=true from fx) Bool.false_ne_true
 | int a=>
  obtain⟨t',rfl⟩:=ry
  cases x with
  | non=>cases rx;exact SeqAt.EqAt.int_none a t'
  | bl b=>cases rx;exact SeqAt.EqAt.int_bool a t' b
  | int b=>obtain⟨t,rfl⟩:=rx;exact SeqAt.EqAt.int_int a t' b t
  | str b=>obtain⟨t,rfl⟩:=rx;exact SeqAt.EqAt.int_str a t' b t
  | _=>exact absurd (show false=true from fx) Bool.false_ne_true
 | str a=>
  obtain⟨t',rfl⟩:=ry
  cases x with
  | non=>cases rx;exact SeqAt.EqAt.str_none a t'
  | bl b=>cases rx;exact SeqAt.EqAt.str_bool a t' b
  | int b=>obtain⟨t,rfl⟩:=rx;exact SeqAt.EqAt.str_int a t' b t
  | str b=>obtain⟨t,rfl⟩:=rx;exact SeqAt.EqAt.str_str a t' b t
  | _=>exact absurd (show false=true from fx) Bool.false_ne_true
 | _=>exact absurd (show false=true from fy) Bool.false_ne_true
def jx (x:V) (u:Value):Bool:=match u with
 | .none=>kI .non x
 | .bool b=>kI (.bl b) x
 | .int i _=>kI (.int i) x
 | .str z _=>kI (.str z) x
 | _=>false
theorem Ba {x y:V} {u:Value} (r:RelV y u) (f:iE y=true):jx x u=kI y x:=by
 cases y with
 | non=>cases r;rfl
 | bl b=>cases r;rfl
 | int i=>obtain⟨t,rfl⟩:=r;rfl
 | str z=>obtain⟨t,rfl⟩:=r;rfl
 | _=>exact absurd (show false=true from f) Bool.false_ne_true
theorem kJ {x:V}:∀{xs:List V} {us:List Value},Vals xs us→xs.all iE=true→us.any (jx x)=xs.any fun y=>kI y x
 | _,_,.nil,_=>rfl
 | y::xs,u::us,.cons r t,f=>by
  rw[List.all_cons,Bool.and_eq_true] at f
  rw[List.any_cons,List.any_cons,Ba r f.1,kJ t f.2]
theorem jy {A:Around} {s:Shared} {x:V} {v:Value} (rx:RelV x v) (fx:iE x=true):∀{xs:List V} {us:List Value},Vals xs us→xs.all iE=true→∀u∈us,SeqAt.EqAt A s u v (jx x u)
 | _,_,.nil,_=>fun u hu=>by cases hu
 | y::xs,u::us,.cons r t,f=>fun u' hu=>by
  rw[List.all_cons,Bool.and_eq_true] at f
  rcases List.mem_cons.mp hu with rfl | hu
  ·rw[Ba r f.1];exact A9 r rx f.1 fx
  ·exact jy rx fx t f.2 u' hu
def inV (x:V) (xs:List V):Bool:=xs.any fun y=>kI y x
def Ep (K:PySem.W.Frag) (neg:Bool):R2:=fun x y H Q=>∃p xs,y=.ref p∧(cF K H p xs∨bP K H p xs)∧iE x=true∧xs.all iE=true∧Q (.bl (if neg then !inV x xs else inV x xs)) H
theorem Bb:bW X (compareOp .In) (Ep X.K false):=by
 intro pins s σ H x y v u Q I rx ry h
 obtain⟨p,xs,rfl,hq,fx,fs,q⟩:=h
 cases ry
 rcases hq with hq | hq
 ·obtain⟨its,r,pl,hz⟩:=I.list hq
  refine SeqAt.in_listAt (jx x) pl.isList (fun w hw=>jy rx fx r fs w (by simpa using hw)) ⟨.bl _,H,I,rfl,?_⟩
  rw[show its.toArray.any (jx x)=its.any (jx x) by simp,kJ r fs]
  exact q
 ·obtain⟨its,r,pl,hz⟩:=I.tuple hq
  refine SeqAt.in_tupleAt (jx x) pl (fun w hw=>jy rx fx r fs w (by simpa using hw)) ⟨.bl _,H,I,rfl,?_⟩
  rw[show its.toArray.any (jx x)=its.any (jx x) by simp,kJ r fs]
  exact q
theorem uv:bW X (compareOp .NotIn) (Ep X.K true):=by
 intro pins s σ H x y v u Q I rx ry h
 obtain⟨p,xs,rfl,hq,fx,fs,q⟩:=h
 cases ry
 rcases hq with hq | hq
 ·obtain⟨its,r,pl,hz⟩:=I.list hq
  refine SeqAt.notIn_listAt (jx x) pl.isList (fun w hw=>jy rx fx r fs w (by simpa using hw)) ⟨.bl _,H,I,rfl,?_⟩
  rw[show its.toArray.any (jx x)=its.any (jx x) by simp,kJ r fs]
  exact q
 ·obtain⟨its,r,pl,hz⟩:=I.tuple hq
  refine SeqAt.notIn_tupleAt (jx x) pl (fun w hw=>jy rx fx r fs w (by simpa using hw)) ⟨.bl _,H,I,rfl,?_⟩
  rw[show its.toArray.any (jx x)=its.any (jx x) by simp,kJ r fs]
  exact q
theorem uw:cZ X (.type "list") (fun xs H Q=>∃p ys,xs=[.ref p]∧(cF X.K H p ys∨bP X.K H p ys)∧∀l,H l=none→Q (.ref l) (upd H l (.lst ys))):=by
 intro pins s σ H xs us Q I r h
 obtain⟨p,ys,rfl,hq,q⟩:=h
 obtain⟨u,rfl,rx⟩:=vals1 r
 cases rx
 have fin:∀(its:List Value),Vals ys its→ys.length≤sizeLine→∀(h':Heap) (c':Nat),(∀b o',s.heap.get? b=some o'→h'.get? b=some o')→
   h'.get? s.heap.objs.size=some {cls:=.type "list",dict:=none,data:=.seq its.toArray c',slots:= #[]}→EP X pins σ Q (.ref s.heap.objs.size) {s with heap:=h'}:=fun its r' hz h' c' kp e=>
  ⟨.ref s.heap.objs.size,_,I.laid (t':=s.toks) kp (Nat.le_refl _) (show bV X.prog X.w _ h' _ (.lst ys) from⟨hz,its,c',r',e⟩),rfl,q _ (I.hok.fresh (Nat.le_refl _))⟩
 rcases hq with hq | hq
 ·obtain⟨its,r',pl,hz⟩:=I.list hq
  have hlen:=r'.length
  obtain⟨o,ho,hc,n,hd⟩:=pl.isList
  exact call_list_seq p (.inl rfl) ho hc hd (fun h' c' kp e=>fin its r' hz h' c' kp e) (by simp only[List.size_toArray]<;>omega)
 ·obtain⟨its,r',pl,hz⟩:=I.tuple hq
  have hlen:=r'.length
  obtain⟨o,ho,hc,n,hd⟩:=pl
  exact call_list_seq p (.inr rfl) ho hc hd (fun h' c' kp e=>fin its r' hz h' c' kp e) (by simp only[List.size_toArray]<;>omega)
theorem tq:cZ X (.type "tuple") (fun xs H Q=>∃p ys,xs=[.ref p]∧((cF X.K H p ys∧∀l,H l=none→Q (.ref l) (upd H l (.tup ys)))∨(bP X.K H p ys∧Q (.ref p) H))):=by
 intro pins s σ H xs us Q I r h
 obtain⟨p,ys,rfl,h⟩:=h
 obtain⟨u,rfl,rx⟩:=vals1 r
 cases rx
 rcases h with⟨hq,q⟩ | ⟨hq,q⟩
 ·obtain⟨its,r',pl,hz⟩:=I.list hq
  have hlen:=r'.length
  refine call_tuple_list pl.isList (fun h' kp=>?_) (by simp only[List.size_toArray]<;>omega)
  have I1:Inv X pins σ H {s with heap:=h'}:=I.kept (t':=s.toks) kp
  have I2:Inv X pins σ (upd H h'.objs.size (.tup ys)) {s with heap:=h'.push {cls:=.type "tuple",data:=.seq its.toArray}}:=
   I1.laid (t':=s.toks) (fun b o e=>Heap.get?_push_of_some _ e) (Nat.le_refl _) (show bV X.prog X.w _ _ _ (.tup ys) from⟨⟨hz,_,Heap.get?_push_size _ rfl,rfl⟩,its,r',IsTup.new _ _⟩)
  exact⟨.ref h'.objs.size,_,I2,rfl,q _ (I1.hok.fresh (Nat.le_refl _))⟩
 ·obtain⟨its,r',pl,hz⟩:=I.tuple hq
  exact call_tuple_same pl ⟨.ref p,H,I,rfl,q⟩
def Er (K:PySem.W.Frag) (T:String) (x:V) (H:Hp):Prop:=match x with
 | .str _=>T="str"
 | .int _=>T="int"
 | .ref p=>(T="list"∧∃xs,cF K H p xs)∨(T="tuple"∧∃o,K.lookup p=some o∧o.cls=.type "tuple"∧o.dict=none)∨
   (T="dict"∧((∃kvs,H p=some (.dK kvs))∨∃kvs,H p=some (.dT kvs)))∨(T="set"∧∃S n,H p=some (.set S n))
 | _=>False
theorem ux {pins:List (Addr×Obj)} {σ:St} {H:Hp} {s:Shared} {T:String} {x:V} {v:Value} (I:Inv X pins σ H s) (r:RelV x v) (ty:Er X.K T x H):
  s.TypeIs v T∧∀a,v=.ref a→∃ob,s.heap.get? a=some ob∧ob.dict=none:=by
 cases x with
 | str z=>
  obtain⟨t,rfl⟩:=r
  cases(show T="str" from ty)
  exact⟨typeIs_str s z t,fun _ e=>nomatch e⟩
 | int i=>
  obtain⟨t,rfl⟩:=r
  cases(show T="int" from ty)
  exact⟨typeIs_int s i t,fun _ e=>nomatch e⟩
 | ref p=>
  cases r
  rcases ty with⟨rfl,xs,hq⟩ | ⟨rfl,o,hk,hc,hd⟩ | ⟨rfl,hk⟩ | ⟨rfl,S,n,hk⟩
  ·obtain⟨its,_,pl,_⟩:=I.list hq
   refine⟨pl.isList.typeIs,fun a e=>?_⟩
   cases e
   obtain⟨o,n,e,c,hd,_⟩:=pl
   exact⟨o,e,hd⟩
  ·refine⟨⟨o,I.gi p o hk,hc⟩,fun a e=>?_⟩
   cases e
   exact⟨o,I.gi _ o hk,hd⟩
  ·have z:∃o,s.heap.get? p=some o∧o.ExactDict:=by
    rcases hk with⟨kvs,hk⟩ | ⟨kvs,hk⟩
    ·obtain⟨_,_,_,_,o,_,_,e,ex,_⟩:=I.hok p _ hk
     exact⟨o,e,ex⟩
    ·obtain⟨_,_,_,_,o,_,_,e,ex,_⟩:=I.hok p _ hk
     exact⟨o,e,ex⟩
   obtain⟨o,e,ex⟩:=z
   refine⟨⟨o,e,ex.1⟩,fun a e2=>?_⟩
   cases e2
   exact⟨o,e,ex.2.1⟩
  ·obtain⟨o,_,_,_,e,ex,_⟩:=I.hok p _ hk
   refine⟨⟨o,e,ex.1⟩,fun a e2=>?_⟩
   cases e2
   exact⟨o,e,ex.2.1⟩
 | _=>exact False.elim ty
def Nn (K:PySem.W.Frag) (T:String) (r:V→List V→Hp→VK→Prop) (to:TE):TE:=fun σ H Q=>to σ H fun x H1=>Er K T x H1∧r x [] H1 Q
def Hq (K:PySem.W.Frag) (T:String) (r:V→List V→Hp→VK→Prop) (to:TE) (t:TA):TE:=fun σ H Q=>to σ H fun x H1=>Er K T x H1∧t σ H1 fun xs H2=>r x xs H2 Q
variable {o e:Expr} {es:List Expr} {to:TE} {t:TA} {name:Str} {apos cpos:Pos} {T id:String} {r:V→List V→Hp→VK→Prop}
theorem pb (pa:PlainAttrs T) (slot:Slot T name id) (hty:typeOf (.builtin id)=pure (.type "method_descriptor")) (hm:Eo X id r) (ho:PE X o to)
  (hbase:attributeBase o name X.env (eval o X.env)=eval o X.env:=by rfl) (hline:(apos.endLine == cpos.line)=true:=by rfl):PE X (.Call (.Attribute o name apos) [] [] cpos) (Nn X.K T r to):=by
 intro pins s σ H Q I h
 refine wpAny_Call_method0_late hbase hline (aG (ho pins s σ H _ I h) fun v s1 ⟨x,H1,I1,r1,ty,q1⟩=>?_)
 obtain⟨h1,h2⟩:=ux I1 r1 ty
 exact⟨T,id,pa,slot,hty,h1,h2,Calls.callWith_builtin rfl (PySem.evalArgs_none (hm pins s1 σ H1 x [] v [] Q I1 r1 .nil q1))⟩
theorem cP (pa:PlainAttrs T) (slot:Slot T name id) (hty:typeOf (.builtin id)=pure (.type "method_descriptor")) (hm:Eo X id r) (ho:PE X o to) (ha:PA X (e::es) t)
  (hbase:attributeBase o name X.env (eval o X.env)=eval o X.env:=by rfl)
  (hfew:((backTo cpos (starEach (e::es) X.env)).all (fun x=> !x.1)&&(backToKw cpos (keywordEach [] X.env)).all (fun x=>x.1.isSome)
   &&decide ((e::es).length+([]:List Keyword).length+(if([]:List Keyword).isEmpty then 0 else 1)<30))=true:=by rfl)
  (hline:(apos.endLine == cpos.line)=true:=by rfl) (hs:starEach (e::es) X.env=(false,eval e X.env)::starEach es X.env:=by rfl) (hplain:(backTo cpos (starEach es X.env)).any (·.1)=false:=by rfl):
  PE X (.Call (.Attribute o name apos) (e::es) [] cpos) (Hq X.K T r to t):=by
 intro pins s σ H Q I h
 refine wpAny_Call_method_late hbase hfew hline rfl (aG (ho pins s σ H _ I h) fun v s1 ⟨x,H1,I1,r1,ty,q1⟩=>?_)
 obtain⟨h1,h2⟩:=ux I1 r1 ty
 refine⟨T,id,pa,slot,hty,h1,h2,?_⟩
 have hA:=ha cpos pins s1 σ H1 _ I1 q1
 rw[hs] at hA ⊢
 refine Calls.callWith_builtin (by show(false||(backTo cpos (starEach es X.env)).any (·.1))=false;rw[hplain]<;>rfl) (Calls.evalArgs_plain ?_)
 exact aG hA fun us s2 ⟨vs,H2,I2,r2,q2⟩=>hm pins s2 σ H2 x vs v us Q I2 r1 r2 q2
end
def rC (X:Cx) (id:String) (r:V→List V→Hp→VK→Prop):Prop:=
 ∀(pins:List (Addr×Obj)) (s:Shared) (σ:St) (H:Hp) (x:V) (xs:List V) (v:Value) (us:List Value) (Q:VK),Inv X pins σ H s→RelV x v→Vals xs us→r x xs H Q→
  wpAny (model X.prog X.w) X.A (call (.builtin id) (v::us)) (EP X pins σ Q) X.xe s
theorem Vals.one:∀{x:V} {us:List Value},Vals [x] us→∃u,us=[u]∧RelV x u
 | _,_,.cons r .nil=>⟨_,rfl,r⟩
theorem Vals.two:∀{x y:V} {us:List Value},Vals [x,y] us→∃u v,us=[u,v]∧RelV x u∧RelV y v
 | _,_,_,.cons r (.cons q .nil)=>⟨_,_,rfl,r,q⟩
theorem Vals.zero:∀{us:List Value},Vals [] us→us=[]
 | _,.nil=>rfl
theorem Vals.dropLast {xs:List V} {us:List Value} (h:Vals xs us):Vals xs.dropLast us.dropLast:=by
 induction h with
 | nil=>exact .nil
 | cons r t ih=>
  cases t with
  | nil=>exact .nil
  | cons q t'=>exact .cons r ih
theorem Vals.reverse {xs:List V} {us:List Value} (h:Vals xs us):Vals xs.reverse us.reverse:=by
 induction h with
 | nil=>exact .nil
 | cons r t ih=>rw[List.reverse_cons,List.reverse_cons];exact Vals.append ih (.cons r .nil)
theorem Vals.rep {xs:List V} {us:List Value} (h:Vals xs us):∀k:Nat,Vals (List.replicate k xs).flatten (List.replicate k us).flatten
 | 0=>.nil
 | k+1=>by
  rw[List.replicate_succ,List.replicate_succ,List.flatten_cons,List.flatten_cons]
  exact Vals.append h (Vals.rep h k)
theorem y6 {α:Type} (l:List α):l.eraseIdx (l.length-1)=l.dropLast:=by
 induction l with
 | nil=>rfl
 | cons a r ih=>
  cases r with
  | nil=>rfl
  | cons b r=>
   have e:(a::b::r).length-1=((b::r).length-1)+1:=by
    have h1:(a::b::r).length=r.length+2:=rfl
    have h2:(b::r).length=r.length+1:=rfl
    omega
   rw[e,List.eraseIdx_cons_succ,ih]
   all_goals rfl
theorem foldl_rep (its:List Value):∀(k:Nat) (acc:List Value),
  List.foldl (fun x1 x2=>x1++x2) acc.toArray (List.replicate k its.toArray)=(acc++(List.replicate k its).flatten).toArray
 | 0,acc=>by simp
 | k+1,acc=>by
  have e:acc.toArray++its.toArray=(acc++its).toArray:=by simp
  have e2:(acc++its)++(List.replicate k its).flatten=acc++(List.replicate (k+1) its).flatten:=by
   rw[List.replicate_succ,List.flatten_cons,List.append_assoc]
  rw[←e2,←foldl_rep its k (acc++its),←e,List.replicate_succ,List.foldl_cons]
section
variable {X:Cx} {pins:List (Addr×Obj)} {σ:St} {H:Hp} {s:Shared} {l b:Addr} {xs ys zs:List V}
theorem Inv.y8 {its its':List Value} {n:Nat} {f:Array Value→Array Value} {t':Nat} (I:Inv X pins σ H s) (hH:H l=some (.lst xs))
  (e:s.heap.get? l=some {cls:=.type "list",data:=.seq its.toArray n}) (hf:f its.toArray=its'.toArray) (hv:Vals ys its') (hz:ys.length≤sizeLine):
  Inv X pins σ (upd H l (.lst ys)) {s with heap:=s.heap.update l (Obj.mapSeq f),toks:=t'}:=by
 have q:=PySem.IsL.update e f
 rw[hf] at q
 refine I.write (x:=l) (e:=l) (by rw[hH];exact trivial) (.inl rfl) (fun b' u hb hu=>(Heap.get?_update_other s.heap (Obj.mapSeq f) (Ne.symm hb)).trans hu) ⟨_,q⟩ ?_
 exact⟨hz,its',_,hv,q⟩
theorem Inv.uy {its:List Value} {t':Nat} (I:Inv X pins σ H s) (hv:Vals ys its) (hz:ys.length≤sizeLine):
  Inv X pins σ (upd H s.heap.objs.size (.lst ys)) {s with heap:=s.heap.push {cls:=.type "list",data:=.seq its.toArray},toks:=t'}:=
 I.laid (fun _ _ q=>Heap.get?_push_of_some _ q) (Nat.le_refl _) ⟨hz,its,0,hv,Heap.get?_push_size _ rfl⟩
theorem Inv.fresh (I:Inv X pins σ H s):H s.heap.objs.size=none:=I.hok.fresh (Nat.le_refl _)
theorem Inv.mT (I:Inv X pins σ H s) (hH:H l=some (.lst xs)):xs.length≤sizeLine∧∃(its:List Value) (n:Nat),Vals xs its∧xs.length=its.length∧s.heap.get? l=some {cls:=.type "list",data:=.seq its.toArray n}:=by
 obtain⟨z,its,n,r,e⟩:=I.hok l _ hH
 exact⟨z,its,n,r,r.length,e⟩
theorem uz {n:Nat} (h:n≤sizeLine):Builtin.List.listTooLong n=false:=by
 unfold Builtin.List.listTooLong
 exact decide_eq_false (by omega)
end
section
variable {X:Cx}
def FN:V→List V→Hp→VK→Prop:=fun x vs H Q=>∃l xs y,x=.ref l∧vs=[y]∧H l=some (.lst xs)∧xs.length<sizeLine∧Q .non (upd H l (.lst (xs++[y])))
theorem fH:rC X "list.append" FN:=by
 intro pins s σ H x vs v us Q I rx rv h
 obtain⟨l,xs,y,rfl,rfl,hH,hz,q⟩:=h
 cases rx
 obtain⟨u,rfl,ru⟩:=rv.one
 obtain⟨z,its,n,r,hl,e⟩:=I.mT hH
 refine call_meets F.slot_list_append ⟨_,e,rfl⟩ F.entry_list_append (F.args_list_append_2 _ _) (PySem.list_append l its.toArray n u (by rw[List.size_toArray];omega)) ⟨e,?_⟩
 refine⟨.non,_,I.y8 (its':=its++[u]) hH e (by simp) (r.append (.cons ru .nil)) ?_,rfl,q⟩
 rw[List.length_append,List.length_singleton]
 omega
def FO:V→List V→Hp→VK→Prop:=fun x vs H Q=>∃l b xs zs,x=.ref l∧vs=[.ref b]∧H l=some (.lst xs)∧H b=some (.lst zs)∧xs.length+zs.length≤sizeLine∧Q .non (upd H l (.lst (xs++zs)))
theorem Bc:rC X "list.extend" FO:=by
 intro pins s σ H x vs v us Q I rx rv h
 obtain⟨l,b,xs,zs,rfl,rfl,hH,hB,hz,q⟩:=h
 cases rx
 obtain⟨u,rfl,ru⟩:=rv.one
 cases ru
 obtain⟨z,its,n,r,hl,e⟩:=I.mT hH
 obtain⟨z2,its2,n2,r2,hl2,e2⟩:=I.mT hB
 have hsz:its.toArray.size+its2.toArray.size≤sizeLine:=by rw[List.size_toArray,List.size_toArray];omega
 have y9:¬(!its.toArray.isEmpty&&Builtin.List.listTooLong (its.toArray.size+its2.toArray.size))=true:=by
  rw[uz hsz,Bool.and_false]
  exact Bool.false_ne_true
 refine call_meets F.slot_list_extend ⟨_,e,rfl⟩ F.entry_list_extend (F.args_list_extend_2 _ _)
  (AutoSeq1.list_extend_list_list_0 l its.toArray n b its2.toArray n2 y9 (by rw[List.size_toArray];omega) (by omega)) ⟨e,e2,?_⟩
 refine⟨.non,_,I.y8 (its':=its++its2) hH e (by simp) (r.append r2) ?_,rfl,q⟩
 rw[List.length_append]
 omega
def Np:V→List V→Hp→VK→Prop:=fun x vs H Q=>∃l xs y,x=.ref l∧vs=[]∧H l=some (.lst xs)∧xs[xs.length-1]? =some y∧Q y (upd H l (.lst xs.dropLast))
theorem Hr:rC X "list.pop" Np:=by
 intro pins s σ H x vs v us Q I rx rv h
 obtain⟨l,xs,y,rfl,rfl,hH,hy,q⟩:=h
 cases rx
 have hus:=rv.zero
 subst hus
 obtain⟨z,its,n,r,hl,e⟩:=I.mT hH
 obtain⟨u,hu,ru⟩:=r.get hy
 have hy':its.toArray[its.toArray.size-1]? =some u:=by
  show its.toArray[its.length-1]? =some u
  rw[←Array.getElem?_toList,←hl]
  exact hu
 refine call_meets F.slot_list_pop ⟨_,e,rfl⟩ F.entry_list_pop (F.args_list_pop_1 _) (MeetsSeq.list_pop_last l its.toArray n u hy' (by rw[List.size_toArray];omega)) ⟨e,?_⟩
 refine⟨y,_,I.y8 (its':=its.dropLast) hH e ?_ r.dropLast ?_,ru,q⟩
 ·show its.toArray.eraseIdxIfInBounds (its.toArray.size-1)=its.dropLast.toArray
  rw[List.size_toArray,List.eraseIdxIfInBounds_toArray,y6]
 ·rw[List.length_dropLast]
  omega
def Df:V→List V→Hp→VK→Prop:=fun x vs H Q=>∃l xs,x=.ref l∧vs=[]∧H l=some (.lst xs)∧Q .non (upd H l (.lst xs.reverse))
theorem y':rC X "list.reverse" Df:=by
 intro pins s σ H x vs v us Q I rx rv h
 obtain⟨l,xs,rfl,rfl,hH,q⟩:=h
 cases rx
 have hus:=rv.zero
 subst hus
 obtain⟨z,its,n,r,hl,e⟩:=I.mT hH
 refine call_meets F.slot_list_reverse ⟨_,e,rfl⟩ F.entry_list_reverse (F.args_list_reverse_1 _) (AutoSeq1.list_reverse_list_0 l its.toArray n (by rw[List.size_toArray];omega)) ⟨e,?_⟩
 refine⟨.non,_,I.y8 (its':=its.reverse) hH e (by simp) r.reverse ?_,rfl,q⟩
 rw[List.length_reverse]
 omega
def Hs:R2:=fun x y H Q=>∃l b xs zs,x=.ref l∧y=.ref b∧H l=some (.lst xs)∧H b=some (.lst zs)∧xs.length+zs.length≤sizeLine∧∀p,H p=none→Q (.ref p) (upd H p (.lst (xs++zs)))
theorem bY:bW X (binaryOp .Add) Hs:=by
 intro pins s σ H x y v u Q I rx ry h
 obtain⟨l,b,xs,zs,rfl,rfl,hH,hB,hz,q⟩:=h
 cases rx
 cases ry
 obtain⟨z,its,n,r,hl,e⟩:=I.mT hH
 obtain⟨z2,its2,n2,r2,hl2,e2⟩:=I.mT hB
 refine PySem.P.add_list e e2 ?_ (by rw[List.size_toArray,List.size_toArray];omega)
 have ea:its.toArray++its2.toArray=(its++its2).toArray:=by simp
 rw[ea]
 exact⟨.ref _,_,I.uy (t':=s.toks) (r.append r2) (by rw[List.length_append];omega),rfl,q _ I.fresh⟩
def Nq:R2:=fun x y H Q=>∃l k xs,x=.ref l∧y=.int k∧H l=some (.lst xs)∧ -(2 ^ 63)≤k∧k<2 ^ 63∧xs.length*k.toNat≤sizeLine∧
 ∀p,H p=none→Q (.ref p) (upd H p (.lst (List.replicate k.toNat xs).flatten))
theorem len_rep {α:Type} (xs:List α) (k:Nat):(List.replicate k xs).flatten.length=k*xs.length:=by
 induction k with
 | zero=>simp
 | succ k ih=>rw[List.replicate_succ,List.flatten_cons,List.length_append,ih,Nat.succ_mul,Nat.add_comm]
theorem Ht:bW X (binaryOp .Mult) Nq:=by
 intro pins s σ H x y v u Q I rx ry h
 obtain⟨l,k,xs,rfl,rfl,hH,h1,h2,hz,q⟩:=h
 cases rx
 obtain⟨t,rfl⟩:=ry
 obtain⟨z,its,n,r,hl,e⟩:=I.mT hH
 have hlen:its.toArray.size*k.toNat≤sizeLine:=by rw[List.size_toArray,←hl];exact hz
 have hcap:¬its.toArray.size*k.toNat>(2 ^ 63-1) / 8:=by
  have:(sizeLine:Nat)≤(2 ^ 63-1) / 8:=by decide
  omega
 have hfit:¬(!Builtin.List.listFitsIndex k)=true:=by
  rw[fitsIndex_both h1 h2]
  exact Bool.false_ne_true
 have y9:¬Builtin.List.listTooLong (its.toArray.size*k.toNat)=true:=by
  rw[uz hlen]
  exact Bool.false_ne_true
 have hnew:List.foldl (fun x1 x2=>x1++x2) #[] (List.replicate (if its.toArray.isEmpty=true then 0 else k.toNat) its.toArray)=(List.replicate k.toNat its).flatten.toArray:=by
  have f0:∀m:Nat,List.foldl (fun x1 x2=>x1++x2) #[] (List.replicate m its.toArray)=(List.replicate m its).flatten.toArray:=fun m=>by
   have:=foldl_rep its m []
   rw[List.nil_append] at this
   exact this
  rw[f0]
  cases its with
  | nil=>simp
  | cons a r'=>rw[if_neg (by simp)]
 refine wpAny_binaryOp_repeat_ref (T:="list") (U:="int") (by decide) ⟨_,e,rfl⟩ (fun s'=>typeIs_int s' k t) noFill_list_mul F.fills_int_mul F.slot_int_rmul repeat_list F.slot_int_index.lookup
  (call_meets F.slot_int_rmul (typeIs_int s k t) F.entry_int_rmul (F.args_int_rmul_2 _ _) (int___rmul___int_list k t l its.toArray n)
   ⟨e,rfl,⟨_,e,rfl⟩,call_meets F.slot_list_mul ⟨_,e,rfl⟩ F.entry_list_mul (F.args_list_mul_2 _ _) (AutoListH.list___mul___list_int_3 l its.toArray n k t hfit hcap y9) ⟨e,?_⟩⟩)
 rw[hnew]
 exact⟨.ref _,_,I.uy (t':=s.toks) (r.rep k.toNat) (by rw[len_rep,Nat.mul_comm];exact hz),rfl,q _ I.fresh⟩
end
end L2
namespace LK
open PySem PySem.W PySem.Calls PyProof.Rows
theorem pe {P:Params} {h:Heap}:∀(ns:List Int) (vs:List Value),WellAll P h vs (ns.map WData.int)→IntsAre vs ns:=by
 intro ns
 induction ns with
 | nil=>
  intro vs w
  rw[List.map_nil] at w
  cases w
  exact .nil
 | cons n ns ih=>
  intro vs w
  rw[List.map_cons] at w
  cases w with
  | cons a b=>
   cases a
   exact .cons _ _ (ih _ b)
theorem Bd {l:OpenLaw} {n:Nat} (hn:l.most=some n) {P:Params} {h:Heap} {args:List WData} {vals:List Value}
  (hpre:l.row.toRowW.claim.pre args=true) (hwl:WellAll P h vals args):
  ∃a vs ns,vals=[Value.ref a]∧args=[WData.list (ns.map WData.int)]∧h.get? a=some {cls:=.type "list",data:=.seq vs.toArray}∧IntsAre vs ns∧ns.length≤n:=by
 have hsh:WShape.hasAll [] args [.list .int]=true:=(pre_splitW hpre).1
 have hc:l.pre.holds [] {args:=args}=true:=(pre_splitW hpre).2
 obtain⟨d,r,rfl,h1,h2⟩:=hasAllW_cons hsh
 obtain rfl:=hasAllW_nil h2
 obtain⟨xs,rfl,h3⟩:=hasW_list h1
 obtain⟨ns,rfl⟩:=items_int h3
 have hlen:ns.length≤n:=by
  unfold OpenLaw.pre at hc
  have h4:(WTm.not (.lt (.lit (.int (n:Int))) (.len (.arg 0)))).holds [] {args:=[.list (ns.map .int)]}=true:=by
   have h4:=(holds_andW hc).1
   rw[hn] at h4
   exact h4
  have h5:=condW_of h4 (w_not (w_lt w_lit (w_len_list (w_arg rfl))))
  rw[List.length_map] at h5
  refine Nat.le_of_not_lt fun q=>?_
  have q':(n:Int)<((ns.length:Nat):Int):=by omega
  first
   | (rw[decide_eq_true q'] at h5;exact absurd h5 (by decide))
   | (simp at h5;omega)
 cases hwl with
 | cons w1 w2=>
  cases w2
  cases w1 with
  | list ho hall=>exact⟨_,_,ns,rfl,rfl,ho,pe ns _ hall,hlen⟩
theorem Be (l:OpenLaw) (args:List WData):l.row.toRowW.claim.post args (.bool true) args=true:=
 postW_of (r:=l.row.toRowW) (X:=(true == true))
  (show WShape.has [] (.bool true) .bool=true by first | rfl | decide | simp[WShape.has,WShape.arms,WShape.armsAll])
  (show(WTm.eq .res (.lit (.bool true))).value [] {args:=args,res:=some (.bool true),after:=args}=some (.bool (true == true)) from w_eq_bool (w_res rfl) w_lit) rfl
theorem wO {l:OpenLaw} {n:Nat} {q:Program} {loose:List Str} {XP:(Str→Option Value)→Heap→Prop} {YP:World→Heap→Prop} {d:DefRec}
  (hn:l.most=some n) (hdf:d.params.defaults=[])
  (call:∀(w:World) (s₀ s₁:Shared) (mg mb:Str→Option Value) (fa:Addr) (o:Obj) (pm cd doc:Value) (a:Addr) (vs:List Value) (ns:List Int),
   Ground q loose [] XP w s₀ mg mb s₁.heap→YP w s₁.heap→
   s₁.heap.get? fa=some o→o.data=.func (docDef d.name d.params d.body d.scope pm cd doc)→s₁.heap.CodeRec cd d.name→mg d.name=some (.ref fa)→
   s₁.heap.get? a=some {cls:=.type "list",data:=.seq vs.toArray}→IntsAre vs ns→ns.length≤n→s₁.gens= #[]→
   codeAny (model l.prog w) callerA (.call (.ref fa) ⟨[.ref a],[]⟩) (fun r s'=>r=.ok (.ret (.bool true))∧OldK s₁.heap s'.heap∧s'.os=s₁.os∧AllBare s'.gens) s₁):
  WalkO q loose XP YP l.row.toRowW d [] (fun f vs=>PySem.call f vs):=by
 intro w s₀ s₁ mg mb G Y fa o pm cd doc dV kV ho hd hcd hD hmg hg args vals as hpre hlay hrd hwl hlo
 obtain rfl:dV=.none:=Dflts.none hD hdf
 obtain rfl:kV=.none:=Dflts.noKw hD
 obtain⟨a,vs,ns,rfl,rfl,hobj,hints,hlen⟩:=Bd hn hpre hwl
 refine enter_call (codeAny_mono (call w s₀ s₁ mg mb fa o pm cd doc a vs ns G Y ho (fd_plain hd) hcd hmg hobj hints hlen hg) fun r s' hq=>?_)
 obtain⟨rfl,h2,h3,h4⟩:=hq
 exact⟨.inl ⟨.bool true,.bool true,[],rfl,fun _=>rfl,.bool true,Be l _,fun _=>⟨List.Pairwise.nil,fun _ hm=>(nomatch hm)⟩⟩,h2,h3,h4⟩
end LK
namespace L2
open PySem PySem.Spec PyProof.Rows
theorem rD:∀{vs:List Value} {ns:List Int},IntsAre vs ns→Vals (ns.map V.int) vs
 | _,_,.nil=>.nil
 | _,_,.cons n t h=>.cons ⟨t,rfl⟩ (rD h)
def Only (H:Hp):Prop:=∀b,H b=none∨∃o xs,H b=some (.nZ o (.lst xs))
theorem Dg {P:Program} {w:World} {K:PySem.W.Frag} {mg mb:Str→Option Value} {CX:mS} {k:Nat} {fa a:Addr} {fd:FuncData} {x:Str} {sp:Sp} {s₁:Shared} {vs:List Value} {ns:List Int}
  (KX:K.In s₁.heap) (hns:s₁.heap.Ns mainGlobals mg) (hb:s₁.heap.Ns builtinsNs mb) (hbb:∀x:Str,x≠"__name__"→mb x=bootBuiltins x) (hlim:s₁.heap.NoLimit) (hg:s₁.gens= #[])
  (ha:s₁.heap.get? a=some {cls:=.type "list",data:=.seq vs.toArray}) (hi:IntsAre vs ns) (hl:ns.length≤sizeLine) (hr:aO k callerA)
  (F:∀base:Heap,K.In base→base.Ns mainGlobals mg→bC P w K mg base CX k fa fd [x] sp) (hbind:∀(s:Shared) (u:Value),BindsTo s fd ⟨[u],[]⟩ [(x,u)])
  (hsp:∀H:Hp,Only H→cF K H a (ns.map V.int)→sp [.ref a] H (fun v _=>v=.bl true) fun _ _ _=>False)
  (Hu:∀H e s',CX [] H s₁ (fun _ _ _=>False) e s'→False):
  codeAny (model P w) callerA (.call (.ref fa) ⟨[.ref a],[]⟩) (fun r s'=>r=.ok (.ret (.bool true))∧OldK s₁.heap s'.heap∧s'.os=s₁.os∧AllBare s'.gens) s₁:=by
 have rv:=rD hi
 have lenV:=hi.length
 have core:∀H:Hp,Only H→cF K H a (ns.map V.int)→du P w H s₁.heap→(∀b,H b≠none→b=a)→(H a≠none→K.lookup a=none)→
   codeAny (model P w) callerA (.call (.ref fa) ⟨[.ref a],[]⟩) (fun r s'=>r=.ok (.ret (.bool true))∧OldK s₁.heap s'.heap∧s'.os=s₁.os∧AllBare s'.gens) s₁:=by
  intro H hO hS hok hA hK
  have kK:∀{b:Addr} {o:Obj},s₁.heap.get? b=some o→H b=none→(lE s₁.heap H).get? b=some o:=fun e n=>C5 e n
  have A8:∀{b:Addr} {o:Obj} {es:Array DictEntry} {ep:Nat},s₁.heap.get? b=some o→o.data=.dict es ep→H b=none:=fun {b o es ep} e d=>by
   cases q:H b with
   | none=>rfl
   | some u=>
    have e':b=a:=hA b (by rw[q];simp)
    subst e'
    rw[ha] at e;cases e
    have d':Data.seq vs.toArray _=Data.dict es ep:=d
    cases d'
  have Es:∀{b:Addr} {m:Str→Option Value},s₁.heap.Ns b m→(lE s₁.heap H).Ns b m:=fun {b m} ⟨o,es,ep,e,d,r⟩=>⟨o,es,ep,kK e (A8 e d),d,r⟩
  have LL:K.In (lE s₁.heap H):=fun b o e=>kK (KX b o e) (by
   cases q:H b with
   | none=>rfl
   | some u=>
    have e':b=a:=hA b (by rw[q];simp)
    subst e'
    rw[hK (by rw[q];simp)] at e;cases e)
  have hM:Mod K mg (lE s₁.heap H):=⟨LL,Es hns,⟨mb,Es hb,hbb⟩,let ⟨mc,h1,h2⟩:=hlim;⟨mc,Es h1,h2⟩⟩
  have e0:oK P w K mg (lE s₁.heap H) callerA [] s₁ H:=⟨rfl,hM,fun b o e=>FG e,Nat.le_of_eq (AQ _ _),trivial,fun b hb=>absurd (show b∈([]:List Addr) from hb) (by simp),hok,.of_eq hg⟩
  refine codeAny_mono ((F _ LL (Es hns)).run callerA [] s₁ H ⟨[.ref a],[]⟩ [.ref a] [.ref a] _ _ hr e0 (hbind s₁ (.ref a)) (.cons rfl .nil) (hsp H hO hS)) fun r s' h=>?_
  cases r with
  | error e=>exact(Hu H e s' h).elim
  | ok fl=>
   cases fl with
   | next=>exact False.elim h
   | brk=>exact False.elim h
   | cont=>exact False.elim h
   | ret u=>
    obtain⟨v,H',os,bare,un,hok',r',q⟩:=h
    have q':v=.bl true:=q
    subst q'
    obtain rfl:u=Value.bool true:=r'
    refine⟨rfl,OldK.of_keep fun b o e=>?_,os,bare⟩
    cases q:H b with
    | none=>exact un.keep b o e q (by intro z;exact absurd (show b∈([]:List Addr) from z) (by simp)) (by simp)
    | some u=>
     rcases hO b with z | ⟨ob,xs,z⟩
     ·rw[q] at z;cases z
     ·have z2:=un.kc b ob _ z
      obtain⟨e1,_⟩:=hok b _ z
      obtain⟨e2,_⟩:=hok' b _ z2
      rw[e] at e1;cases e1
      exact e2
 cases hk:K.lookup a with
 | some o=>
  have e:=KX a o hk
  rw[ha] at e
  cases e
  refine core (fun _=>none) (fun _=>.inl rfl) (.inr ⟨_,vs.toArray,_,hk,rfl,rfl,rfl,by rw[List.size_toArray,lenV];exact hl,by simpa using rv⟩) (fun b u z=>by have z':(none:Option HO)=some u:=z;cases z') (fun b z=>absurd rfl z) fun z=>absurd rfl z
 | none=>
  refine core (fun b=>if b=a then some (.nZ {cls:=.type "list",data:=.seq vs.toArray} (.lst (ns.map V.int))) else none) (fun b=>?_) (.inl (.inr ⟨{cls:=.type "list",data:=.seq vs.toArray},if_pos rfl⟩)) (fun b u z=>?_) (fun b z=>?_) fun _=>hk
  ·by_cases hb:b=a
   ·exact .inr ⟨_,_,if_pos hb⟩
   ·exact .inl (if_neg hb)
  ·by_cases hb:b=a
   ·have z':=(if_pos hb).symm.trans z
    cases z'
    subst hb
    exact⟨ha,by rw[List.length_map];exact hl,vs,_,rv,ha⟩
   ·have z':=(if_neg hb).symm.trans z
    cases z'
  ·by_cases hb:b=a
   ·exact hb
   ·exact absurd (if_neg hb) z
theorem FP {l:PySem.W.OpenLaw} {n k:Nat} {q:Program} {loose:List Str} {XP:(Str→Option Value)→Heap→Prop} {YP:World→Heap→Prop} {d:DefRec} {K:Params→PySem.W.Frag} {CX:World→mS} {sp:World→Sp} {x:Str}
  (hn:l.most=some n) (hn2:n≤sizeLine) (hdf:d.params.defaults=[]) (hr:aO k callerA)
  (hY:∀(w:World) (h:Heap),YP w h→(K w.params).In h)
  (F:∀(w:World) (mg:Str→Option Value) (fa:Addr) (h:Heap),(K w.params).In h→h.Ns mainGlobals mg→mg d.name=some (.ref fa)→
   ∃fd:FuncData,(∀(s:Shared) (u:Value),BindsTo s fd ⟨[u],[]⟩ [(x,u)])∧
    ∀base:Heap,(K w.params).In base→base.Ns mainGlobals mg→bC l.prog w (K w.params) mg base (CX w) k fa fd [x] (sp w))
  (hsp:∀(w:World) (H:Hp) (a:Addr) (ns:List Int),ns.length≤n→Only H→cF (K w.params) H a (ns.map V.int)→sp w [.ref a] H (fun v _=>v=.bl true) fun _ _ _=>False)
  (Hu:∀(w:World) (H:Hp) (s:Shared) (e:Value) (s':Shared),CX w [] H s (fun _ _ _=>False) e s'→False):
  PySem.W.WalkO q loose XP YP l.row.toRowW d [] (fun f vs=>PySem.call f vs):=by
 refine LK.wO hn hdf fun w s₀ s₁ mg mb fa o pm cd doc a vs ns G Y ho hd hcd hmg hobj hints hlen hg=>?_
 have KX:=hY w _ Y
 obtain⟨fd,hb,hF⟩:=F w mg fa _ KX G.T.g hmg
 exact Dg KX G.T.g G.T.b G.T.builtins G.T.nolimit hg hobj hints (Nat.le_trans hlen hn2) hr hF hb (fun H hO hS=>hsp w H a ns hlen hO hS) fun H e s'=>Hu w H s₁ e s'
def inClass (s:Stmt) (j:Nat):Stmt:=match s with
 | .ClassDef _ _ _ body _ _ _ _ _ _ _=>body.getD j (.Pass ⟨0,0,0,0⟩)
 | _=>.Pass ⟨0,0,0,0⟩
def aX (s:Stmt):Arguments:=match s with
 | .FunctionDef _ a _ _ _ _ _ _ _ _=>a
 | _=>{posonlyargs:=[],args:=[],vararg:=none,kwonlyargs:=[],kw_defaults:=[],kwarg:=none,defaults:=[]}
def aT (s:Stmt):List Stmt:=match s with
 | .FunctionDef _ _ b _ _ _ _ _ _ _=>b
 | _=>[]
def aj (s:Stmt):Scope:=match s with
 | .FunctionDef _ _ _ _ _ _ sc _ _ _=>sc
 | _=>{kind:=.function,names:=[],isGenerator:=false,isCoroutine:=false}
abbrev dE:mS:=fun _ _ _ _ _ _=>False
abbrev E0:XK:=fun _ _ _=>False
theorem bf {X:Cx}:Passes dE X E0:=fun _ _ _ _ _ _ _ h=>h.elim
structure cV (K:PySem.W.Frag) (x qual:Str) (st:Stmt) (f:Addr) (fd:FuncData):Prop where
 ex:∃(oc:Value) (od:Option Addr) (kV doc pm:Value) (an:Option Addr) (cdv ct:Value) (osl:Array (Option Value)),
  fd=PySem.W.fnOf x qual (aX st) (aT st) (aj st) .none kV doc pm an cdv ct∧K.lookup f=some ⟨oc,od,.func fd,osl⟩∧PySem.W.codeIn K cdv qual=true
 kp:PySem.W.keepIn K (.ref f)=true
section
variable {P:Program} {w:World} {K:PySem.W.Frag} {mg:Str→Option Value} {base:Heap}
theorem cV.ok {x qual:Str} {st:Stmt} {f:Addr} {fd:FuncData} {N ps:List Str} {k:Nat} {sp:Sp} (F:cV K x qual st f fd) (S:bj N ps (aj st)) (len:∀vs H Q E,sp vs H Q E→vs.length=ps.length)
  (hbody:∀(cdv:Value) (A:Around) (outer:List Env) (s:Shared) (H:Hp) (vs:List V) (Q:VK) (E:XK),aO k (A.deeper (envOfC qual (aj st) s.heap.objs.size f cdv))→sp vs H Q E→
   ∃t,gL (gg dE P w K mg base N qual (aj st) f cdv A outer s H E).AX (aT st) t∧t {nx:=fun _ H'=>Q .non H',rt:=Q} (start N vs) H):bC P w K mg base dE (k+1) f fd ps sp:=by
 obtain⟨oc,od,kV,doc,pm,an,cdv,ct,osl,rfl,lk,hcd⟩:=F.ex
 refine En lk hcd S len fun A outer s H vs Q E hr hsp=>?_
 obtain⟨t,h,q⟩:=hbody cdv A outer s H vs Q E hr hsp
 exact⟨t,h.AX,q⟩
theorem cV.binds {x qual:Str} {st:Stmt} {f:Addr} {fd:FuncData} {ps:List Str} (F:cV K x qual st f fd)
  (h:∀(kV doc pm:Value) (an:Option Addr) (cdv ct:Value) (us:List Value),us.length=ps.length→bindArgs (PySem.W.fnOf x qual (aX st) (aT st) (aj st) .none kV doc pm an cdv ct) ⟨us,[]⟩=pure (ps.zip us)):Binds K fd ps []:=by
 obtain⟨oc,od,kV,doc,pm,an,cdv,ct,osl,rfl,lk,hcd⟩:=F.ex
 exact .all (h kV doc pm an cdv ct)
theorem bI {x qual:Str} {st:Stmt} {f:Addr} {oc:Value} {od an:Option Addr} {osl:Array (Option Value)} {kV doc pm cdv ct:Value} (l:K.lookup f=some ⟨oc,od,.func (PySem.W.fnOf x qual (aX st) (aT st) (aj st) .none kV doc pm an cdv ct),osl⟩)
  (c:PySem.W.codeIn K cdv qual=true) (k:PySem.W.keepIn K (.ref f)=true):cV K x qual st f (PySem.W.fnOf x qual (aX st) (aT st) (aj st) .none kV doc pm an cdv ct):=⟨⟨oc,od,kV,doc,pm,an,cdv,ct,osl,rfl,l,c⟩,k⟩
end
theorem lI {A:Around} {k:Nat} (hr:aO k A):A.units+1<cLine:=Nat.lt_of_le_of_lt (Nat.add_le_add_left (by decide:1≤64) _) hr.units
section
variable {X:Cx}
theorem pv (i:Nat) {x:Str} {pos:Pos} (hN:X.N[i]? =some x:=by rfl) (hv:xQ X.env.scope x:=by first | exact Or.inl rfl | exact Or.inr (Or.inl rfl) | exact Or.inr (Or.inr rfl)) (hd:(x == ("__debug__":Str))=false:=by decide)
  (hcd:(x == ("__classdict__":Str))=false:=by decide):PE X (.Name x pos) (C6 i):=G3 hN hv hd hcd
end
theorem bZ {A B:Prop} (h:B):if false=true then A else B:=by
 rw[if_neg Bool.false_ne_true]
 exact h
theorem b_ {A B:Prop} (h:A):if true=true then A else B:=by
 rw[if_pos rfl]
 exact h
theorem cN {c A B:Prop} [Decidable c] (h1:c→A) (h2:¬c→B):if c then A else B:=by
 by_cases h:c
 ·rw[if_pos h]
  exact h1 h
 ·rw[if_neg h]
  exact h2 h
def Same (H H':Hp):Prop:=∀b o,H b=some o→H' b=some o
theorem Same.refl (H:Hp):Same H H:=fun _ _ h=>h
theorem Same.trans {H H1 H2:Hp} (a:Same H H1) (b:Same H1 H2):Same H H2:=fun c o h=>b c o (a c o h)
theorem Same.free {H H':Hp} (e:Same H H') {l:Addr} (h:H' l=Option.none):H l=Option.none:=by
 cases q:H l with
 | none=>rfl
 | some o=>
  rw[e l o q] at h
  cases h
theorem Same.seq {K:PySem.W.Frag} {H H':Hp} {a:Addr} {xs:List V} (e:Same H H') (h:cF K H a xs):cF K H' a xs:=by
 rcases h with(h | ⟨o,h⟩) | h
 ·exact .inl (.inl (e _ _ h))
 ·exact .inl (.inr ⟨o,e _ _ h⟩)
 ·exact .inr h
section
variable {κ:Type} [DecidableEq κ]
def cH (kvs:List (κ×V)) (k:κ):Option V:=(kvs.find? fun kv=>decide (kv.1=k)).map (·.2)
def putK (kvs:List (κ×V)) (k:κ) (v:V):List (κ×V):=
 if(kvs.any fun kv=>decide (kv.1=k))=true then kvs.map (fun kv=>if kv.1=k then(kv.1,v) else kv) else kvs++[(k,v)]
theorem cS {p:κ×V} {r:List (κ×V)} {k:κ} (e:p.1=k):cH (p::r) k=some p.2:=by simp[cH,List.find?_cons,e]
theorem c_ {p:κ×V} {r:List (κ×V)} {k:κ} (e:¬p.1=k):cH (p::r) k=cH r k:=by simp[cH,List.find?_cons,e]
theorem jz (k:κ):∀kvs:List (κ×V),(kvs.any fun kv=>decide (kv.1=k))=(cH kvs k).isSome
 | []=>rfl
 | p::r=>by
  rw[List.any_cons]
  by_cases e:p.1=k
  ·simp only[cS e,decide_eq_true e,Bool.true_or,Option.isSome_some]
  ·rw[c_ e,decide_eq_false e,Bool.false_or];exact jz k r
theorem uA (k j:κ) (y:V):∀kvs:List (κ×V),cH (kvs.map fun kv=>if kv.1=k then(kv.1,y) else kv) j=(cH kvs j).map fun x=>if j=k then y else x
 | []=>rfl
 | p::r=>by
  have ih:=uA k j y r
  rw[List.map_cons]
  by_cases h:p.1=k
  ·rw[if_pos h]
   by_cases e:p.1=j
   ·rw[cS (p:=(p.1,y)) e,cS e,Option.map_some,if_pos (e.symm.trans h)]
   ·rw[c_ (p:=(p.1,y)) e,c_ e,ih]
  ·rw[if_neg h]
   by_cases e:p.1=j
   ·rw[cS (p:=p) e,cS e,Option.map_some,if_neg (fun z=>h (e.trans z))]
   ·rw[c_ (p:=p) e,c_ e,ih]
theorem mU (k j:κ) (y:V):∀kvs:List (κ×V),cH kvs k=none→cH (kvs++[(k,y)]) j=if j=k then some y else cH kvs j
 | [],_=>by
  by_cases e:k=j
  ·rw[if_pos e.symm];exact cS (p:=(k,y)) e
  ·rw[if_neg (fun z=>e z.symm)];exact c_ (p:=(k,y)) e
 | p::r,hn=>by
  rw[List.cons_append]
  have hk:¬p.1=k:=fun z=>by rw[cS z] at hn;cases hn
  rw[c_ hk] at hn
  have ih:=mU k j y r hn
  by_cases e:p.1=j
  ·rw[cS e,cS e,if_neg (fun z=>hk (e.trans z))]
  ·rw[c_ e,c_ e,ih]
theorem lJ (kvs:List (κ×V)) (k j:κ) (y:V):cH (putK kvs k y) j=if j=k then some y else cH kvs j:=by
 unfold putK
 by_cases a:(kvs.any fun kv=>decide (kv.1=k))=true
 ·rw[if_pos a,uA]
  rw[jz] at a
  by_cases e:j=k
  ·obtain⟨x,hx⟩:=Option.isSome_iff_exists.mp a
   rw[if_pos e,e,hx,Option.map_some,if_pos rfl]
  ·rw[if_neg e]
   cases cH kvs j with
   | none=>rfl
   | some x=>rw[Option.map_some,if_neg e]
 ·rw[if_neg a]
  refine mU k j y kvs ?_
  rw[jz] at a
  cases q:cH kvs k with
  | none=>rfl
  | some x=>rw[q] at a;exact(a rfl).elim
theorem kd (kvs:List (κ×V)) (k:κ) (v:V):(putK kvs k v).length≤kvs.length+1:=by
 unfold putK
 split
 ·rw[List.length_map];omega
 ·rw[List.length_append,List.length_cons,List.length_nil];omega
theorem ic.Bf {o:Option V} {u:Option Value} (r:ic o u):o.isSome=u.isSome:=by
 cases o with
 | none=>cases u with
  | none=>rfl
  | some _=>exact(show False from r).elim
 | some _=>cases u with
  | none=>exact(show False from r).elim
  | some _=>rfl
theorem KV.val {kvs:List (κ×V)} {vs:List (κ×Value)} (r:KV kvs vs) (k:κ):ic (cH kvs k) (valueAt vs k):=by
 unfold KV at r
 induction r with
 | nil=>exact True.intro
 | @cons p q ps qs h t ih=>
  obtain⟨h1,h2⟩:=h
  by_cases e:p.1=k
  ·have e':q.1=k:=h1.symm.trans e
   have b:valueAt (q::qs) k=some q.2:=by simp[valueAt,List.find?_cons,e']
   rw[cS e,b];exact h2
  ·have e':¬q.1=k:=fun z=>e (h1.trans z)
   have b:valueAt (q::qs) k=valueAt qs k:=by simp[valueAt,List.find?_cons,e']
   rw[c_ e,b];exact ih
theorem KV.any {kvs:List (κ×V)} {vs:List (κ×Value)} (r:KV kvs vs) (k:κ):(kvs.any fun kv=>decide (kv.1=k))=vs.any fun kv=>decide (kv.1=k):=by
 unfold KV at r
 induction r with
 | nil=>rfl
 | cons h t ih=>rw[List.any_cons,List.any_cons,ih,h.1]
theorem KV.repl {kvs:List (κ×V)} {vs:List (κ×Value)} (r:KV kvs vs) (k:κ) {y:V} {u:Value} (ry:RelV y u):
  KV (kvs.map fun kv=>if kv.1=k then(kv.1,y) else kv) (vs.map fun kv=>if kv.1=k then(kv.1,u) else kv):=by
 unfold KV at r ⊢
 induction r with
 | nil=>exact .nil
 | @cons p q ps qs h t ih=>
  rw[List.map_cons,List.map_cons]
  refine .cons ?_ ih
  obtain⟨h1,h2⟩:=h
  by_cases e:p.1=k
  ·rw[if_pos e,if_pos (h1.symm.trans e)];exact⟨h1,ry⟩
  ·rw[if_neg e,if_neg (fun z=>e (h1.trans z))];exact⟨h1,h2⟩
theorem KV.put {kvs:List (κ×V)} {vs:List (κ×Value)} (r:KV kvs vs) (k:κ) {y:V} {u:Value} (ry:RelV y u):KV (putK kvs k y) (stored vs k u):=by
 unfold putK stored
 rw[r.any k]
 by_cases e:(vs.any fun kv=>decide (kv.1=k))=true
 ·rw[if_pos e,if_pos e];exact r.repl k ry
 ·rw[if_neg e,if_neg e];exact Paired.snoc r ⟨rfl,ry⟩
theorem KV.length {kvs:List (κ×V)} {vs:List (κ×Value)} (r:KV kvs vs):kvs.length=vs.length:=Paired.length r
end
theorem pg {P:Program} {w:World} {k:Key} {u:Value} (r:RelV (kV k) u):(bq P w).is k u=true:=by
 cases k with
 | inl i=>obtain⟨t,e⟩:=(show ∃t,u=Value.int i t from r);subst e;exact wM P w i t
 | inr x=>obtain⟨t,e⟩:=(show ∃t,u=Value.str x t from r);subst e;exact wN P w x t
theorem rE {P:Program} {w:World}:∀{ks:List Key} {us:List Value},Vals (ks.map kV) us→ItemsAre (bq P w) ks us
 | [],_,r=>by rw[List.map_nil] at r;cases r;exact .nil
 | k::ks,_,r=>by
  rw[List.map_cons] at r
  cases r with
  | cons h t=>exact .cons (pg h) (rE t)
abbrev KT (H:Hp):List (List Key×V)→List (List Key×Addr×Value)→Prop:=Paired fun p q=>p.1=q.1∧H q.2.1=some (.tup (p.1.map kV))∧RelV p.2 q.2.2
theorem KT.val {H:Hp} {kvs:List (List Key×V)} {xs:List (List Key×Addr×Value)} (r:KT H kvs xs) (k:List Key):ic (cH kvs k) ((atKey xs k).map (·.2)):=by
 induction r with
 | nil=>exact True.intro
 | @cons p q ps qs h t ih=>
  obtain⟨h1,_,h2⟩:=h
  by_cases e:p.1=k
  ·have e':q.1=k:=h1.symm.trans e
   have b:atKey (q::qs) k=some q.2:=by simp[atKey,List.find?_cons,e']
   rw[cS e,b];exact h2
  ·have e':¬q.1=k:=fun z=>e (h1.trans z)
   have b:atKey (q::qs) k=atKey qs k:=by simp[atKey,List.find?_cons,e']
   rw[c_ e,b];exact ih
theorem KT.repl {H:Hp} {kvs:List (List Key×V)} {xs:List (List Key×Addr×Value)} (r:KT H kvs xs) (k:List Key) {y:V} {u:Value} (ry:RelV y u):
  KT H (kvs.map fun kv=>if kv.1=k then(kv.1,y) else kv) (xs.map (putAt k u)):=by
 induction r with
 | nil=>exact .nil
 | @cons p q ps qs h t ih=>
  rw[List.map_cons,List.map_cons]
  refine .cons ?_ ih
  obtain⟨h1,h2,h3⟩:=h
  unfold putAt
  by_cases e:p.1=k
  ·rw[if_pos e,if_pos (h1.symm.trans e)];exact⟨h1,h2,ry⟩
  ·rw[if_neg e,if_neg (fun z=>e (h1.trans z))];exact⟨h1,h2,h3⟩
theorem KT.put {H:Hp} {kvs:List (List Key×V)} {xs:List (List Key×Addr×Value)} (r:KT H kvs xs) (k:List Key) {b:Addr} {y:V} {u:Value} (hb:H b=some (.tup (k.map kV))) (ry:RelV y u):
  KT H (putK kvs k y) (storedH xs k b u):=by
 have e:(kvs.any fun kv=>decide (kv.1=k))=(atKey xs k).isSome:=by
  rw[jz,(r.val k).Bf,Option.isSome_map]
 unfold putK storedH
 rw[e]
 by_cases q:(atKey xs k).isSome=true
 ·rw[if_pos q,if_pos q];exact r.repl k ry
 ·rw[if_neg q,if_neg q];exact Paired.snoc r ⟨rfl,hb,ry⟩
theorem KT.keeps {H H':Hp} {kvs:List (List Key×V)} {xs:List (List Key×Addr×Value)} (r:KT H kvs xs) (ht:∀b ys,H b=some (.tup ys)→H' b=some (.tup ys)):KT H' kvs xs:=
 Paired.lC r fun _ _ z=>⟨z.1,ht _ _ z.2.1,z.2.2⟩
section
variable {P:Program} {w:World} {H:Hp} {h:Heap} {a:Addr}
theorem Et {u:HO} (ok:du P w H h) (e:Rd H a u):bV P w H h a u:=e.ok ok
theorem tY {kvs:List (Key×V)} (ok:du P w H h) (e:Rd H a (.dK kvs)):kvs.length≤sizeLine∧(a == sysModules)=false∧∃vs,KV kvs vs∧h.DictOf (bq P w) a vs:=
 show bV P w H h a (.dK kvs) from Et ok e
theorem nM {kvs:List (Key×V)} (ok:du P w H h) (e:H a=some (.dK kvs)):kvs.length≤sizeLine∧(a == sysModules)=false∧∃vs,KV kvs vs∧h.DictOf (bq P w) a vs:=tY ok (.inl e)
theorem uB {ks:List Key} (ok:du P w H h) (e:H a=some (.tup (ks.map kV))):(tupleKind (bq P w)).is h ks a:=by
 obtain⟨_,its,r,o,h1,h2,n,h3⟩:=(show bV P w H h a (.tup (ks.map kV)) from ok a _ e)
 exact⟨o,its.toArray,n,h1,h2,h3,by simpa using rE r⟩
theorem za {kvs:List (List Key×V)} (ok:du P w H h) (e:Rd H a (.dT kvs)):kvs.length≤sizeLine∧(a == sysModules)=false∧
  ∃xs,KT H kvs xs∧h.DictOfH (tupleKind (bq P w)) a xs:=by
 obtain⟨z,y,xs,r,o,es,ep,h1,h2,h3,h4,h5⟩:=(show bV P w H h a (.dT kvs) from Et ok e)
 refine⟨z,y,xs,r,o,es,ep,h1,h2,h3,h4,fun x hx=>?_,h5⟩
 have all:∀{l:List (List Key×V)} {m:List (List Key×Addr×Value)},KT H l m→∀x∈m,(tupleKind (bq P w)).is h x.1 x.2.1:=by
  intro l m q
  induction q with
  | nil=>intro x hx;exact nomatch hx
  | @cons p q ps qs hq t ih=>
   intro x hx
   rcases List.mem_cons.mp hx with e | hx
   ·subst e
    exact uB ok (by rw[←hq.1];exact hq.2.1)
   ·exact ih x hx
 exact all r x hx
theorem Kj {kvs:List (List Key×V)} (ok:du P w H h) (e:H a=some (.dT kvs)):kvs.length≤sizeLine∧(a == sysModules)=false∧
  ∃xs,KT H kvs xs∧h.DictOfH (tupleKind (bq P w)) a xs:=za ok (.inl e)
end
def zf (H:Hp) (a:Addr) (y:V) (r:Option V):Prop:=
 (∃kvs k,Rd H a (.dK kvs)∧y=kV k∧r=cH kvs k)∨∃kvs k b,Rd H a (.dT kvs)∧y=.ref b∧H b=some (.tup (k.map kV))∧r=cH kvs k
def qk (H:Hp) (a:Addr) (y v:V) (H':Hp):Prop:=
 (∃kvs k,H a=some (.dK kvs)∧y=kV k∧kvs.length<sizeLine∧H'=upd H a (.dK (putK kvs k v)))∨
 ∃kvs k b,H a=some (.dT kvs)∧y=.ref b∧H b=some (.tup (k.map kV))∧kvs.length<sizeLine∧H'=upd H a (.dT (putK kvs k v))
theorem qk.k {H:Hp} {a:Addr} {kvs:List (Key×V)} {k:Key} {v:V} (e:H a=some (.dK kvs)) (hl:kvs.length<sizeLine):qk H a (kV k) v (upd H a (.dK (putK kvs k v))):=.inl ⟨kvs,k,e,rfl,hl,rfl⟩
section
variable {X:Cx} {pins:List (Addr×Obj)} {σ:St} {H:Hp} {s:Shared} {a:Addr} {y v:V} {u r:Value} {o:Option V} {A:Around} {E:Value→Shared→Prop}
theorem Inv.big (I:Inv X pins σ H s):sysModules<s.heap.objs.size:=by
 have h:mainGlobals<s.heap.objs.size:=(I.mod.glob.keeps I.bk).lt
 exact Nat.lt_trans (by decide) h
theorem Bg {Q:Value→Shared→Prop} (hu:A.units+1<cLine) (I:Inv X pins σ H s) (g:zf H a y (some v)) (ry:RelV y u) (h:∀w' s',Inv X pins σ H s'→RelV v w'→Q w' s'):
  wpAny (model X.prog X.w) A (getItem (.ref a) u) Q E s:=by
 rcases g with⟨kvs,k,e,ey,l⟩ | ⟨kvs,k,b,e,ey,eb,l⟩
 ·subst ey
  obtain⟨z,hd,vs,rel,dd⟩:=tY I.hok e
  obtain⟨w',hw,mC⟩:=ic.some_of (v:=v) (o:=valueAt vs k) (by rw[l];exact rel.val k)
  exact wpAny_getItem_of (pg ry) dd.mapOf hw (h w' _ (I.tok _) mC)
 ·subst ey
  cases(show u=Value.ref b from ry)
  obtain⟨z,hd,xs,rel,dd⟩:=za I.hok e
  obtain⟨w',hw,mC⟩:=ic.some_of (v:=v) (o:=(atKey xs k).map (·.2)) (by rw[l];exact rel.val k)
  obtain⟨p,hp,hp2⟩:=Option.map_eq_some_iff.mp hw
  refine wpAny_getItem_heap (tupleKind_room_in1 hu) (uB I.hok eb) dd hp ?_
  rw[hp2]
  exact h w' _ (I.tok _) mC
theorem ql {h':Heap} {t':Nat} {ob:HO} (I:Inv X pins σ H s) (mu:AO (H a)) (hs:Heap.SameBut a s.heap h') (he:∃q,h'.get? a=some q) (new:bV X.prog X.w (upd H a ob) h' a ob):
  Inv X pins σ (upd H a ob) {s with heap:=h',toks:=t'}:=
 I.write (x:=a) (e:=a) mu (.inl rfl) (fun b q hb z=>(hs.2 b hb).trans z) he new
theorem Bh {P:Program} {w:World} {H':Hp} {h':Heap} {kvs:List (Key×V)} {vs:List (Key×Value)} (z:kvs.length≤sizeLine) (hd:(a == sysModules)=false) (rel:KV kvs vs) (dd:h'.DictOf (bq P w) a vs):
  bV P w H' h' a (.dK kvs):=⟨z,hd,vs,rel,dd⟩
theorem Bi {H':Hp} {Q:Unit→Shared→Prop} (hu:A.units+1<cLine) (I:Inv X pins σ H s) (g:qk H a y v H') (ry:RelV y u) (rv:RelV v r) (h:∀s',Inv X pins σ H' s'→Q () s'):
  wpAny (model X.prog X.w) A (setItem (.ref a) u r) Q E s:=by
 rcases g with⟨kvs,k,e,ey,l,eH⟩ | ⟨kvs,k,b,e,ey,eb,l,eH⟩
 ·subst ey eH
  obtain⟨z,hd,vs,rel,dd⟩:=nM I.hok e
  have hz:vs.length≤sizeLine:=by rw[←rel.length];exact z
  have hl:(putK kvs k v).length≤sizeLine:=by have:=kd kvs k v;omega
  refine wpAny_setItem_pairs (hsz:=hz) (pg ry) dd fun h' rF hs=>h _ ?_
  have he:∃q,h'.get? a=some q:=let ⟨q,_,_,hq,_⟩:=rF;⟨q,hq⟩
  exact ql I (by rw[e];exact True.intro) hs he (Bh hl hd (rel.put k rv) rF)
 ·subst ey eH
  cases(show u=Value.ref b from ry)
  obtain⟨z,hd,xs,rel,dd⟩:=Kj I.hok e
  have hz:xs.length≤sizeLine:=by rw[←Paired.length rel];exact z
  have hl:(putK kvs k v).length≤sizeLine:=by have:=kd kvs k v;omega
  refine wpAny_setItem_heap (hsz:=hz) (tupleKind_room_in1 hu) (uB I.hok eb) dd fun h' rF hs=>h _ ?_
  obtain⟨q,es,ep,hq,h2,h3,h4,_,h5⟩:=rF
  refine ql I (by rw[e];exact True.intro) hs ⟨q,hq⟩ ⟨hl,hd,_,(rel.put k eb rv).keeps fun c ys ec=>?_,q,es,ep,hq,h2,h3,h4,h5⟩
  rw[aF (lB ec e (fun z=>nomatch z))]
  exact ec
end
def Hv (i:Expr):Prop:=∀ov iv,subscripted i false ov iv=operate [ov,iv] (getItem ov iv)
theorem FQ {prog:Program} {w:World} {A:Around} {E:Value→Shared→Prop} {s:Shared} {env:Env} {value slice:Expr} {pos:Pos} {T id:String} {Q:Value→Shared→Prop}
  (hl:typeLookup (.type T) "__getitem__"=pure (some (.builtin id))) (hs:Hv slice)
  (h:wpAny (model prog w) A (eval value env) (fun o s₁=>wpAny (model prog w) A (eval slice env) (fun i s₂=>s₂.TypeIs o T∧wpAny (model prog w) A (getItem o i) Q E s₂) E s₁) E s):
  wpAny (model prog w) A (eval (.Subscript value slice pos) env) Q E s:=by
 refine Subscript_ (wpAny_mono h (fun o s₁ h₁=>wpAny_mono h₁ (fun i s₂ h₂=>?_) fun _ _ x=>x) fun _ _ x=>x)
 obtain⟨hT,h₂⟩:=h₂
 unfold subscriptTail
 refine wpAny_bind ?_
 rw[getitemInPython_of_ne hT.not_modules]
 refine wpAny_bind (wpAny_specialOf hT hl ?_)
 have fin:wpAny (model prog w) A (subscripted slice false o i) (fun r s₃=>wpAny (model prog w) A (letTemporaryGo value o r >>= fun _=>pure r) Q E s₃) E s₂:=by
  rw[hs o i]
  exact wpAny_operating (wpAny_mono h₂ (fun r s₃ h₃=>wpAny_bind (wpAny_letTemporaryGo (wpAny_pure h₃))) fun _ _ x=>x)
 first
  | exact wpAny_pure (wpAny_bind fin)
  | exact wpAny_bind (wpAny_pure (wpAny_bind fin))
  | exact wpAny_bind fin
theorem wQ {X:Cx} {pins:List (Addr×Obj)} {σ:St} {H:Hp} {s:Shared} {a:Addr} {y:V} {o:Option V} (I:Inv X pins σ H s) (g:zf H a y o):s.TypeIs (.ref a) "dict":=by
 rcases g with⟨kvs,k,e,_,_⟩ | ⟨kvs,k,b,e,_,_,_⟩
 ·obtain⟨_,_,vs,_,dd⟩:=tY I.hok e
  exact dd.typeIs
 ·obtain⟨_,_,xs,_,dd⟩:=za I.hok e
  exact dd.typeIs
def Kk (td ty:TE):TE:=fun σ H Q=>td σ H fun x H1=>ty σ H1 fun y H2=>∃a v,x=.ref a∧zf H2 a y (some v)∧Q v H2
def Kl (td ty tv:TE):TS:=fun D σ H=>tv σ H fun v H1=>td σ H1 fun x H2=>ty σ H2 fun y H3=>∃a H4,x=.ref a∧qk H3 a y v H4∧D.nx σ H4
section
variable {X:Cx} {o i e value:Expr} {pos pos' tpos:Pos} {td ty tv:TE}
theorem kL (hu:X.A.units+1<cLine) (ho:PE X o td) (hi:PE X i ty) (hs:Hv i):PE X (.Subscript o i pos) (Kk td ty):=by
 intro pins s σ H Q I h
 refine FQ PySem.F.slot_dict_getitem.lookup hs (aG (ho pins s σ H _ I h) fun u s1 ⟨x,H1,I1,rx,q1⟩=>aG (hi pins s1 σ H1 _ I1 q1) fun iv s2 ⟨y,H2,I2,ry,a,v,ex,g,q2⟩=>?_)
 subst ex
 obtain rfl:u=Value.ref a:=rx
 exact⟨wQ I2 g,Bg hu I2 g ry fun w' s3 I3 mC=>⟨v,H2,I3,mC,q2⟩⟩
theorem ya (hu:X.A.units+1<cLine) (ho:PE X o td) (hi:PE X i ty) (hv:PE X value tv) (hs:swapsWith value (some (.Subscript o i pos')) pos.line X.env=pure false):
  PS X (.Assign [.Subscript o i pos'] value pos) (Kl td ty tv):=by
 intro pins s σ H D I h
 refine wpAny_Assign_Subscript (aG (hv pins s σ H _ I h) fun r s1 ⟨v,H1,I1,rv,q1⟩=>aG (ho pins s1 σ H1 _ I1 q1) fun u s2 ⟨x,H2,I2,rx,q2⟩=>aG (hi pins s2 σ H2 _ I2 q2) fun iv s3 ⟨y,H3,I3,ry,a,H4,ex,g,q3⟩=>?_) hs
 subst ex
 obtain rfl:u=Value.ref a:=rx
 exact Bi hu I3 g ry rv fun s4 I4=>⟨σ,H4,I4,q3⟩
end
theorem uC {P:Program} {w:World} {H:Hp} (h:Heap) (hb:sysModules<h.objs.size):bV P w H (h.push {cls:=.type "dict",data:=.dict #[]}) h.objs.size (.dK []):=
 ⟨Nat.zero_le _,beq_eq_false_iff_ne.mpr (Ne.symm (Nat.ne_of_lt hb)),[],.nil,Heap.DictOf.new h⟩
def Hw:TE:=fun _ H Q=>∀p,H p=none→Q (.ref p) (upd H p (.dK []))
section
variable {X:Cx} {pos:Pos}
theorem Dh:PE X (.Dict [] [] pos) Hw:=fun pins s σ H Q I h=>
 wpAny_Dict_empty ⟨.ref s.heap.objs.size,_,I.laid (a:=s.heap.objs.size) (o:=.dK []) (t':=s.toks) (fun _ _ q=>Heap.get?_push_of_some _ q) (Nat.le_refl _) (uC s.heap I.big),rfl,h _ (I.hok.fresh (Nat.le_refl _))⟩
end
def uD:List (TE×TE)→St→Hp→(List (V×V)→Hp→Prop)→Prop
 | [],_,H,Q=>Q [] H
 | (tk,tv)::r,σ,H,Q=>tk σ H fun x H1=>tv σ H1 fun y H2=>uD r σ H2 fun ps H3=>Q ((x,y)::ps) H3
abbrev VV:List (V×V)→List (Value×Value)→Prop:=Paired fun p q=>RelV p.1 q.1∧RelV p.2 q.2
def Eu (X:Cx) (pos:Pos) (keys:List (Option Expr)) (values:List Expr) (pq:List (TE×TE)):Prop:=
 ∀(pins:List (Addr×Obj)) (s:Shared) (σ:St) (H:Hp) (Q:List (V×V)→Hp→Prop),Inv X pins σ H s→uD pq σ H Q→
  wpAny (model X.prog X.w) X.A (evalPairs (pairTrees keys values X.env pos)) (fun vs s'=>∃ps H',Inv X pins σ H' s'∧VV ps vs∧Q ps H') X.xe s
theorem yb {X:Cx} {pos:Pos}:Eu X pos [] [] []:=fun pins s σ H Q I h=>pairTrees_nil_walk ⟨[],H,I,.nil,h⟩
theorem uE {X:Cx} {pos:Pos} {k v:Expr} {ks:List (Option Expr)} {vs:List Expr} {tk tv:TE} {pq:List (TE×TE)} (hk:PE X k tk) (hv:PE X v tv) (hr:Eu X pos ks vs pq):
  Eu X pos (some k::ks) (v::vs) ((tk,tv)::pq):=fun pins s σ H Q I h=>
 pairTrees_cons_walk (aG (hk pins s σ H _ I h) fun u s1 ⟨x,H1,I1,rx,q1⟩=>aG (hv pins s1 σ H1 _ I1 q1) fun w2 s2 ⟨y,H2,I2,ry,q2⟩=>
  aG (hr pins s2 σ H2 _ I2 q2) fun ws s3 ⟨ps,H3,I3,rel,q3⟩=>⟨(x,y)::ps,H3,I3,.cons ⟨rx,ry⟩ rel,q3⟩)
def gj (kvs more:List (Key×V)):List (Key×V):=more.foldl (fun acc kv=>putK acc kv.1 kv.2) kvs
theorem KV.merge:∀{more:List (Key×V)} {rs:List (Key×Value)} {kvs:List (Key×V)} {vs:List (Key×Value)},KV more rs→KV kvs vs→KV (gj kvs more) (merged vs rs):=by
 intro more rs kvs vs r
 unfold KV at r
 induction r generalizing kvs vs with
 | nil=>intro q;exact q
 | @cons p q ps qs h t ih=>
  intro r0
  have e:KV (putK kvs p.1 p.2) (stored vs q.1 q.2):=by
   have:=r0.put p.1 h.2
   rw[←h.1];exact this
  exact ih e
theorem iW:∀(more kvs:List (Key×V)),(gj kvs more).length≤kvs.length+more.length
 | [],kvs=>by show kvs.length≤kvs.length+0;omega
 | p::r,kvs=>by
  have h1:=iW r (putK kvs p.1 p.2)
  have h2:=kd kvs p.1 p.2
  show(gj (putK kvs p.1 p.2) r).length≤_
  rw[List.length_cons];omega
theorem pz {P:Program} {w:World}:∀{kvs:List (Key×V)} {ws:List (Value×Value)},VV (kvs.map fun kv=>(kV kv.1,kv.2)) ws→∃rs,Carries (bq P w) ws rs∧KV kvs rs
 | [],_,r=>by rw[List.map_nil] at r;cases r;exact⟨[],True.intro,.nil⟩
 | p::kvs,_,r=>by
  rw[List.map_cons] at r
  cases r with
  | @cons a b as bs h t=>
   obtain⟨rs,c,q⟩:=pz (P:=P) (w:=w) t
   obtain⟨b1,b2⟩:=b
   exact⟨(p.1,b2)::rs,⟨pg h.1,rfl,c⟩,.cons ⟨rfl,h.2⟩ q⟩
def Km (pq:List (TE×TE)):TE:=fun σ H Q=>∀p,H p=none→uD pq σ (upd H p (.dK [])) fun ps H2=>H2 p=some (.dK [])∧∃kvs:List (Key×V),ps=kvs.map (fun kv=>(kV kv.1,kv.2))∧kvs.length≤15∧Q (.ref p) (upd H2 p (.dK (gj [] kvs)))
theorem yc {X:Cx} {pos:Pos} {keys:List (Option Expr)} {values:List Expr} {pq:List (TE×TE)} (h:Eu X pos keys values pq) (hall:keys.all (·.isSome)=true) (hl:keys.length=values.length) (h0:keys≠[])
  (h15:keys.length≤15):PE X (.Dict keys values pos) (Km pq):=by
 intro pins s σ H Q I q
 have hn:=I.hok.fresh (Nat.le_refl s.heap.objs.size)
 have I1:=I.laid (a:=s.heap.objs.size) (o:=.dK []) (h':=s.heap.push {cls:=.type "dict",data:=.dict #[]}) (t':=s.toks) (fun _ _ q=>Heap.get?_push_of_some _ q) (Nat.le_refl _) (uC s.heap I.big)
 refine wpAny_Dict_walk (knd:=bq X.prog X.w) hall hl h0 h15 (aG (h pins _ σ _ _ I1 (q _ hn)) fun ws s2 ⟨ps,H2,I2,rel,e,kvs,ep,lk,q2⟩=>?_)
 subst ep
 obtain⟨rs,c,rk⟩:=pz (P:=X.prog) (w:=X.w) rel
 obtain⟨z,hd,U6,r0,dd⟩:=nM I2.hok e
 cases r0
 refine⟨rs,c,dd,fun h' rF hs=>⟨.ref s.heap.objs.size,_,?_,rfl,q2⟩⟩
 have hz:(gj [] kvs).length≤sizeLine:=by
  have h1:=iW kvs []
  rw[List.length_nil] at h1
  rw[sizeLine_eq];omega
 have he:∃q,h'.get? s.heap.objs.size=some q:=let ⟨q,_,_,hq,_⟩:=rF;⟨q,hq⟩
 exact ql I2 (by rw[e];exact True.intro) hs he (Bh hz hd (rk.merge .nil) rF)
section
variable {X:Cx} {pins:List (Addr×Obj)} {σ:List (Option V)} {H H':Hp} {s:Shared} {h':Heap}
theorem Inv.uF {t':Nat} {ch:List Addr} {p:Addr} {o:HO} (I:Inv X pins σ H s) (hf:∀b∈ch,fA X pins H b)
  (k:∀b u,b ∉ ch→s.heap.get? b=some u→h'.get? b=some u) (hp:s.heap.objs.size≤p) (new:bV X.prog X.w (upd H p o) h' p o):
  Inv X pins σ (upd H p o) {s with heap:=h',toks:=t'}:=by
 have hn:H p=none:=I.hok.fresh hp
 have ku:∀b u,H b=some u→b ∉ ch:=fun b u e z=>by have q:=(hf b z).1;rw[e] at q;cases q
 have old:∀b u,s.heap.get? b=some u→b≠p:=fun b u e=>Nat.ne_of_lt (Nat.lt_of_lt_of_le (Heap.lt_size e) hp)
 have pA:∀b u,H b=some u→upd H p o b=some u:=fun b u e=>by rw[aF (aH e hn)];exact e
 refine I.step (g':=s.gens) (d':=s.drawn) (ch:=ch) (fun b hb=>?_) (fun b o _ _ hc e _=>k b o hc e) (fun b o _ _ hc e _=>⟨o.slots,k b o hc e⟩) (fun b o _ e n=>by rw[aF (old b o e)];exact n)
  (fun b o hc e=>⟨o,k b o hc e⟩) (fun b xs e=>pA b _ e) (fun b _ _ e=>pA b _ e) (fun b ps e=>⟨#[],by rw[pA b _ e];simp⟩) (fun m hm=>?_) (fun b u e=>?_) I.bare
 ·obtain⟨f0,f1,f2,f3,f4,f5⟩:=hf b hb
  exact⟨f3,f1,f4,f5⟩
 ·obtain⟨ob,es,ep,ho,r⟩:=hm
  exact⟨ob,es,ep,k _ ob (fun z=>(hf _ z).2.1 rfl) ho,r⟩
 ·by_cases hb:b=p
  ·subst hb;rw[af] at e;cases e;exact new
  ·rw[aF hb] at e
   refine(I.hok b u e).stay (fun c v hc q=>k c v ?_ q) (fun c q=>pA c _ q) fun c xs q=>pA c _ q
   rcases hc with z | z
   ·rw[z];exact ku b u e
   ·exact ku c _ z
end
def dc (env:Env):List (Str×NameKind)→List (Str×Addr)→List (Str×Addr)
 | [],cs=>cs
 | (n,k)::r,cs=>dc env r (if k == .free then(n,(env.cells.lookup n).getD 0)::cs else cs)
theorem pB {env:Env}:∀(names:List (Str×NameKind)) (cs:List (Str×Addr)),(∀y∈names,y.2=.free→∃c,env.cells.lookup y.1=some c)→
  (forIn names cs fun(x:Str×NameKind) (r:List (Str×Addr))=>(match x with
   | (name,kind)=>if(kind == NameKind.free)=true then(cellOf env name >>= fun a=>pure (ForInStep.yield ((name,a)::r)):Sem (ForInStep (List (Str×Addr)))) else pure (ForInStep.yield r)))=pure (dc env names cs)
 | [],cs,_=>rfl
 | (n,k)::r,cs,h=>by
  have ih:=fun cs'=>pB r cs' fun y hy=>h y (List.mem_cons_of_mem _ hy)
  rw[List.forIn_cons]
  by_cases hk:k=.free
  ·subst hk
   obtain⟨c,hc⟩:=h (n,.free) List.mem_cons_self rfl
   have e:cellOf env n=pure c:=by unfold cellOf;rw[hc]
   simp only[beq_self_eq_true,if_true,e,pure_bind]
   rw[ih]
   show _=pure (dc env r (if(NameKind.free == NameKind.free)=true then _ else _))
   rw[hc];rfl
  ·have hb:(k == NameKind.free)=false:=by simpa using hk
   simp only[hb,Bool.false_eq_true,if_false,pure_bind]
   rw[ih]
   show _=pure (dc env r (if(k == NameKind.free)=true then _ else _))
   rw[hb];rfl
theorem fD {env:Env} {scope:Scope} (h:∀y∈scope.names,y.2=.free→∃c,env.cells.lookup y.1=some c):closureFor scope env=pure (dc env scope.names []):=by
 unfold closureFor
 have e:=pB (env:=env) scope.names [] h
 show((forIn scope.names [] _:Sem (List (Str×Addr))) >>= fun cs=>pure cs)=_
 rw[bind_pure]
 refine Eq.trans ?_ e
 first
  | rfl
  | (congr 1;funext x r;obtain⟨n,k⟩:=x;dsimp only;split<;>simp)
theorem uG {env:Env} {x:Str} {c:Addr}:∀(names:List (Str×NameKind)) (cs:List (Str×Addr)),(x,c)∈dc env names cs→(x,c)∈cs∨((x,NameKind.free)∈names∧c=(env.cells.lookup x).getD 0)
 | [],cs,h=>.inl h
 | (n,k)::r,cs,h=>by
  have h':(x,c)∈dc env r (if(k == NameKind.free)=true then(n,(env.cells.lookup n).getD 0)::cs else cs):=h
  rcases uG r _ h' with z | ⟨z1,z2⟩
  ·by_cases hk:k=.free
   ·subst hk
    simp only[beq_self_eq_true,if_true,List.mem_cons] at z
    rcases z with z | z
    ·cases z;exact .inr ⟨List.mem_cons_self,rfl⟩
    ·exact .inl z
   ·have hb:(k == NameKind.free)=false:=by simpa using hk
    rw[hb] at z
    exact .inl z
  ·exact .inr ⟨List.mem_cons_of_mem _ z1,z2⟩
theorem rG {env:Env} {p:Str×Addr}:∀(names:List (Str×NameKind)) (cs:List (Str×Addr)),p∈cs→p∈dc env names cs
 | [],cs,h=>h
 | (n,k)::r,cs,h=>by
  show p∈dc env r (if(k == NameKind.free)=true then(n,(env.cells.lookup n).getD 0)::cs else cs)
  refine rG r _ ?_
  split
  ·exact List.mem_cons_of_mem _ h
  ·exact h
theorem uH {env:Env} {x:Str}:∀(names:List (Str×NameKind)) (cs:List (Str×Addr)),(x,NameKind.free)∈names→(x,(env.cells.lookup x).getD 0)∈dc env names cs
 | [],_,h=>by cases h
 | (n,k)::r,cs,h=>by
  show _∈dc env r (if(k == NameKind.free)=true then(n,(env.cells.lookup n).getD 0)::cs else cs)
  rcases List.mem_cons.mp h with z | z
  ·cases z
   exact rG r _ (by simp)
  ·exact uH r _ z
theorem kM {α β:Type} [BEq α] [LawfulBEq α] {x:α} {c:β}:∀{l:List (α×β)},l.lookup x=some c→(x,c)∈l
 | [],h=>by simp at h
 | (n,k)::r,h=>by
  rw[List.lookup_cons] at h
  by_cases e:x=n
  ·subst e;simp at h;subst h;exact List.mem_cons_self
  ·have:(x == n)=false:=by simpa using e
   rw[this] at h
   exact List.mem_cons_of_mem _ (kM h)
theorem kN {α β:Type} [BEq α] [LawfulBEq α] {x:α} {c:β}:∀{l:List (α×β)},(x,c)∈l→∃c',l.lookup x=some c'
 | [],h=>by cases h
 | (n,k)::r,h=>by
  rw[List.lookup_cons]
  by_cases e:x=n
  ·subst e;simp
  ·have q:(x == n)=false:=by simpa using e
   rw[q]
   rcases List.mem_cons.mp h with z | z
   ·cases z;exact absurd rfl e
   ·exact kN z
theorem dF {env:Env} {x:Str} {k':NameKind}:∀{names:List (Str×NameKind)},
  (names.map fun(n,k)=>if(k == NameKind.free&&env.scope.kind == .function&&env.kindOf n == some .cell) then(n,NameKind.cell) else(n,k)).lookup x=some k'→
  (x,k')∈names∨(k'=.cell∧(x,NameKind.free)∈names)
 | [],h=>by simp at h
 | (n,k)::r,h=>by
  rw[List.map_cons,List.lookup_cons] at h
  dsimp only at h
  by_cases e:x=n
  ·subst e
   by_cases hc:(k == NameKind.free&&env.scope.kind == .function&&env.kindOf x == some .cell)=true
   ·rw[if_pos hc] at h
    simp at h
    have hk:k=.free:=by
     simp only[Bool.and_eq_true,beq_iff_eq] at hc
     exact hc.1.1
    subst hk
    exact .inr ⟨h.symm,List.mem_cons_self⟩
   ·rw[if_neg hc] at h
    simp at h
    subst h
    exact .inl List.mem_cons_self
  ·have q:(x == (if(k == NameKind.free&&env.scope.kind == .function&&env.kindOf n == some .cell)=true then(n,NameKind.cell) else(n,k)).1)=false:=by
    split<;>simpa using e
   rw[q] at h
   rcases dF h with z | ⟨z1,z2⟩
   ·exact .inl (List.mem_cons_of_mem _ z)
   ·exact .inr ⟨z1,List.mem_cons_of_mem _ z2⟩
structure aI (X:Cx) (scope:Scope) (own aZ:List Str) (bJ:List Nat):Prop where
 cell:∀y∈scope.names,y.2≠.cell
 kind:scope.kind=.function
 names:∀y∈scope.names,y.2=.local→scope.names.lookup y.1=some .local
 free:∀y∈scope.names,y.2=.free→X.env.scope.names.lookup y.1=some .cell∨X.env.scope.names.lookup y.1=some .free
 QR:bJ.length=aZ.length
 QS:∀(i j:Nat),bJ[i]? =some j→X.N[j]? =aZ[i]?
 QT:∀x∈aZ,(x,NameKind.free)∈scope.names∧scope.names.lookup x=some .free
def fb (X:Cx) (own aZ:List Str) (scope:Scope) (C:Addr) (s₃:Shared) (H₃:Hp) (fp:List Addr):Cx:=
 {X with N:=own++aZ,s₀:=s₃,H₀:=H₃,env:=compEnvC scope (dc X.env scope.names []) C X.env,outer:=X.stack,stack:=X.stack,ex:=fp,fn:=fun _=>false,pn:=[],xe:=fun _ _=>False}
def pC (own:List Str) (bJ:List Nat) (σ:St):St:=List.replicate own.length none++bJ.map fun j=>(σ[j]?).join
section
variable {X:Cx} {pins:List (Addr×Obj)} {σ:List (Option V)} {H:Hp} {s:Shared} {scope:Scope} {own aZ:List Str} {bJ:List Nat}
theorem aI.cells (sc:aI X scope own aZ bJ) (ok:X.Ok):∀y∈scope.names,y.2=.free→∃c,X.env.cells.lookup y.1=some c:=fun y hy hf=>by
 rcases sc.free y hy hf with z | z
 ·exact ok.has y.1 (.inl z)
 ·exact ok.has y.1 (.inr z)
theorem aI.look (sc:aI X scope own aZ bJ) (ok:X.Ok) {x:Str} {c:Addr} (h:(dc X.env scope.names []).lookup x=some c):X.env.cells.lookup x=some c∧(x,NameKind.free)∈scope.names:=by
 rcases uG _ _ (kM h) with z | ⟨z1,z2⟩
 ·cases z
 ·obtain⟨c',hc⟩:=sc.cells ok (x,.free) z1 rfl
  have hc':X.env.cells.lookup x=some c':=hc
  rw[hc'] at z2
  have z3:c=c':=z2
  subst z3
  exact⟨hc',z1⟩
theorem aI.Ew (sc:aI X scope own aZ bJ) (ok:X.Ok) {x:Str} (h:(x,NameKind.free)∈scope.names):∃c,(dc X.env scope.names []).lookup x=some c∧X.env.cells.lookup x=some c:=by
 obtain⟨c,hc⟩:=kN (uH (env:=X.env) scope.names [] h)
 exact⟨c,hc,(sc.look ok hc).1⟩
theorem Inv.block {fp:List Addr} {h₄:Heap} {tk:Nat} (I:Inv X pins σ H s) (sc:aI X scope own aZ bJ) (hfp:∀b∈fp,fA X pins H b) (hfl:∀b∈fp,b<s.heap.objs.size)
  (k:∀b o,s.heap.get? b=some o→h₄.get? b=some o) (hn:h₄.Ns s.heap.objs.size fun _=>none):
  Inv (fb X own aZ scope s.heap.objs.size s H fp) [] (pC own bJ σ) H {s with heap:=h₄,toks:=tk}:=by
 have ok:=I.ok
 refine⟨⟨ok.mod,by show(relabel scope X.env).kind=_;exact sc.kind,ok.glob,ok.blt,Nat.le_refl _,?_,?_,fun x c h=>(nomatch h),ok.hd,ok.frames,.inl rfl,?_,fun b o e=>I.bs b o e,Nat.le_trans ok.n5 I.sz,?_,?_,I.stack,I.nJ⟩,rfl,I.bare,Un.kept k,?_,?_,I.fresh,?_,fun p hp=>(nomatch hp),I.hok.kept k,?_⟩
 ·intro x y c e1 e2
  exact ok.inj x y c (sc.look ok e1).1 (sc.look ok e2).1
 ·intro x h
  have mem:(x,NameKind.free)∈scope.names:=by
   rcases h with h | h
   ·rcases dF h with z | ⟨_,z⟩
    ·exact absurd rfl (sc.cell _ z)
    ·exact z
   ·rcases dF h with z | ⟨z,_⟩
    ·exact z
    ·cases z
  obtain⟨c,hc,_⟩:=sc.Ew ok mem
  exact⟨c,hc⟩
 ·intro b hb
  obtain⟨f0,f1,f2,f3,f4,f5⟩:=hfp b hb
  exact⟨Nat.ne_of_lt (hfl b hb),fun x c e=>f4 x c (sc.look ok e).1⟩
 ·intro b o e hb
  rcases(hfp b hb).2.2.2.1 with z | z
  ·exact ok.qf b o e z
  ·exact absurd (Nat.lt_of_lt_of_le (Heap.lt_size e) (Nat.le_trans ok.n5 z)) (Nat.lt_irrefl _)
 ·intro b hb hfs
  obtain⟨f0,f1,f2,_⟩:=hfp b hb
  rcases List.mem_cons.mp (I.kr b hfs) with z | z
  ·exact f1 z
  ·exact f2 z
 ·refine⟨_,hn,fun i x v e1 e2 e3=>?_⟩
  have e1':(own++aZ)[i]? =some x:=e1
  have e2':(List.replicate own.length none++bJ.map fun j=>(σ[j]?).join)[i]? =some (some v):=e2
  by_cases hi:i<own.length
  ·rw[List.getElem?_append_left (by simpa using hi)] at e2'
   rw[List.getElem?_replicate] at e2'
   split at e2'<;>cases e2'
  ·rw[List.getElem?_append_right (by simp;omega),List.length_replicate] at e2'
   rw[List.getElem?_append_right (by omega)] at e1'
   rw[List.getElem?_map] at e2'
   cases ej:bJ[i-own.length]? with
   | none=>rw[ej] at e2';cases e2'
   | some j=>
    rw[ej] at e2'
    have zg:(σ[j]?).join=some v:=by simpa using e2'
    have e4:σ[j]? =some (some v):=by
     cases q:σ[j]? with
     | none=>rw[q] at zg;cases zg
     | some o=>rw[q] at zg;simpa using zg
    have e5:=(sc.QS _ j ej).trans e1'
    obtain⟨hm,hlk⟩:=sc.QT x (List.mem_of_getElem? e1')
    obtain⟨m,U7,hl⟩:=I.loc
    have hv:xQ X.env.scope x:=by
     rcases sc.free (x,.free) hm rfl with z | z
     ·exact .inr (.inl z)
     ·exact .inr (.inr z)
    obtain⟨u,r,lk⟩:=hl j x v e5 e4 hv
    refine⟨u,r,.inr ?_⟩
    obtain⟨c,hc,hc'⟩:=sc.Ew ok hm
    have Hz:h₄.IsCell c (some u):=by
     rcases lk with⟨z,_⟩ | ⟨_,c',hx,⟨o,ho,hd⟩⟩
     ·exfalso
      have z':X.env.scope.names.lookup x=some .local:=z
      rcases sc.free (x,.free) hm rfl with q | q
      ·rw[show X.env.scope.names.lookup x=some .cell from q] at z';cases z'
      ·rw[show X.env.scope.names.lookup x=some .free from q] at z';cases z'
     ·rw[hc'] at hx;cases hx
      exact⟨o,k _ o ho,hd⟩
    refine⟨?_,c,hc,Hz⟩
    have e3':xQ (relabel scope X.env) x:=e3
    rcases e3' with z | z | z
    ·exfalso
     rcases dF z with q | ⟨q,_⟩
     ·have:=sc.names _ q rfl
      rw[show scope.names.lookup x=some .local from this] at hlk
      cases hlk
     ·cases q
    ·exact .inl z
    ·exact .inr z
 ·intro x c e
  obtain⟨v,o,ho,hd⟩:=I.cell x c (sc.look ok e).1
  exact⟨v,o,k _ o ho,hd⟩
 ·intro x c e
  exact I.fS x c (sc.look ok e).1
 ·show(List.replicate own.length none++bJ.map fun j=>(σ[j]?).join).length=(own++aZ).length
  simp[sc.QR]
end
theorem lK {prog:Program} {w:World} {A:Around} {R:Result→Shared→Prop} {s:Shared} {elt target iter:Expr} {ifs:List Expr} {scope:Scope} {pos:Pos} {it acc:Value} {env:Env} (I:Nat→Shared→Prop)
  (turn:∀n s,I n s→wpAny (model prog w) A (pyNext it) (fun r s₁=>match r with
   | none=>R (.ok .next) s₁
   | some v=>wpAny (model prog w) A (letOwnedTupleGo target it v) (fun _ s₁'=>wpAny (model prog w) A (assign target env v) (fun _ s₂=>
     wpAny (model prog w) A (forIn ifs true fun c r=>if r=true then do let ok ←isTrue c env (eval c env);pure (ForInStep.yield ok) else pure (ForInStep.yield r)) (fun ok s₃=>
      if ok=true then wpAny (model prog w) A (eval elt env) (fun x s₄=>
       wpAny (model prog w) A (call (.builtin "list.append") [acc,x]) (fun _ s₅=>∃m,m<n∧I m s₅) (fun _ _=>False) s₄) (fun _ _=>False) s₃
      else ∃m,m<n∧I m s₃) (fun _ _=>False) s₂) (fun _ _=>False) s₁') (fun _ _=>False) s₁) (fun _ _=>False) s)
  (n:Nat) (h:I n s):
  codeAny (model prog w) A (.compLoop (.ListComp elt [⟨target,iter,ifs,0⟩] scope pos) 0 it acc env) R s:=by
 refine codeAny_loop rfl I (fun n s hI=>?_) n h
 show wpAny _ A ((compTurn (.ListComp elt [⟨target,iter,ifs,0⟩] scope pos) 0 it acc env).onRaise (fun x=>do noteFrame x env;theTreesLotGoes x)) _ _ s
 refine wpAny_noted ?_
 rw[compTurn_list]
 refine wpAny_bind (wpAny_standAt (wpAny_bind (wpAny_mono (turn n s hI) (fun r s₁ h₁=>?_) fun _ _ h'=>h'.elim)))
 cases r with
 | none=>exact wpAny_pure h₁
 | some v=>
  refine wpAny_bind (wpAny_mono h₁ (fun _ s₁' h₁'=>?_) fun _ _ h'=>h'.elim)
  refine wpAny_bind (wpAny_mono h₁' (fun _ s₂ h₂=>wpAny_bind (wpAny_mono h₂ (fun ok s₃ h₃=>?_) fun _ _ h'=>h'.elim)) fun _ _ h'=>h'.elim)
  cases ok with
  | false=>exact wpAny_pure ⟨rfl,h₃⟩
  | true=>
   exact wpAny_bind (wpAny_bind (wpAny_mono h₃ (fun x s₄ h₄=>wpAny_bind (wpAny_mono h₄ (fun _ s₅ h₅=>wpAny_pure (wpAny_pure ⟨rfl,h₅⟩)) fun _ _ h'=>h'.elim)) fun _ _ h'=>h'.elim))
def kf (X:Cx) (ifs:List Expr) (t:TT):Prop:=
 ∀(pins:List (Addr×Obj)) (s:Shared) (σ:St) (H:Hp) (Q:Bool→Hp→Prop),Inv X pins σ H s→t σ H Q→
  wpAny (model X.prog X.w) X.A (forIn ifs true fun c r=>if r=true then do let ok ←isTrue c X.env (eval c X.env);pure (ForInStep.yield ok) else pure (ForInStep.yield r)) (TP X pins σ Q) X.xe s
def Ex:TT:=fun _ H Q=>Q true H
theorem bU {X:Cx}:kf X [] Ex:=fun _ _ _ H _ I h=>wpAny_tests_nil ⟨H,I,h⟩
theorem uI {X:Cx} {c:Expr} {t:TT} (h:PT X c t):kf X [c] t:=fun pins s σ H Q I hq=>wpAny_tests_one (h pins s σ H Q I hq)
def i6 (J:It) (g:TG) (tt:TT) (te:TE) (D:Addr) (σ:St) (H:Hp) (R:Hp→Prop):Prop:=
 ∃W:Nat→Nat→St→Hp→Prop,(∃m,W 0 m σ H)∧∀i m σ H,W i m σ H→(J.stop i H∧R H)∨(J.go i H∧∃N:St→Hp→Prop,(∀σ' H',N σ' H'→∃m',m'<m∧W (i+1) m' σ' H')∧
  ∀x H',J.xU i H x H'→g x σ H' fun σ2 H2=>tt σ2 H2 fun b H3=>if b=true then te σ2 H3 fun y H4=>∃ys,H4 D=some (.lst ys)∧ys.length<sizeLine∧N σ2 (upd H4 D (.lst (ys++[y]))) else N σ2 H3)
section
variable {X:Cx} {scope:Scope} {own aZ:List Str} {bJ:List Nat} {elt tg iter:Expr} {ifs:List Expr} {pos:Pos} {g:TG} {tt:TT} {te:TE}
theorem pE {pins:List (Addr×Obj)} {σ:St} {H:Hp} {s:Shared} {J:It} {fp:List Addr} {it:Addr} {tn:Nat→Heap→Prop} {R:Addr→Hp→Prop} {RR:Value→Addr→Result→Shared→Prop} {E:Value→Shared→Prop}
  (sc:aI X scope own aZ bJ) (hc:X.calm=true)
  (hg:∀C s₃ H₃ fp,PG (fb X own aZ scope C s₃ H₃ fp) tg g) (ht:∀C s₃ H₃ fp,kf (fb X own aZ scope C s₃ H₃ fp) ifs tt) (he:∀C s₃ H₃ fp,PE (fb X own aZ scope C s₃ H₃ fp) elt te)
  (I:Inv X pins σ H s) (T:Turn X.prog X.w X.K tg J fp it tn) (st:tn 0 s.heap) (hfp:∀b∈fp,fA X pins H b)
  (h:∀D,H D=none→i6 J g tt te D (pC own bJ σ) (upd H D (.lst [])) (R D))
  (hRR:∀D C H' s' m,Inv X pins σ H' s'→s.heap.objs.size≤C→s'.heap.Ns C m→H' C=none→R D H'→RR (.ref D) C (.ok .next) s'):
  wpAny (model X.prog X.w) X.A (newList []) (fun acc s₃=>wpAny (model X.prog X.w) X.A (newFunctionEnv scope X.env.globals (dc X.env scope.names []) [] X.env.qual none .none (some X.env)) (fun cenv s₄=>
   codeAny (model X.prog X.w) X.A (.compStart (.ListComp elt [⟨tg,iter,ifs,0⟩] scope pos) 0 (.ref it) acc {cenv with scope:=relabel scope X.env}) (RR acc cenv.locals) s₄) E s₃) E s:=by
 refine wpAny_newObj_type (wpAny_newFunctionEnv sc.cell (by intro y hy;simp at hy) (fun h₁ hns₁ hsb₁=>?_) sc.kind)
 dsimp only at hns₁ hsb₁ ⊢
 have hD:=I.fresh
 have I3:Inv X pins σ (upd H s.heap.objs.size (.lst [])) {s with heap:=s.heap.push {cls:=.type "list",dict:=none,data:=.seq ([]:List Value).toArray}}:=I.uy (its:=[]) (t':=s.toks) .nil (Nat.zero_le _)
 have hsz:(s.heap.push {cls:=.type "list",dict:=none,data:=.seq ([]:List Value).toArray}).objs.size=s.heap.objs.size+1:=Heap.size_push ..
 generalize hs3:({s with heap:=s.heap.push {cls:=.type "list",dict:=none,data:=.seq ([]:List Value).toArray}}:Shared)=s₃ at I3
 have hh3:s.heap.push {cls:=.type "list",dict:=none,data:=.seq ([]:List Value).toArray}=s₃.heap:=by rw[←hs3]
 rw[hh3] at hns₁ hsb₁ hsz ⊢
 have hfl:∀b∈fp,b<s.heap.objs.size:=fun b hb=>by
  obtain⟨o,e,_⟩:=T.obj 0 _ st b hb
  exact Heap.lt_size e
 have jA:∀b∈fp,fA X pins (upd H s.heap.objs.size (.lst [])) b:=fun b hb=>by
  obtain⟨f0,f⟩:=hfp b hb
  exact⟨by rw[aF (Nat.ne_of_lt (hfl b hb))];exact f0,f⟩
 have Di:∀b∈fp,b<s₃.heap.objs.size:=fun b hb=>by rw[hsz];exact Nat.lt_succ_of_lt (hfl b hb)
 have k4:∀b o,s₃.heap.get? b=some o→h₁.get? b=some o:=fun b o e=>(hsb₁.2 b (Nat.ne_of_lt (Heap.lt_size e))).trans (Heap.get?_push_of_some _ e)
 have k3:∀b o,s.heap.get? b=some o→s₃.heap.get? b=some o:=fun b o e=>by rw[←hh3];exact Heap.get?_push_of_some _ e
 have hnone:(fun x:Str=>List.lookup x ([]:List (Str×Value)).reverse)=fun _=>none:=by funext x;rfl
 have zh:h₁.Ns s₃.heap.objs.size fun _=>none:=by
  have q:=hns₁
  first
   | exact q
   | (rw[hnone] at q;exact q)
 have I4:=I3.block (own:=own) (tk:=s.toks+([]:List (Str×Value)).length) sc jA Di k4 zh
 have uJ:tn 0 h₁:=T.keep _ _ _ st fun b hb o e=>k4 b o (k3 b o e)
 generalize hX:fb X own aZ scope s₃.heap.objs.size s₃ (upd H s.heap.objs.size (.lst [])) fp=X' at I4
 have yd:X'.prog=X.prog:=by rw[←hX];rfl
 have ye:X'.w=X.w:=by rw[←hX];rfl
 have HE:X'.K=X.K:=by rw[←hX];rfl
 have Ey:X'.A=X.A:=by rw[←hX];rfl
 have Bj:X'.calm=true:=by rw[←hX];exact hc
 have HG:X'.xe=fun _ _=>False:=by rw[←hX];rfl
 have Ez:X'.env=compEnvC scope (dc X.env scope.names []) s₃.heap.objs.size X.env:=by rw[←hX];rfl
 have hg':PG X' tg g:=by rw[←hX];exact hg _ _ _ _
 have ht':kf X' ifs tt:=by rw[←hX];exact ht _ _ _ _
 have he':PE X' elt te:=by rw[←hX];exact he _ _ _ _
 have HH:∀{H':Hp} {s':Shared} {σ':St},Inv X' [] σ' H' s'→Inv X pins σ H' s'∧(∃m,s'.heap.Ns s₃.heap.objs.size m)∧H' s₃.heap.objs.size=none:=by
  intro H' s' σ' I'
  subst hX
  refine⟨I3.call' (ch:=fp) I'.os I'.base I'.hok I'.bare fun b hb=>?_,let ⟨m,hn,_⟩:=I'.loc;⟨m,hn⟩,I'.free⟩
  obtain⟨f0,f1,f2,f3,f4,f5⟩:=jA b hb
  exact⟨f3,f1,f4,f5⟩
 have stat:∀{H':Hp},(∀b∈fp,H' b=none)→∀b∈fp,fA X' [] H' b:=by
  intro H' hn b hb
  subst hX
  obtain⟨a1,a2⟩:=I4.ok.AU b hb
  exact⟨hn b hb,a1,I4.ok.oF b hb,.inl hb,a2,fun p hp=>by cases hp⟩
 obtain⟨W,⟨m0,w0⟩,turn⟩:=h s.heap.objs.size hD
 have loop:codeAny (model X.prog X.w) X.A (.compLoop (.ListComp elt [⟨tg,iter,ifs,0⟩] scope pos) 0 (.ref it) (.ref s.heap.objs.size) X'.env) (RR (.ref s.heap.objs.size) s₃.heap.objs.size)
   {s₃ with heap:=h₁,toks:=s.toks+([]:List (Str×Value)).length}:=by
  refine lK (fun n s'=>∃i σ' H',Inv X' [] σ' H' s'∧tn i s'.heap∧(∀b∈fp,H' b=none)∧W i n σ' H') ?_ m0 ⟨0,_,_,I4,uJ,fun b hb=>(jA b hb).1,w0⟩
  rintro n s5 ⟨i,σ5,H5,I5,o_,ui,w5⟩
  rw[←yd,←ye,←Ey]
  have pF:∀{α:Type} {t:Sem α} {Q:α→Shared→Prop} {s:Shared},wpAny (model X'.prog X'.w) X'.A t Q X'.xe s→wpAny (model X'.prog X'.w) X'.A t Q (fun _ _=>False) s:=fun h=>by rw[HG] at h;exact h
  have T':Turn X'.prog X'.w X'.K tg J fp it tn:=by rw[yd,ye,HE];exact T
  rcases turn i n σ5 H5 w5 with⟨stop,q⟩ | ⟨go,N,hN,step⟩
  ·refine aG (T'.done X' rfl rfl rfl Bj i [] s5 σ5 H5 _ I5 (stat ui) o_ stop) fun r s6 ⟨hr,I6⟩=>?_
   subst hr
   obtain⟨J1,⟨m,J2⟩,J3⟩:=HH I6
   exact hRR _ _ H5 s6 m J1 (by rw[hsz];exact Nat.le_succ _) J2 J3 q
  ·refine aG (T'.item X' rfl rfl rfl Bj i [] s5 σ5 H5 _ I5 (stat ui) o_ go) fun r s6 ⟨u,hr,h6⟩=>?_
   subst hr
   refine aG h6 fun _ s7 ⟨x,H7,I7,r7,y7,uK,HI⟩=>?_
   have HJ:=I7.pinned (stat HI) (T'.obj _ _ uK)
   have again:∀{s9:Shared} {σ9:St} {H9:Hp},Inv X' ([]++kD fp s7.heap) σ9 H9 s9→N σ9 H9→∃m,m<n∧∃i σ' H',Inv X' [] σ' H' s9∧tn i s9.heap∧(∀b∈fp,H' b=none)∧W i m σ' H':=fun {s9 σ9 H9} I9 n9=>by
    obtain⟨m',hm,w9⟩:=hN σ9 H9 n9
    refine⟨m',hm,i+1,σ9,H9,I9.ju,T'.keep _ _ _ uK fun b hb o e=>(I9.pin (b,o) (List.mem_append_right _ (List.mem_append_right _ (fT hb e)))).1,fun b hb=>?_,w9⟩
    obtain⟨o,e,d⟩:=T'.obj _ _ uK b hb
    exact(I9.pin (b,o) (List.mem_append_right _ (List.mem_append_right _ (fT hb e)))).2.1
   refine aG (pF (hg' _ s7 σ5 H7 x u _ HJ r7 (step x H7 y7))) fun _ s8 ⟨σ8,H8,I8,q8⟩=>?_
   refine aG (pF (ht' _ s8 σ8 H8 _ I8 q8)) fun b s9 ⟨H9,I9,q9⟩=>?_
   cases b with
   | false=>exact again I9 (by simpa using q9)
   | true=>
    rw[if_pos rfl] at q9
    refine aG (pF (he' _ s9 σ8 H9 _ I9 q9)) fun y fJ ⟨v,fE,HK,r10,EA⟩=>?_
    obtain⟨ys,e10,z10,n10⟩:=EA
    refine aG (pF (fH _ fJ σ8 fE (.ref s.heap.objs.size) [v] (.ref s.heap.objs.size) [y] (fun _ H'=>H'=upd fE s.heap.objs.size (.lst (ys++[v]))) HK rfl (.cons r10 .nil) ⟨_,ys,v,rfl,rfl,e10,z10,rfl⟩)) fun u kO ⟨v',oi,HL,_,HM⟩=>?_
    subst HM
    exact again HL n10
 rw[Ez] at loop
 have e4:({s with heap:=h₁,toks:=s.toks+([]:List (Str×Value)).length}:Shared)={s₃ with heap:=h₁,toks:=s.toks+([]:List (Str×Value)).length}:=by rw[←hs3]
 rw[e4]
 exact codeAny_compStart_list loop (T.self _ 0 _ _ _ uJ loop)
end
def tZ (own:List Str) (bJ:List Nat) (wi:TI) (g:TG) (tt:TT) (te:TE):TE:=fun σ H Q=>wi σ H fun J H1=>∀D,H1 D=none→i6 J g tt te D (pC own bJ σ) (upd H1 D (.lst [])) fun H'=>Q (.ref D) H'
section
variable {X:Cx} {scope:Scope} {own aZ:List Str} {bJ:List Nat} {elt tg iter:Expr} {ifs:List Expr} {pos:Pos} {wi:TI} {g:TG} {tt:TT} {te:TE}
theorem fk (sc:aI X scope own aZ bJ) (hc:X.calm=true) (hi:PI X tg iter wi)
  (hg:∀C s₃ H₃ fp,PG (fb X own aZ scope C s₃ H₃ fp) tg g) (ht:∀C s₃ H₃ fp,kf (fb X own aZ scope C s₃ H₃ fp) ifs tt) (he:∀C s₃ H₃ fp,PE (fb X own aZ scope C s₃ H₃ fp) elt te)
  (hs:∀x,foldedSetIterable iter X.env x=pure x:=by intro _;rfl):PE X (.ListComp elt [⟨tg,iter,ifs,0⟩] scope pos) (tZ own bJ wi g tt te):=by
 intro pins s σ H Q I h
 rw[eval_ListComp]
 refine wpAny_comprehension_free (use:=none) rfl hs (fD (sc.cells I.ok)) sc.kind sc.names (aG (hi pins s σ H _ I h) fun v s1 h1=>aG h1 fun itv s2 h2=>?_)
 obtain⟨it,fp,tn,J,H2,e,I2,T,st2,f2,q⟩:=h2
 subst e
 refine pE (RR:=fun acc C=>compPost (model X.prog X.w) X.A X.xe none (EP X pins σ Q) acc C) (R:=fun D H'=>Q (.ref D) H') sc hc hg ht he I2 T st2 f2 q ?_
 intro D C H' s' m I' hC hn hf hq
 refine⟨m,hn,fun h' sb=>?_⟩
 obtain⟨f0,f1,f2,f3,f4,f5⟩:=I2.iV (H':=H') hC hf
 exact⟨.ref D,H',I'.turned (t':=s'.toks) (it:=C) (fun b o hb e=>(sb.2 b hb).trans e) f0 f1 f3 f4 f5,rfl,hq⟩
theorem fU {i:Nat} {y:Str} {py spos:Pos} (sc:aI X scope own aZ bJ) (hc:X.calm=true) (hi:PI X tg iter wi)
  (hg:∀C s₃ H₃ fp,PG (fb X own aZ scope C s₃ H₃ fp) tg g) (ht:∀C s₃ H₃ fp,kf (fb X own aZ scope C s₃ H₃ fp) ifs tt) (he:∀C s₃ H₃ fp,PE (fb X own aZ scope C s₃ H₃ fp) elt te)
  (hN:X.N.Nodup) (hi':X.N[i]? =some y) (hx:X.env.scope.names.lookup y=some .local)
  (hsw:swapsWith (.ListComp elt [⟨tg,iter,ifs,0⟩] scope pos) (some (.Name y py)) spos.line X.env=pure true:=by rfl)
  (hs:∀x,foldedSetIterable iter X.env x=pure x:=by intro _;rfl):PS X (.Assign [.Name y py] (.ListComp elt [⟨tg,iter,ifs,0⟩] scope pos) spos) (oI (tZ own bJ wi g tt te) (eU i)):=by
 intro pins s σ H D I h
 rw[exec_Assign_Name_used _ _ _ _ hsw]
 refine wpAny_bind (wpAny_standAt (wpAny_bind ?_))
 show wpAny _ X.A (do let _ ←comprehension (.ListComp elt [⟨tg,iter,ifs,0⟩] scope pos) scope X.env _ (newList []) false (eval iter X.env) (some (assign (.Name y py) X.env))) _ _ s
 refine wpAny_bind (wpAny_mono (wpAny_comprehension_free (use:=some (assign (.Name y py) X.env)) (Q:=fun _ s'=>SP X pins D .next s') rfl hs (fD (sc.cells I.ok)) sc.kind sc.names
  (aG (hi pins s σ H _ I h) fun v s1 h1=>aG h1 fun itv s2 h2=>?_)) (fun _ s' hq=>wpAny_pure (wpAny_pure hq)) fun _ _ e=>e)
 obtain⟨it,fp,tn,J,H2,e,I2,T,st2,f2,q⟩:=h2
 subst e
 refine pE (RR:=fun acc C=>compPost (model X.prog X.w) X.A X.xe (some (assign (.Name y py) X.env)) (fun _ s'=>SP X pins D .next s') acc C) (R:=fun E H'=>D.nx (σ.set i (some (.ref E))) H') sc hc hg ht he I2 T st2 f2 q ?_
 intro E C H' s' m I' hC hn hf hq
 show wpAny _ X.A (assign (.Name y py) X.env (.ref E)) _ _ _
 obtain⟨f0,f1,f2,f3,f4,f5⟩:=I2.iV (H':=H') hC hf
 refine wpAny_assign_Name (mO I' hN hi' (.inl hx) (v:=.ref E) (u:=.ref E) rfl (fun s3 I3 ⟨a,sb,ha⟩=>?_) (.inr hx))
 have HN:C≠a:=by
  rcases ha with z | z
  ·rw[z];exact f1
  ·exact(f4 y a z).symm
 refine⟨m,hn.sameBut sb HN,fun h' HP=>?_⟩
 exact⟨_,H',I3.turned (t':=s3.toks) (it:=C) (fun b o hb e=>(HP.2 b hb).trans e) f0 f1 f3 f4 f5,hq⟩
end
theorem gZ {lo:Int} {n:Nat} {g:TG} {tt:TT} {te:TE} {D:Addr} {σ:St} {H:Hp} {R:Hp→Prop} (Pv:Nat→St→Hp→Prop) (h0:Pv 0 σ H)
  (hs:∀i σ H,i<n→Pv i σ H→g (.int (lo+i)) σ H fun σ2 H2=>tt σ2 H2 fun b H3=>if b=true then te σ2 H3 fun y H4=>∃ys,H4 D=some (.lst ys)∧ys.length<sizeLine∧Pv (i+1) σ2 (upd H4 D (.lst (ys++[y]))) else Pv (i+1) σ2 H3)
  (hd:∀σ H,Pv n σ H→R H):i6 (qY lo n) g tt te D σ H R:=by
 refine⟨fun i m σ H=>m=n-i∧i≤n∧Pv i σ H,⟨n,by simp,Nat.zero_le _,h0⟩,?_⟩
 rintro i m σ H ⟨rfl,hi,p⟩
 by_cases hlt:i<n
 ·refine .inr ⟨hlt,Pv (i+1),fun σ' H' p'=>⟨n-(i+1),by omega,rfl,hlt,p'⟩,fun x H' y=>?_⟩
  obtain⟨e,y⟩:=y
  subst e y
  exact hs i σ _ hlt p
 ·have e:i=n:=by omega
  subst e
  exact .inl ⟨Nat.le_refl _,hd σ H p⟩
theorem eK {K:PySem.W.Frag} {a:Addr} {xs:List V} {g:TG} {tt:TT} {te:TE} {D:Addr} {σ:St} {H:Hp} {R:Hp→Prop} (Pv:Nat→St→Hp→Prop) (h0:Pv 0 σ H) (hl:∀i σ H,i≤xs.length→Pv i σ H→cF K H a xs)
  (hs:∀i x σ H,xs[i]? =some x→Pv i σ H→g x σ H fun σ2 H2=>tt σ2 H2 fun b H3=>if b=true then te σ2 H3 fun y H4=>∃ys,H4 D=some (.lst ys)∧ys.length<sizeLine∧Pv (i+1) σ2 (upd H4 D (.lst (ys++[y]))) else Pv (i+1) σ2 H3)
  (hd:∀σ H,Pv xs.length σ H→R H):i6 (xV K a) g tt te D σ H R:=by
 refine⟨fun i m σ H=>m=xs.length-i∧i≤xs.length∧Pv i σ H,⟨xs.length,by simp,Nat.zero_le _,h0⟩,?_⟩
 rintro i m σ H ⟨rfl,hi,p⟩
 have q:=hl i σ H hi p
 by_cases hlt:i<xs.length
 ·refine .inr ⟨⟨xs,xs[i],q,by simp[hlt]⟩,Pv (i+1),fun σ' H' p'=>⟨xs.length-(i+1),by omega,rfl,hlt,p'⟩,fun x H' y=>?_⟩
  obtain⟨e,y⟩:=y
  subst e
  exact hs i x σ _ (y xs q) p
 ·have e:i=xs.length:=by omega
  subst e
  exact .inl ⟨⟨xs,q,Nat.le_refl _⟩,hd σ H p⟩
theorem uL {K:PySem.W.Frag} {a:Addr} {xs:List V} {g:TG} {tt:TT} {te:TE} {D:Addr} {σ:St} {H:Hp} {R:Hp→Prop} (Pv:Nat→St→Hp→Prop) (h0:Pv 0 σ H) (hl:∀i σ H,i≤xs.length→Pv i σ H→bP K H a xs)
  (hs:∀i x σ H,xs[i]? =some x→Pv i σ H→g x σ H fun σ2 H2=>tt σ2 H2 fun b H3=>if b=true then te σ2 H3 fun y H4=>∃ys,H4 D=some (.lst ys)∧ys.length<sizeLine∧Pv (i+1) σ2 (upd H4 D (.lst (ys++[y]))) else Pv (i+1) σ2 H3)
  (hd:∀σ H,Pv xs.length σ H→R H):i6 (Ek K a) g tt te D σ H R:=by
 refine⟨fun i m σ H=>m=xs.length-i∧i≤xs.length∧Pv i σ H,⟨xs.length,by simp,Nat.zero_le _,h0⟩,?_⟩
 rintro i m σ H ⟨rfl,hi,p⟩
 have q:=hl i σ H hi p
 by_cases hlt:i<xs.length
 ·refine .inr ⟨⟨xs,xs[i],q,by simp[hlt]⟩,Pv (i+1),fun σ' H' p'=>⟨xs.length-(i+1),by omega,rfl,hlt,p'⟩,fun x H' y=>?_⟩
  obtain⟨e,y⟩:=y
  subst e
  exact hs i x σ _ (y xs q) p
 ·have e:i=xs.length:=by omega
  subst e
  exact .inl ⟨⟨xs,q,Nat.le_refl _⟩,hd σ H p⟩
section
variable {X:Cx}
def Kn (i j:Int):Prop:=0<j∧j.natAbs.log2<9000
theorem oM:bW X (binaryOp .FloorDiv) (rI Kn fun i j=>.int (i / j)):=El fun i j _ _ _ _ _ hc q=>by
 obtain⟨h0,h1⟩:=hc
 refine floordiv_int (by omega) ?_ (.inl (PyProof.noPylong_of_log2 h1))
 rw[Int.fdiv_eq_ediv_of_nonneg _ (by omega)]
 exact q
theorem yf:bW X (binaryOp .Add) (fun x y H Q=>∃(a b:Addr) (ys:List V),x=.ref a∧y=.ref b∧bP X.K H a []∧bP X.K H b ys∧Q (.ref b) H):=by
 intro pins s σ H x y v u Q I rx ry h
 obtain⟨a,b,ys,rfl,rfl,ha,hb,q⟩:=h
 cases rx
 cases ry
 obtain⟨its,r1,p1,_⟩:=I.tuple ha
 obtain⟨its2,r2,p2,_⟩:=I.tuple hb
 cases r1
 obtain⟨⟨cls,dd,data,sl⟩,ho,hc,n,hd⟩:=id p1
 obtain⟨⟨cls2,dd2,data2,sl2⟩,ho2,hc2,n2,hd2⟩:=id p2
 simp only at hc hd hc2 hd2
 subst hc hd hc2 hd2
 exact concat_meets ⟨_,ho,rfl⟩ ⟨_,ho2,rfl⟩ noFill_tuple_add seq_tuple_add PySem.F.slot_tuple_add PySem.F.entry_tuple_add (PySem.F.args_tuple_add_2 _ _)
  (tuple_addW0 a b #[] its2.toArray n n2 dd dd2 sl sl2 rfl) ⟨ho,ho2,⟨.ref b,H,I,rfl,q⟩⟩
def zi (K:PySem.W.Frag):R2:=fun x y H Q=>∃(a b:Addr) (xs ys:List V),x=.ref a∧y=.ref b∧bP K H a xs∧bP K H b ys∧ys≠[]∧xs.length+ys.length≤sizeLine∧
 (xs=[]→Q (.ref b) H)∧(xs≠[]→∀p,H p=none→Q (.ref p) (upd H p (.tup (xs++ys))))
theorem FR:bW X (binaryOp .Add) (zi X.K):=by
 intro pins s σ H x y v u Q I rx ry h
 obtain⟨a,b,xs,ys,rfl,rfl,ha,hb,hy,hz,q1,q2⟩:=h
 by_cases hx:xs=[]
 ·subst hx
  exact yf pins s σ H _ _ v u Q I rx ry ⟨a,b,ys,rfl,rfl,ha,hb,q1 rfl⟩
 ·exact x6 pins s σ H _ _ v u Q I rx ry ⟨a,b,xs,ys,rfl,rfl,ha,hb,hx,hz,fun z=>absurd z hy,fun _=>q2 hx⟩
end
def rH (scope esc:Scope) (N own aZ:List Str) (bJ:List Nat):Bool:=
 scope.names.all (fun y=>y.2 != .cell)&&scope.kind == .function&&scope.names.all (fun y=>y.2 != .local||scope.names.lookup y.1 == some .local)
 &&scope.names.all (fun y=>y.2 != .free||(esc.names.lookup y.1 == some .cell||esc.names.lookup y.1 == some .free))
 &&bJ.length == aZ.length&&(List.range bJ.length).all (fun i=>(bJ[i]?).bind (fun j=>N[j]?) == aZ[i]?)
 &&aZ.all (fun x=>scope.names.contains (x,NameKind.free)&&scope.names.lookup x == some .free)
theorem aI.mk' {X:Cx} {scope esc:Scope} {N own aZ:List Str} {bJ:List Nat} (hs:X.env.scope=esc) (hN:X.N=N) (h:rH scope esc N own aZ bJ=true):aI X scope own aZ bJ:=by
 unfold rH at h
 simp only[Bool.and_eq_true,List.all_eq_true,bne_iff_ne,beq_iff_eq,Bool.or_eq_true,List.contains_iff_mem] at h
 obtain⟨⟨⟨⟨⟨⟨h1,h2⟩,h3⟩,h4⟩,h5⟩,h6⟩,h7⟩:=h
 refine⟨h1,h2,fun y hy hl=>?_,fun y hy hf=>?_,h5,fun i j e=>?_,fun x hx=>h7 x hx⟩
 ·rcases h3 y hy with z | z
  ·exact absurd hl z
  ·exact z
 ·rw[hs]
  rcases h4 y hy with z | z
  ·exact absurd hf z
  ·exact z
 ·have hi:i<bJ.length:=(List.getElem?_eq_some_iff.mp e).1
  have q:=h6 i (List.mem_range.mpr hi)
  rw[e] at q
  rw[hN]
  exact q
def KB (d:Addr) (H H':Hp):Prop:=∀b o,H b=some o→b≠d→H' b=some o
theorem KB.refl (d:Addr) (H:Hp):KB d H H:=fun _ _ h _=>h
theorem KB.trans {d:Addr} {H H1 H2:Hp} (a:KB d H H1) (b:KB d H1 H2):KB d H H2:=fun c o h n=>b c o (a c o h n) n
theorem KB.write {d:Addr} {H:Hp} {o:HO}:KB d H (upd H d o):=fun b o h n=>by rw[aF n];exact h
theorem Same.kb {d:Addr} {H H':Hp} (s:Same H H'):KB d H H':=fun b o h _=>s b o h
theorem Same.new {H:Hp} {p:Addr} {o:HO} (h:H p=none):Same H (upd H p o):=fun b u e=>by rw[aF (aH e h)];exact e
theorem Same.kbn {d:Addr} {H H1 H2:Hp} (s:Same H H1) (h:H d=none) (k:KB d H1 H2):Same H H2:=fun b o e=>k b o (s b o e) (aH e h)
def bQ (H H':Hp):Prop:=∀b xs,H b=some (.tup xs)→H' b=some (.tup xs)
theorem bQ.trans {H H1 H2:Hp} (a:bQ H H1) (b:bQ H1 H2):bQ H H2:=fun c o h=>b c o (a c o h)
theorem Same.kt {H H':Hp} (s:Same H H'):bQ H H':=fun b xs h=>s b _ h
theorem bQ.lst {H:Hp} {d:Addr} {xs:List V} {o:HO} (h:H d=some (.lst xs)):bQ H (upd H d o):=fun b ys e=>by
 rw[aF (lB e h (fun z=>nomatch z))];exact e
theorem bQ.kb {d:Addr} {xs:List V} {H H':Hp} (h:H d=some (.lst xs)) (k:KB d H H'):bQ H H':=fun b ys e=>k b _ e (lB e h (fun z=>nomatch z))
def cb (H:Hp) (ps:List Addr) (ls:List (List Int)):Prop:=Paired (fun p (l:List Int)=>H p=some (.tup (l.map V.int))) ps ls
theorem cb.keep {H H':Hp} {ps:List Addr} {ls:List (List Int)} (t:cb H ps ls) (k:bQ H H'):cb H' ps ls:=Paired.lC t fun _ _ h=>k _ _ h
theorem cb.get {H:Hp}:∀{ps:List Addr} {ls:List (List Int)} {i:Nat} {p:Addr},cb H ps ls→ps[i]? =some p→∃l,ls[i]? =some l∧H p=some (.tup (l.map V.int))
 | _,_,_,_,.nil,e=>by simp at e
 | _,_,0,_,.cons r _,e=>by simp at e;subst e;exact⟨_,rfl,r⟩
 | _,_,i+1,p,.cons _ t,e=>by
  obtain⟨u,h1,h2⟩:=cb.get (i:=i) (p:=p) t (by simpa using e)
  exact⟨u,by simpa using h1,h2⟩
theorem dw {α β:Type} {F:α→β→Prop}:∀{xs ys:List α} {us ws:List β},Paired F xs us→Paired F ys ws→Paired F (xs++ys) (us++ws)
 | _,_,_,_,.nil,s=>s
 | _,_,_,_,.cons r t,s=>.cons r (dw t s)
end L2
namespace L2
open PySem
theorem bK:bootBuiltins "len"=some (.builtin "len"):=by decide+kernel
theorem Bk:bootBuiltins "min"=some (.builtin "min"):=by decide+kernel
theorem cj:bootBuiltins "isinstance"=some (.builtin "isinstance"):=by decide+kernel
theorem iN:bootBuiltins "sorted"=some (.builtin "sorted"):=by decide+kernel
theorem Bl:bootBuiltins "all"=some (.builtin "all"):=by decide+kernel
theorem FT:bootBuiltins "list"=some (.type "list"):=by decide+kernel
theorem gG:bootBuiltins "tuple"=some (.type "tuple"):=by decide+kernel
theorem mV:bootBuiltins "int"=some (.type "int"):=by decide+kernel
theorem pG:bootBuiltins "str"=some (.type "str"):=by decide+kernel
theorem yg:bootBuiltins "dict"=some (.type "dict"):=by decide+kernel
theorem HQ:bootBuiltins "set"=some (.type "set"):=by decide+kernel
end L2
namespace L2
open PySem PySem.Spec PyProof.Rows
def Nr (K:PySem.W.Frag):List V→Hp→VK→Prop:=fun xs H Q=>∃x n,xs=[x]∧Dc K x H n∧Q (.int n) H
section
variable {X:Cx}
theorem aQ (K:PySem.W.Frag) (hK:X.K=K:=by rfl):cZ X (.builtin "len") (Nr K):=by subst hK;exact Dd
theorem aU (K:PySem.W.Frag) (hK:X.K=K:=by rfl):x9 X (Hl K):=by subst hK;exact FK
theorem bD (K:PySem.W.Frag) (hK:X.K=K:=by rfl):x9 X (Hm K):=by subst hK;exact Hn
theorem ck (K:PySem.W.Frag) (hK:X.K=K:=by rfl):x5 X (y4 K):=by subst hK;exact FL
theorem Dj (K:PySem.W.Frag) (hK:X.K=K:=by rfl):bW X (binaryOp .Add) (zi K):=by subst hK;exact FR
theorem Bm (K:PySem.W.Frag) (hK:X.K=K:=by rfl):bW X (compareOp .In) (Ep K false):=by subst hK;exact Bb
theorem rJ (K:PySem.W.Frag) (hK:X.K=K:=by rfl):bW X (compareOp .NotIn) (Ep K true):=by subst hK;exact uv
def HR (_ j:Int):Prop:=0<j
theorem cpos {i j:Int} (h:0<j):HR i j:=h
theorem cq:bW X (binaryOp .Mod) (rI HR fun i j=>.int (i % j)):=G'
end
end L2
namespace L2
theorem uM {t u:TS} {D:Ends} {σ:St} {H:Hp} (Pv:St→Hp→Prop) (h1:∀σ H,Pv σ H→u D σ H) (h2:(∀σ H,Pv σ H→u D σ H)→t {D with nx:=u D} σ H):oH t u D σ H:=h2 h1
end L2
namespace L2
open PySem PySem.Spec PyProof.Rows
inductive Dt where
 | non | bl (b:Bool) | int (i:Int) | str (x:Str) | tup (xs:List Dt) | lst (xs:List Dt)
mutual
def Dt.beq:Dt→Dt→Bool
 | .non,.non=>true
 | .bl a,.bl b=>a == b
 | .bl a,.int b=>(if a then 1 else 0) == b
 | .int a,.bl b=>a == (if b then 1 else 0)
 | .int a,.int b=>a == b
 | .str a,.str b=>a == b
 | .tup xs,.tup ys=>Dt.dh xs ys
 | .lst xs,.lst ys=>Dt.dh xs ys
 | _,_=>false
def Dt.dh:List Dt→List Dt→Bool
 | [],[]=>true
 | x::xs,y::ys=>x.beq y&&Dt.dh xs ys
 | _,_=>false
end
mutual
def Dt.dep:Dt→Nat
 | .tup xs=>Dt.deps xs+1
 | .lst xs=>Dt.deps xs+1
 | _=>0
def Dt.deps:List Dt→Nat
 | []=>0
 | x::xs=>max x.dep (Dt.deps xs)
end
mutual
def au (K:PySem.W.Frag) (H:Hp):V→Dt→Prop
 | x,.non=>x=.non
 | x,.bl b=>x=.bl b
 | x,.int i=>x=.int i
 | x,.str z=>x=.str z
 | x,.tup ds=>∃a xs,x=.ref a∧bP K H a xs∧aP K H xs ds
 | x,.lst ds=>∃a xs,x=.ref a∧cF K H a xs∧aP K H xs ds
def aP (K:PySem.W.Frag) (H:Hp):List V→List Dt→Prop
 | [],[]=>True
 | x::xs,d::ds=>au K H x d∧aP K H xs ds
 | _,_=>False
end
theorem Dt.beq_refl (d:Dt):d.beq d=true:=by
 induction d using Dt.rec (motive_2:=fun xs=>Dt.dh xs xs=true) with
 | non=>simp[Dt.beq]
 | bl b=>simp[Dt.beq]
 | int b=>simp[Dt.beq]
 | str b=>simp[Dt.beq]
 | tup xs ih=>simp[Dt.beq,ih]
 | lst xs ih=>simp[Dt.beq,ih]
 | nil=>simp[Dt.dh]
 | cons x xs h1 h2=>simp[Dt.dh,h1,h2]
theorem aP.length {K:PySem.W.Frag} {H:Hp}:∀{xs:List V} {ds:List Dt},aP K H xs ds→xs.length=ds.length
 | [],[],_=>rfl
 | [],_::_,h=>by simp[aP] at h
 | _::_,[],h=>by simp[aP] at h
 | x::xs,d::ds,h=>by
  rw[aP] at h
  rw[List.length_cons,List.length_cons,aP.length h.2]
theorem aP.get {K:PySem.W.Frag} {H:Hp}:∀{xs:List V} {ds:List Dt} {i:Nat} {x:V},aP K H xs ds→xs[i]? =some x→∃d,ds[i]? =some d∧au K H x d
 | [],_,_,_,_,e=>by simp at e
 | _::_,[],_,_,h,_=>by simp[aP] at h
 | x::xs,d::ds,0,y,h,e=>by
  rw[aP] at h
  simp at e;subst e
  exact⟨d,rfl,h.1⟩
 | x::xs,d::ds,i+1,y,h,e=>by
  rw[aP] at h
  obtain⟨d',h1,h2⟩:=aP.get (i:=i) (x:=y) h.2 (by simpa using e)
  exact⟨d',by simpa using h1,h2⟩
theorem Dt.gH {d:Dt}:∀{ds:List Dt},d∈ds→d.dep≤Dt.deps ds
 | [],h=>by cases h
 | x::xs,h=>by
  rw[Dt.deps]
  rcases List.mem_cons.mp h with rfl | h
  ·exact Nat.le_max_left ..
  ·exact Nat.le_trans (Dt.gH h) (Nat.le_max_right ..)
def t_ (xs ys:List Dt) (j:Nat):Bool:=match xs[j]?,ys[j]? with
 | some x,some y=>x.beq y
 | _,_=>false
theorem qm (n:Nat) (e:Nat→Bool):(List.range (n+1)).all e=(e 0&&(List.range n).all fun j=>e (j+1)):=by
 rw[List.range_succ_eq_map,List.all_cons,List.all_map];rfl
theorem jB:∀(xs ys:List Dt),xs.length=ys.length→(List.range xs.length).all (t_ xs ys)=Dt.dh xs ys
 | [],[],_=>by simp[Dt.dh]
 | x::xs,y::ys,h=>by
  have h':xs.length=ys.length:=by simpa using h
  rw[List.length_cons,qm,Dt.dh,←jB xs ys h']
  rfl
theorem jC:∀(xs ys:List Dt),xs.length≠ys.length→Dt.dh xs ys=false
 | [],[],h=>absurd rfl h
 | [],_::_,_=>by simp[Dt.dh]
 | _::_,[],_=>by simp[Dt.dh]
 | x::xs,y::ys,h=>by
  have h':xs.length≠ys.length:=fun z=>h (by simp[z])
  rw[Dt.dh,jC xs ys h',Bool.and_false]
section
variable {X:Cx} {pins:List (Addr×Obj)} {σ:St} {H:Hp} {s:Shared}
theorem kP {a:Addr} {xs ys:List V} (I:Inv X pins σ H s) (h1:cF X.K H a xs) (h2:bP X.K H a ys):False:=by
 obtain⟨its,_,p,_⟩:=I.list h1
 obtain⟨its2,_,q,_⟩:=I.tuple h2
 exact SeqAt.ne_of_list_tuple p.isList (show s.heap.IsTuple a its2.toArray from q) rfl
theorem qo (I:Inv X pins σ H s) (d:Dt):∀(x:V) (d':Dt),au X.K H x d→au X.K H x d'→d=d':=by
 induction d using Dt.rec (motive_2:=fun ds=>∀(xs:List V) (ds':List Dt),aP X.K H xs ds→aP X.K H xs ds'→ds=ds') with
 | non=>intro x d' h h';cases d'<;>simp_all [au]
 | bl b=>intro x d' h h';cases d'<;>simp_all [au]
 | int b=>intro x d' h h';cases d'<;>simp_all [au]
 | str b=>intro x d' h h';cases d'<;>simp_all [au]
 | tup ds ih=>
  intro x d' h h'
  rw[au] at h
  obtain⟨a,xs,rfl,hq,hd⟩:=h
  cases d' with
  | tup ds'=>
   rw[au] at h'
   obtain⟨a',xs',e,hq',hd'⟩:=h'
   cases e
   rw[I.iL hq' hq] at hd'
   rw[ih xs ds' hd hd']
  | lst ds'=>
   rw[au] at h'
   obtain⟨a',xs',e,hq',hd'⟩:=h'
   cases e
   exact(kP I hq' hq).elim
  | _=>simp[au] at h'
 | lst ds ih=>
  intro x d' h h'
  rw[au] at h
  obtain⟨a,xs,rfl,hq,hd⟩:=h
  cases d' with
  | lst ds'=>
   rw[au] at h'
   obtain⟨a',xs',e,hq',hd'⟩:=h'
   cases e
   rw[I.uc hq' hq] at hd'
   rw[ih xs ds' hd hd']
  | tup ds'=>
   rw[au] at h'
   obtain⟨a',xs',e,hq',hd'⟩:=h'
   cases e
   exact(kP I hq hq').elim
  | _=>simp[au] at h'
 | nil=>
  rename_i xs ds' h h'
  cases xs with
  | nil=>cases ds' with
   | nil=>rfl
   | cons _ _=>simp[aP] at h'
  | cons _ _=>simp[aP] at h
 | cons d ds h1 h2=>
  rename_i xs ds' h h'
  cases xs with
  | nil=>simp[aP] at h
  | cons x xs=>cases ds' with
   | nil=>simp[aP] at h'
   | cons d' ds'=>
    rw[aP] at h h'
    rw[h1 x d' h.1 h'.1,h2 xs ds' h.2 h'.2]
theorem lL {A:Around} {xs ys:List V} {ds ds':List Dt} {its its2:List Value} (r1:Vals xs its) (r2:Vals ys its2) (h1:aP X.K H xs ds) (h2:aP X.K H ys ds')
  (ih:∀d∈ds,∀(d':Dt) (x y:V) (u v:Value),au X.K H x d→au X.K H y d'→RelV x u→RelV y v→SeqAt.EqAt A s u v (d.beq d')):
  ∀j (a:j<its.toArray.size) (b:j<its2.toArray.size),SeqAt.EqAt A s its.toArray[j] its2.toArray[j] (t_ ds ds' j):=fun j a b=>by
 have a':j<its.length:=by simpa using a
 have b':j<its2.length:=by simpa using b
 have la:=r1.length
 have lb:=r2.length
 have ex:xs[j]? =some (xs[j]'(by omega)):=List.getElem?_eq_getElem (by omega)
 have ey:ys[j]? =some (ys[j]'(by omega)):=List.getElem?_eq_getElem (by omega)
 obtain⟨u,eu,ru⟩:=r1.get ex
 obtain⟨v,ev,rv⟩:=r2.get ey
 obtain⟨d,ed,hd⟩:=h1.get ex
 obtain⟨d',ed',hd'⟩:=h2.get ey
 have e1:its.toArray[j]=u:=by
  rw[List.getElem?_eq_getElem a'] at eu
  simpa using Option.some.inj eu
 have e2:its2.toArray[j]=v:=by
  rw[List.getElem?_eq_getElem b'] at ev
  simpa using Option.some.inj ev
 rw[e1,e2]
 have e3:t_ ds ds' j=d.beq d':=by unfold t_;rw[ed,ed']
 rw[e3]
 exact ih d (List.mem_of_getElem? ed) d' _ _ u v hd hd' ru rv
theorem uN {A:Around} {a b:Addr} {xs ys:List V} {ds ds':List Dt} (I:Inv X pins σ H s) (q1:cF X.K H a xs) (q2:cF X.K H b ys) (h1:aP X.K H xs ds) (h2:aP X.K H ys ds') (hu:A.units<cLine)
  (ih:∀d∈ds,∀(d':Dt) (x y:V) (u v:Value),au X.K H x d→au X.K H y d'→RelV x u→RelV y v→SeqAt.EqAt A.in1 s u v (d.beq d')):SeqAt.RcAt A s (.ref a) (.ref b) (Dt.dh ds ds'):=by
 obtain⟨its,r1,p1,_⟩:=I.list q1
 obtain⟨its2,r2,p2,_⟩:=I.list q2
 have l1:=r1.length
 have l2:=r2.length
 have l3:=h1.length
 have l4:=h2.length
 by_cases hl:ds.length=ds'.length
 ·have:=SeqAt.RcAt.lists p1.isList p2.isList (by simp;omega) hu (lL r1 r2 h1 h2 ih)
  rw[show its.toArray.size=ds.length by simp;omega,jB ds ds' hl] at this
  exact this
 ·rw[jC ds ds' hl]
  exact SeqAt.RcAt.lists_lengths p1.isList p2.isList (by simp;omega) hu
theorem rK {A:Around} {a b:Addr} {xs ys:List V} {ds ds':List Dt} (I:Inv X pins σ H s) (q1:bP X.K H a xs) (q2:bP X.K H b ys) (h1:aP X.K H xs ds) (h2:aP X.K H ys ds') (hu:A.units<cLine)
  (ih:∀d∈ds,∀(d':Dt) (x y:V) (u v:Value),au X.K H x d→au X.K H y d'→RelV x u→RelV y v→SeqAt.EqAt A.in1 s u v (d.beq d')):SeqAt.RcAt A s (.ref a) (.ref b) (Dt.dh ds ds'):=by
 obtain⟨its,r1,p1,_⟩:=I.tuple q1
 obtain⟨its2,r2,p2,_⟩:=I.tuple q2
 have l1:=r1.length
 have l2:=r2.length
 have l3:=h1.length
 have l4:=h2.length
 have:=SeqAt.RcAt.tuples (show s.heap.IsTuple a its.toArray from p1) (show s.heap.IsTuple b its2.toArray from p2) hu (lL r1 r2 h1 h2 ih)
 by_cases hl:ds.length=ds'.length
 ·rw[show min its.toArray.size its2.toArray.size=ds.length by simp;omega,jB ds ds' hl,show(its.toArray.size == its2.toArray.size)=true by simp;omega,Bool.and_true] at this
  exact this
 ·rw[show(its.toArray.size == its2.toArray.size)=false by simp;omega,Bool.and_false] at this
  rw[jC ds ds' hl]
  exact this
theorem jD (I:Inv X pins σ H s) (d:Dt):∀(A:Around) (d':Dt) (x y:V) (u v:Value),A.units+d.dep<cLine→au X.K H x d→au X.K H y d'→RelV x u→RelV y v→SeqAt.EqAt A s u v (d.beq d'):=by
 have flat:∀{A:Around} {d d':Dt} {x y:V} {u v:Value},iE x=true→iE y=true→kI x y=d.beq d'→RelV x u→RelV y v→SeqAt.EqAt A s u v (d.beq d'):=fun fx fy e ru rv=>e▸A9 ru rv fx fy
 have yh:∀{a:Addr} {xs:List V},cF X.K H a xs→∃its:Array Value,s.heap.IsList a its:=fun q=>let ⟨its,_,p,_⟩:=I.list q;⟨_,p.isList⟩
 have yi:∀{a:Addr} {xs:List V},bP X.K H a xs→∃its:Array Value,s.heap.IsTuple a its:=fun q=>let ⟨its,_,p,_⟩:=I.tuple q;⟨_,p⟩
 have refs:∀{A:Around} {a b:Addr} {d d':Dt},au X.K H (.ref a) d→au X.K H (.ref b) d'→SeqAt.RcAt A s (.ref a) (.ref b) (d.beq d')→SeqAt.EqAt A s (.ref a) (.ref b) (d.beq d'):=by
  intro A a b d d' h h' r
  by_cases e:a=b
  ·subst e
   rw[←qo I d _ _ h h',Dt.beq_refl]
   exact SeqAt.EqAt.same _
  ·exact SeqAt.EqAt.of_refs e r
 induction d using Dt.rec (motive_2:=fun ds=>∀d∈ds,∀(A:Around) (d':Dt) (x y:V) (u v:Value),A.units+d.dep<cLine→au X.K H x d→au X.K H y d'→RelV x u→RelV y v→SeqAt.EqAt A s u v (d.beq d')) with
 | non=>
  intro A d' x y u v hu h h' ru rv
  rw[au] at h
  subst h
  have hu':A.units<cLine:=by omega
  cases d' with
  | tup ds'=>
   rw[au] at h';obtain⟨b,ys,rfl,q,_⟩:=h'
   cases ru;cases rv
   obtain⟨its,p⟩:=yi q
   exact SeqAt.EqAt.none_tuple p hu'
  | lst ds'=>
   rw[au] at h';obtain⟨b,ys,rfl,q,_⟩:=h'
   cases ru;cases rv
   obtain⟨its,p⟩:=yh q
   exact SeqAt.EqAt.none_list p hu'
  | _=>rw[au] at h';subst h';exact flat rfl rfl (by simp[Dt.beq,kI]) ru rv
 | bl b0=>
  intro A d' x y u v hu h h' ru rv
  rw[au] at h
  subst h
  have hu':A.units<cLine:=by omega
  cases d' with
  | tup ds'=>
   rw[au] at h';obtain⟨b,ys,rfl,q,_⟩:=h'
   cases ru;cases rv
   obtain⟨its,p⟩:=yi q
   exact SeqAt.EqAt.bool_tuple _ p hu'
  | lst ds'=>
   rw[au] at h';obtain⟨b,ys,rfl,q,_⟩:=h'
   cases ru;cases rv
   obtain⟨its,p⟩:=yh q
   exact SeqAt.EqAt.bool_list _ p hu'
  | _=>rw[au] at h';subst h';exact flat rfl rfl (by simp[Dt.beq,kI]) ru rv
 | int i0=>
  intro A d' x y u v hu h h' ru rv
  rw[au] at h
  subst h
  have hu':A.units<cLine:=by omega
  cases d' with
  | tup ds'=>
   rw[au] at h';obtain⟨b,ys,rfl,q,_⟩:=h'
   obtain⟨t,rfl⟩:=ru;cases rv
   obtain⟨its,p⟩:=yi q
   exact SeqAt.EqAt.int_tuple _ _ p hu'
  | lst ds'=>
   rw[au] at h';obtain⟨b,ys,rfl,q,_⟩:=h'
   obtain⟨t,rfl⟩:=ru;cases rv
   obtain⟨its,p⟩:=yh q
   exact SeqAt.EqAt.int_list _ _ p hu'
  | _=>rw[au] at h';subst h';exact flat rfl rfl (by simp[Dt.beq,kI]) ru rv
 | str z0=>
  intro A d' x y u v hu h h' ru rv
  rw[au] at h
  subst h
  have hu':A.units<cLine:=by omega
  cases d' with
  | tup ds'=>
   rw[au] at h';obtain⟨b,ys,rfl,q,_⟩:=h'
   obtain⟨t,rfl⟩:=ru;cases rv
   obtain⟨its,p⟩:=yi q
   exact SeqAt.EqAt.str_tuple _ _ p hu'
  | lst ds'=>
   rw[au] at h';obtain⟨b,ys,rfl,q,_⟩:=h'
   obtain⟨t,rfl⟩:=ru;cases rv
   obtain⟨its,p⟩:=yh q
   exact SeqAt.EqAt.str_list _ _ p hu'
  | _=>rw[au] at h';subst h';exact flat rfl rfl (by simp[Dt.beq,kI]) ru rv
 | tup ds ih=>
  intro A d' x y u v hu h h' ru rv
  have hD:=h
  have hD':=h'
  rw[au] at h
  obtain⟨a,xs,rfl,q,hd⟩:=h
  cases ru
  obtain⟨its,p⟩:=yi q
  have hu':A.units<cLine:=by omega
  cases d' with
  | non=>rw[au] at h';subst h';cases rv;exact SeqAt.EqAt.tuple_none p hu'
  | bl b=>rw[au] at h';subst h';cases rv;exact SeqAt.EqAt.tuple_bool _ p hu'
  | int b=>rw[au] at h';subst h';obtain⟨t,rfl⟩:=rv;exact SeqAt.EqAt.tuple_int _ _ p hu'
  | str b=>rw[au] at h';subst h';obtain⟨t,rfl⟩:=rv;exact SeqAt.EqAt.tuple_str _ _ p hu'
  | lst ds'=>
   rw[au] at h';obtain⟨b,ys,rfl,q',_⟩:=h'
   cases rv
   obtain⟨its2,p2⟩:=yh q'
   exact SeqAt.EqAt.tuple_list p p2 hu'
  | tup ds'=>
   rw[au] at h';obtain⟨b,ys,rfl,q',hd'⟩:=h'
   cases rv
   refine refs hD hD' ?_
   have:=rK (A:=A) I q q' hd hd' hu' fun d hm d' x y u v h1 h2 r1 r2=>ih d hm A.in1 d' x y u v (by
    have:=Dt.gH hm
    rw[Dt.dep] at hu
    show A.units+1+d.dep<cLine
    omega) h1 h2 r1 r2
   simpa[Dt.beq] using this
 | lst ds ih=>
  intro A d' x y u v hu h h' ru rv
  have hD:=h
  have hD':=h'
  rw[au] at h
  obtain⟨a,xs,rfl,q,hd⟩:=h
  cases ru
  obtain⟨its,p⟩:=yh q
  have hu':A.units<cLine:=by omega
  cases d' with
  | non=>rw[au] at h';subst h';cases rv;exact SeqAt.EqAt.list_none p hu'
  | bl b=>rw[au] at h';subst h';cases rv;exact SeqAt.EqAt.list_bool _ p hu'
  | int b=>rw[au] at h';subst h';obtain⟨t,rfl⟩:=rv;exact SeqAt.EqAt.list_int _ _ p hu'
  | str b=>rw[au] at h';subst h';obtain⟨t,rfl⟩:=rv;exact SeqAt.EqAt.list_str _ _ p hu'
  | tup ds'=>
   rw[au] at h';obtain⟨b,ys,rfl,q',_⟩:=h'
   cases rv
   obtain⟨its2,p2⟩:=yi q'
   exact SeqAt.EqAt.list_tuple p p2 hu'
  | lst ds'=>
   rw[au] at h';obtain⟨b,ys,rfl,q',hd'⟩:=h'
   cases rv
   refine refs hD hD' ?_
   have:=uN (A:=A) I q q' hd hd' hu' fun d hm d' x y u v h1 h2 r1 r2=>ih d hm A.in1 d' x y u v (by
    have:=Dt.gH hm
    rw[Dt.dep] at hu
    show A.units+1+d.dep<cLine
    omega) h1 h2 r1 r2
   simpa[Dt.beq] using this
 | nil=>
  rename_i d hd A d' x y u v a1 a2 a3 a4 a5
  cases hd
 | cons d ds h1 h2=>
  rename_i d0 hd A d' x y u v a1 a2 a3 a4 a5
  rcases List.mem_cons.mp hd with e | hd
  ·subst e;exact h1 A d' x y u v a1 a2 a3 a4 a5
  ·exact h2 d0 hd A d' x y u v a1 a2 a3 a4 a5
def Dt.HS:Dt→Bool
 | .tup _=>true
 | .lst _=>true
 | _=>false
def Dk (K:PySem.W.Frag) (neg:Bool):R2:=fun x y H Q=>∃d d':Dt,au K H x d∧au K H y d'∧d.HS=true∧d'.HS=true∧d.dep≤40∧Q (.bl (if neg then !d.beq d' else d.beq d')) H
theorem Bn (K:PySem.W.Frag) (hu:X.A.units+64<cLine) (hK:X.K=K:=by rfl):bW X (compareOp .Eq) (Dk K false):=by
 subst hK
 intro pins s σ H x y v u Q I rx ry h
 obtain⟨d,d',h,h',sq,HU,hd,q⟩:=h
 have hA:∀e:Dt,e.dep≤40→X.A.in1.units+e.dep<cLine:=fun e he=>by show X.A.units+1+e.dep<cLine;omega
 have hu':X.A.units<cLine:=by omega
 cases d with
 | tup ds=>
  rw[au] at h
  obtain⟨a,xs,rfl,q1,hd1⟩:=h
  cases rx
  have ih:∀d∈ds,∀(d':Dt) (x y:V) (u v:Value),au X.K H x d→au X.K H y d'→RelV x u→RelV y v→SeqAt.EqAt X.A.in1 s u v (d.beq d'):=fun d hm d' x y u v h1 h2 r1 r2=>
   jD I d X.A.in1 d' x y u v (hA d (by have:=Dt.gH hm;rw[Dt.dep] at hd;omega)) h1 h2 r1 r2
  cases d' with
  | tup ds'=>
   rw[au] at h'
   obtain⟨b,ys,rfl,q2,hd2⟩:=h'
   cases ry
   exact rK I q1 q2 hd1 hd2 hu' ih _ _ _ _ ⟨.bl _,H,I,rfl,by simpa[Dt.beq] using q⟩
  | lst ds'=>
   rw[au] at h'
   obtain⟨b,ys,rfl,q2,hd2⟩:=h'
   cases ry
   obtain⟨its,_,p,_⟩:=I.tuple q1
   obtain⟨its2,_,p2,_⟩:=I.list q2
   exact SeqAt.RcAt.tuple_list (show s.heap.IsTuple a its.toArray from p) p2.isList hu' _ _ _ _ ⟨.bl _,H,I,rfl,by simpa[Dt.beq] using q⟩
  | _=>cases HU
 | lst ds=>
  rw[au] at h
  obtain⟨a,xs,rfl,q1,hd1⟩:=h
  cases rx
  have ih:∀d∈ds,∀(d':Dt) (x y:V) (u v:Value),au X.K H x d→au X.K H y d'→RelV x u→RelV y v→SeqAt.EqAt X.A.in1 s u v (d.beq d'):=fun d hm d' x y u v h1 h2 r1 r2=>
   jD I d X.A.in1 d' x y u v (hA d (by have:=Dt.gH hm;rw[Dt.dep] at hd;omega)) h1 h2 r1 r2
  cases d' with
  | lst ds'=>
   rw[au] at h'
   obtain⟨b,ys,rfl,q2,hd2⟩:=h'
   cases ry
   exact uN I q1 q2 hd1 hd2 hu' ih _ _ _ _ ⟨.bl _,H,I,rfl,by simpa[Dt.beq] using q⟩
  | tup ds'=>
   rw[au] at h'
   obtain⟨b,ys,rfl,q2,hd2⟩:=h'
   cases ry
   obtain⟨its,_,p,_⟩:=I.list q1
   obtain⟨its2,_,p2,_⟩:=I.tuple q2
   exact SeqAt.RcAt.list_tuple p.isList (show s.heap.IsTuple b its2.toArray from p2) hu' _ _ _ _ ⟨.bl _,H,I,rfl,by simpa[Dt.beq] using q⟩
  | _=>cases HU
 | _=>cases sq
theorem HV (K:PySem.W.Frag) (hu:X.A.units+64<cLine) (hK:X.K=K:=by rfl):bW X (compareOp .NotEq) (fun x y H Q=>Dk K true x y H Q∧∃d d':Dt,au K H x d∧au K H y d'∧((∃ds ds',d=.tup ds∧d'=.tup ds')∨∃ds ds',d=.lst ds∧d'=.lst ds')):=by
 subst hK
 intro pins s σ H x y v u Q I rx ry h
 obtain⟨⟨d,d',h,h',sq,HU,hd,q⟩,e,e',g,g',hk⟩:=h
 have e1:=qo I d x e h g
 have e2:=qo I d' y e' h' g'
 subst e1 e2
 have hA:∀e:Dt,e.dep≤40→X.A.in1.units+e.dep<cLine:=fun e he=>by show X.A.units+1+e.dep<cLine;omega
 have hu':X.A.units<cLine:=by omega
 rcases hk with⟨ds,ds',rfl,rfl⟩ | ⟨ds,ds',rfl,rfl⟩
 ·rw[au] at h h'
  obtain⟨a,xs,rfl,q1,h1⟩:=h
  obtain⟨b,ys,rfl,q2,h2⟩:=h'
  cases rx
  cases ry
  have ih:∀d∈ds,∀(d':Dt) (x y:V) (u v:Value),au X.K H x d→au X.K H y d'→RelV x u→RelV y v→SeqAt.EqAt X.A.in1 s u v (d.beq d'):=fun d hm d' x y u v h1 h2 r1 r2=>
   jD I d X.A.in1 d' x y u v (hA d (by have:=Dt.gH hm;rw[Dt.dep] at hd;omega)) h1 h2 r1 r2
  obtain⟨its,r1,p1,_⟩:=I.tuple q1
  obtain⟨its2,r2,p2,_⟩:=I.tuple q2
  have l1:=r1.length
  have l2:=r2.length
  have l3:=h1.length
  have l4:=h2.length
  have z:=SeqAt.RcNeAt.tuples (show s.heap.IsTuple a its.toArray from p1) (show s.heap.IsTuple b its2.toArray from p2) hu' (lL r1 r2 h1 h2 ih)
  have fin:SeqAt.RcNeAt X.A s (.ref a) (.ref b) (!Dt.dh ds ds'):=by
   by_cases hl:ds.length=ds'.length
   ·rw[show min its.toArray.size its2.toArray.size=ds.length by simp;omega,jB ds ds' hl,show(its.toArray.size == its2.toArray.size)=true by simp;omega,Bool.and_true] at z
    exact z
   ·rw[show(its.toArray.size == its2.toArray.size)=false by simp;omega,Bool.and_false] at z
    rw[jC ds ds' hl]
    exact z
  exact fin _ _ _ _ ⟨.bl _,H,I,rfl,by simpa[Dt.beq] using q⟩
 ·rw[au] at h h'
  obtain⟨a,xs,rfl,q1,h1⟩:=h
  obtain⟨b,ys,rfl,q2,h2⟩:=h'
  cases rx
  cases ry
  have ih:∀d∈ds,∀(d':Dt) (x y:V) (u v:Value),au X.K H x d→au X.K H y d'→RelV x u→RelV y v→SeqAt.EqAt X.A.in1 s u v (d.beq d'):=fun d hm d' x y u v h1 h2 r1 r2=>
   jD I d X.A.in1 d' x y u v (hA d (by have:=Dt.gH hm;rw[Dt.dep] at hd;omega)) h1 h2 r1 r2
  obtain⟨its,r1,p1,_⟩:=I.list q1
  obtain⟨its2,r2,p2,_⟩:=I.list q2
  have l1:=r1.length
  have l2:=r2.length
  have l3:=h1.length
  have l4:=h2.length
  have fin:SeqAt.RcNeAt X.A s (.ref a) (.ref b) (!Dt.dh ds ds'):=by
   by_cases hl:ds.length=ds'.length
   ·have z:=SeqAt.RcNeAt.lists p1.isList p2.isList (by simp;omega) hu' (lL r1 r2 h1 h2 ih)
    rw[show its.toArray.size=ds.length by simp;omega,jB ds ds' hl] at z
    exact z
   ·rw[jC ds ds' hl]
    exact SeqAt.RcNeAt.lists_lengths p1.isList p2.isList (by simp;omega) hu'
  exact fin _ _ _ _ ⟨.bl _,H,I,rfl,by simpa[Dt.beq] using q⟩
end
section
variable {X:Cx}
def Ko (K:PySem.W.Frag):List V→Hp→VK→Prop:=fun xs H Q=>∃(p:Addr) (ys:List V),xs=[.ref p]∧(cF K H p ys∨bP K H p ys)∧∀l,H l=none→Q (.ref l) (upd H l (.lst ys))
theorem zj (K:PySem.W.Frag) (hK:X.K=K:=by rfl):cZ X (.type "list") (Ko K):=by subst hK;exact uw
def HW (K:PySem.W.Frag):List V→Hp→VK→Prop:=fun xs H Q=>∃(p:Addr) (ys:List V),xs=[.ref p]∧((cF K H p ys∧∀l,H l=none→Q (.ref l) (upd H l (.tup ys)))∨(bP K H p ys∧Q (.ref p) H))
theorem dQ (K:PySem.W.Frag) (hK:X.K=K:=by rfl):cZ X (.type "tuple") (HW K):=by subst hK;exact tq
end
end L2
namespace L2
open PySem
theorem dI {i j:Int} (h:i=j):decide (V.int i=V.int j)=true:=by rw[h];simp
theorem uO {i j:Int} (h:i≠j):decide (V.int i=V.int j)=false:=by simp[h]
theorem nN {ns:List Int} {i:Nat} {x:V} (h:(ns.map V.int)[i]? =some x):∃f,x=.int f∧ns[i]? =some f:=by
 rw[List.getElem?_map] at h
 cases e:ns[i]? with
 | none=>rw[e] at h;cases h
 | some f=>rw[e] at h;exact⟨f,(Option.some.inj h).symm,rfl⟩
end L2
namespace L2
open PySem PySem.Spec PyProof.Rows
theorem pH {ys:List Str}:∀{us:List Value},Vals (ys.map V.str) us→StrsAre us ys:=by
 induction ys with
 | nil=>intro us r;cases r;exact .nil
 | cons y ys ih=>
  intro us r
  rw[List.map_cons] at r
  cases r with
  | cons a b=>
   obtain⟨t,rfl⟩:=a
   exact .cons y t (ih b)
theorem mW:∀{us:List Value} {ys:List Str},StrsAre us ys→Vals (ys.map V.str) us
 | _,_,.nil=>.nil
 | _,_,.cons y t r=>.cons ⟨t,rfl⟩ (mW r)
theorem Dl (sep:Str) (ys:List Str) (h:(ys.map (·.length)).sum+ys.length*sep.length≤16777216):(Txt.join sep ys).length≤sizeLine:=by
 have hok:=joinOk_of h
 unfold JoinOk at hok
 rw[Bool.not_eq_true'] at hok
 have e:ys=(ys.map fun y=>(y,(0:Tok))).map (·.1):=by rw[List.map_map];exact(List.map_id ys).symm
 rw[e] at hok ⊢
 exact joinFit_length hok
section
variable {X:Cx}
def rJoin (K:PySem.W.Frag):V→List V→Hp→VK→Prop:=fun x vs H Q=>∃(sep:Str) (a:Addr) (ys:List Str),x=.str sep∧vs=[.ref a]∧cF K H a (ys.map V.str)∧(ys.map (·.length)).sum+ys.length*sep.length≤16777216∧∀z:Str,z.length≤sizeLine→z=Txt.join sep ys→Q (.str z) H
theorem de (K:PySem.W.Frag) (hK:X.K=K:=by rfl):rC X "str.join" (rJoin K):=by
 subst hK
 intro pins s σ H x vs v us Q I rx rv h
 obtain⟨sep,a,ys,rfl,rfl,hq,hz,q⟩:=h
 obtain⟨t,rfl⟩:=rx
 obtain⟨u,rfl,ru⟩:=rv.one
 cases ru
 obtain⟨its,r,p,_⟩:=I.list hq
 exact join_list p.isList (show StrsAre its.toArray.toList ys from pH r) hz fun t' k=>⟨.str _,H,I.tok k,⟨t',rfl⟩,q _ (Dl sep ys hz) rfl⟩
def Nt:V→Option Int→Option Int→Hp→VK→Prop:=fun x lo hi H Q=>∃z:Str,x=.str z∧z.length≤sizeLine∧Q (.str (Txt.slice z lo hi)) H
theorem oj {v:Value} {o:Option Int} (p:IsPart v o):∃l:Option (Int×Tok),v=partValue l∧l.map (·.1)=o:=by
 cases p with
 | none=>exact⟨none,rfl,rfl⟩
 | int i t=>exact⟨some (i,t),rfl,rfl⟩
theorem jE:x5 X Nt:=by
 intro pins s σ H x v vl vu lo hi sl Q I rx hs pl pu h
 obtain⟨z,rfl,hz,q⟩:=h
 obtain⟨t,rfl⟩:=rx
 obtain⟨l,rfl,hl⟩:=oj pl
 obtain⟨u,rfl,hu⟩:=oj pu
 subst hl hu
 obtain⟨o,ho,hc,hd⟩:=hs
 refine⟨"str",_,PySem.F.slot_str_getitem.lookup,typeIs_str _ _ _,wpAny_getItem_str_slice (l:=l) (u:=u) (st:=none) ⟨o,ho,hc,hd⟩ rfl ?_⟩
 exact post_val_or_str ⟨Nat.le_trans (Txt.slice_le z _ _) hz,fun t' k=>⟨.str _,H,I.tok k,⟨t',rfl⟩,q⟩⟩
theorem yj (K:PySem.W.Frag) {es:List Expr} {k:Nat} {t:qX} {n:Nat} {pos:Pos} (hc:X.calm=true) (h:AY X es t)
  (hn:(assignEach es X.env).length=n:=by rfl) (hst:(assignEach es X.env).findIdx? (·.1)=none:=by rfl) (hK:X.K=K:=by rfl):PG X (.Tuple es k pos) (G6 K n t):=by
 subst hK;exact oZ hc h hn hst
end
mutual
def Dt.QU:Dt→Bool
 | .lst _=>false
 | .tup xs=>Dt.HX xs
 | _=>true
def Dt.HX:List Dt→Bool
 | []=>true
 | x::xs=>x.QU&&Dt.HX xs
end
theorem gN {ns:List Str} {i:Nat} {x:V} (h:(ns.map V.str)[i]? =some x):∃f,x=.str f∧ns[i]? =some f:=by
 rw[List.getElem?_map] at h
 cases e:ns[i]? with
 | none=>rw[e] at h;cases h
 | some f=>rw[e] at h;exact⟨f,(Option.some.inj h).symm,rfl⟩
end L2
namespace L2
theorem Bo {v:V} {i:Nat} {u:TS} {D:Ends} {σ:St} {H:Hp} (h:u D (σ.set i (some v)) H):oH (oI (tC v) (eU i)) u D σ H:=h
end L2
namespace L2
open PySem PySem.Spec PyProof.Rows
theorem qp {α β:Type} {r:α→β→Prop} {xs:List α} {ys:List β} (h:Paired r xs ys):Paired r xs.reverse ys.reverse:=by
 induction h with
 | nil=>exact .nil
 | cons a _ ih=>rw[List.reverse_cons,List.reverse_cons];exact dw ih (.cons a .nil)
end L2
namespace L2
open PySem PySem.Spec PyProof.Rows
open AutoSeq1 (wpAny_loadPart')
section
variable {prog:Program} {w:World} {A:Around} {E:Value→Shared→Prop} {s:Shared}
theorem gk {it t:Addr} {i:Nat} {items:Array Value} {x:Value} {Q:Value→Shared→Prop} (hit:s.heap.IsTupleIter it t i) (ht:s.heap.IsTuple t items) (hx:items[i]? =some x)
  (hQ:∀h',h'.IsTupleIter it t (i+1)→Heap.SameBut it s.heap h'→Q x {s with heap:=h'}):wpAny (model prog w) A (Builtin.SmallTypes.nextOf (.ref it)) Q E s:=by
 obtain⟨o,ho,hc,hd⟩:=id hit
 obtain⟨ol,hol,_,nl,hdl⟩:=ht
 unfold Builtin.SmallTypes.nextOf
 refine wpAny_bind (wpAny_callSpecial?_slot (name:=Str.ofString "__next__") hit.typeIs F.slot_tuple_iterator_next (wpAny_call_entry F.slot_tuple_iterator_next hit.typeIs F.entry_tuple_iterator_next ?_ (F.args_tuple_iterator_next_1 _)))
 (show wpAny _ _ (field (.ref it) 0 >>= _) _ _ s);(refine wpAny_bind (wpAny_field ho hd (x:=.ref t) rfl ?_))
 (show wpAny _ _ (if(Value.ref t == Value.none)=true then _ else _) _ _ s);rw[if_neg (show ¬((Value.ref t == Value.none)=true) from Bool.false_ne_true)]
 (show wpAny _ _ (field (.ref it) 1 >>= _) _ _ s);(refine wpAny_bind (wpAny_field ho hd (x:=.int i 0) rfl ?_))
 (show wpAny _ _ (seqItems? (.ref t) >>= _) _ _ s);(refine wpAny_bind (wpAny_seqItems hol hdl ?_))
 simp only[Int.toNat_natCast,hx];refine wpAny_bind (wpAny_setField ho hd (by simp) (wpAny_pure ⟨x,rfl,wpAny_pure (hQ _ ?_ (Heap.SameBut.update ..))⟩))
 exact⟨_,Heap.get?_update_self _ ho (Obj.isFreed_of_fields (Obj.data_mapFields hd _)),(Obj.cls_mapFields ..).trans hc,(by rw[Obj.data_mapFields hd];simp[rawInt])⟩
theorem iF {it t:Addr} {i:Nat} {items:Array Value} {Q:Value→Shared→Prop} (hh:A.handled=none) (hit:s.heap.IsTupleIter it t i) (ht:s.heap.IsTuple t items) (hx:items[i]? =none)
  (hE:∀h' e,Heap.ExtBut it s.heap h'→(∃o,h'.get? e=some o∧o.cls=.type "StopIteration")→E (.ref e) {s with heap:=h'}):wpAny (model prog w) A (Builtin.SmallTypes.nextOf (.ref it)) Q E s:=by
 obtain⟨o,ho,hc,hd⟩:=id hit
 obtain⟨ol,hol,_,nl,hdl⟩:=ht
 unfold Builtin.SmallTypes.nextOf
 refine wpAny_bind (wpAny_callSpecial?_slot (name:=Str.ofString "__next__") hit.typeIs F.slot_tuple_iterator_next (wpAny_call_entry F.slot_tuple_iterator_next hit.typeIs F.entry_tuple_iterator_next ?_ (F.args_tuple_iterator_next_1 _)))
 (show wpAny _ _ (field (.ref it) 0 >>= _) _ _ s);(refine wpAny_bind (wpAny_field ho hd (x:=.ref t) rfl ?_))
 (show wpAny _ _ (if(Value.ref t == Value.none)=true then _ else _) _ _ s);rw[if_neg (show ¬((Value.ref t == Value.none)=true) from Bool.false_ne_true)]
 (show wpAny _ _ (field (.ref it) 1 >>= _) _ _ s);(refine wpAny_bind (wpAny_field ho hd (x:=.int i 0) rfl ?_))
 (show wpAny _ _ (seqItems? (.ref t) >>= _) _ _ s);(refine wpAny_bind (wpAny_seqItems hol hdl ?_))
 simp only[Int.toNat_natCast,hx];refine wpAny_bind (wpAny_rule (wpAny_bind (wpAny_setField ho hd (by simp) ?_)))
 (show wpAny _ _ (newExc (.type "StopIteration") [] >>= _) _ _ _);(refine wpAny_bind ?_);simp only[newExc,newTuple]
 (refine wpAny_bind (wpAny_newObj_type ?_ (by size_fits)))
 (refine wpAny_bind (m:=firstArgMember _ _) (wpAny_of_eq (a:=Value.none) (by first | rfl | (simp only[firstArgMember];rfl)) ?_));(refine wpAny_newObj_type ?_ (by size_fits))
 simp only[raiseNew];refine wpAny_bind (wpAny_handled ?_)
 (first | rw[show A.in1.handled=none from hh] | rw[hh]);refine wpAny_bind (wpAny_pure (wpAny_throw ?_))
 exact hE _ _ (((Heap.SameBut.update (a:=it) ..).extBut.push _).push _) ⟨_,Heap.get?_push_size _ rfl,rfl⟩
theorem Bp (hh:A.handled=none) (it t:Addr) (hne:t≠it) (items:Array Value):Draws prog w A it [it,t] items.size (fun i v=>items[i]? =some v) (fun i h=>h.IsTupleIter it t i∧h.IsTuple t items) where
 live:=fun _ _ st=>let ⟨o,ho,_⟩:=st.1;⟨o,ho⟩
 frame:=fun _ _ _ st hk=>⟨(let ⟨o,ho,r⟩:=st.1;⟨o,hk it (by simp) o ho,r⟩),(let ⟨o,ho,r⟩:=st.2;⟨o,hk t (by simp) o ho,r⟩)⟩
 item:=fun i s Q E hi st hQ=>gk st.1 st.2 (x:=items[i]) (by simp[hi]) fun h' hit' hs'=>hQ _ h' s.toks (by simp[hi]) ⟨hit',(let ⟨o,ho,r⟩:=st.2;⟨o,(hs'.2 t hne).trans ho,r⟩)⟩ hs'
 done:=fun s Q E st hE=>iF hh st.1 st.2 (by simp) hE
theorem zk (hh:A.handled=none) (it t:Addr) (items:Array Value) (i:Nat) (hx:items[i]? =none):Draws prog w A it [it,t] 0 (fun _ _=>True) (fun _ h=>h.IsTupleIter it t i∧h.IsTuple t items) where
 live:=fun _ _ st=>let ⟨o,ho,_⟩:=st.1;⟨o,ho⟩
 frame:=fun _ _ _ st hk=>⟨(let ⟨o,ho,r⟩:=st.1;⟨o,hk it (by simp) o ho,r⟩),(let ⟨o,ho,r⟩:=st.2;⟨o,hk t (by simp) o ho,r⟩)⟩
 item:=fun i s Q E hi st hQ=>absurd hi (Nat.not_lt_zero _)
 done:=fun s Q E st hE=>iF hh st.1 st.2 hx hE
end
theorem pI (l:Addr) (items:Array Value) (n:Nat) (dct:Option Addr) (sl:Array (Option Value)):
  Meets (Builtin.«enumerate.__new__» ⟨[.type "enumerate",.ref l],[]⟩) (fun _ R s=>s.heap.get? l=some {cls:=.type "tuple",dict:=dct,data:=.seq items n,slots:=sl}∧R (.ok (.ret (.ref (s.heap.push {cls:=.type "tuple_iterator",data:=.fields #[.ref l,.int 0 0]}).objs.size)))
    {s with heap:=(s.heap.push {cls:=.type "tuple_iterator",data:=.fields #[.ref l,.int 0 0]}).push {cls:=.type "enumerate",data:=.fields #[.none,.bool false,.ref s.heap.objs.size,rawInt 0,.none,.none]}}):=
 .of_wp fun prog w A R s h=>by
  obtain⟨hp,g,d,tk,os⟩:=s
  obtain⟨hl,h⟩:=h
  have hsub:=sub_enumerate
  have hL:Heap.IsTuple (Shared.heap ⟨hp,g,d,tk,os⟩) l items:=⟨_,hl,rfl,n,rfl⟩
  wp_walk using wpAny_loadPart' hl
  (refine wpAny_stack_any fun st=>wpAny_pure ?_);split
  ·rename_i c _ _ _ _ _
   cases(c == Value.type "enumerate")
   ·wp_walk using wpAny_loadPart' hl,wpAny_pyIter_tuple hL
    exact⟨_,rfl,h⟩
   ·wp_walk using wpAny_loadPart' hl,wpAny_pyIter_tuple hL
    exact⟨_,rfl,h⟩
  ·wp_walk using wpAny_loadPart' hl,wpAny_pyIter_tuple hL
   exact⟨_,rfl,h⟩
section
variable {prog:Program} {w:World} {A:Around} {E:Value→Shared→Prop} {s:Shared}
theorem tu {l:Addr} {items:Array Value} {Q:Value→Shared→Prop} (hL:s.heap.IsTuple l items)
  (h:∀h',IsEnum h' (s.heap.objs.size+1) s.heap.objs.size 0 .none→h'.IsTupleIter s.heap.objs.size l 0→h'.objs.size=s.heap.objs.size+2→(∀b o,s.heap.get? b=some o→h'.get? b=some o)→Q (.ref (s.heap.objs.size+1)) {s with heap:=h'}):
  wpAny (model prog w) A (call (.type "enumerate") [.ref l]) Q E s:=by
 obtain⟨⟨c,dct,dt,sl⟩,hl,hc,n,hd⟩:=hL
 replace hc:c=.type "tuple":=hc
 replace hd:dt=.seq items n:=hd
 subst hc hd
 refine callType_new F.called_enumerate (by decide) (F.typeCall_enumerate_1 _) (F.newCall_enumerate_1 _) (fun obj=>F.args_object_init_2 obj _) F.entry_enumerate_new (pI l items n dct sl) ⟨hl,?_⟩
 have hz:(s.heap.push {cls:=.type "tuple_iterator",data:=.fields #[.ref l,.int 0 0]}).objs.size=s.heap.objs.size+1:=Heap.size_push ..
 show _∧_
 rw[hz]
 have he:IsEnum ((s.heap.push {cls:=.type "tuple_iterator",data:=.fields #[.ref l,.int 0 0]}).push {cls:=.type "enumerate",data:=.fields #[.none,.bool false,.ref s.heap.objs.size,rawInt 0,.none,.none]}) (s.heap.objs.size+1) s.heap.objs.size 0 .none:=by
  have:=Heap.get?_push_size (s.heap.push {cls:=.type "tuple_iterator",data:=.fields #[.ref l,.int 0 0]}) (o:={cls:=.type "enumerate",data:=.fields #[.none,.bool false,.ref s.heap.objs.size,rawInt 0,.none,.none]}) rfl
  rw[hz] at this;exact this
 exact⟨⟨_,he,rfl⟩,h _ he ⟨_,Heap.get?_push_of_some _ (Heap.get?_push_size _ rfl),rfl,rfl⟩ (by rw[Heap.size_push,hz]) fun b o x=>Heap.get?_push_of_some _ (Heap.get?_push_of_some _ x)⟩
end
def uP (K:PySem.W.Frag) (a:Addr):It:=
 ⟨fun i H=>∃xs x,bP K H a xs∧xs[i]? =some x,
  fun i H x H'=>∃y p,(∀xs,bP K H a xs→xs[i]? =some y)∧H p=none∧x=.ref p∧H'=upd H p (.tup [.int i,y]),
  fun i H=>∃xs,bP K H a xs∧xs.length≤i⟩
theorem zm {P:Program} {w:World} {K:PySem.W.Frag} {elts:List Expr} {x1} {tpos:Pos} (a e it:Addr) (hne:e≠it) (QV:e≠a) (hia:it≠a):
  Turn P w K (.Tuple elts x1 tpos) (uP K a) [e,it] e (fun i h=>(∃old,IsEnum h e it i old)∧h.IsTupleIter it a i) where
 mem:=by simp
 obj:=fun i h st b hb=>by
  obtain⟨⟨old,st1⟩,st2⟩:=st
  rcases List.mem_cons.mp hb with z | z
  ·subst z;exact⟨_,st1,fun v z=>by cases z⟩
  ·have z':b=it:=by simpa using z
   subst z'
   obtain⟨o,e,c,d⟩:=st2
   exact⟨o,e,fun v z=>by rw[d] at z;cases z⟩
 keep:=fun i h h' st k=>by
  obtain⟨⟨old,st1⟩,st2⟩:=st
  exact⟨⟨old,k e (by simp) _ st1⟩,let ⟨o,q,r⟩:=st2;⟨o,k it (by simp) o q,r⟩⟩
 item:=by
  intro X hP hw hK hc i pins s σ H E I hf st hg
  subst hP hw hK
  obtain⟨⟨old,st1⟩,st2⟩:=st
  obtain⟨xs,x,hq,hx⟩:=hg
  obtain⟨its,rv,p,hz⟩:=I.tuple hq
  obtain⟨u,hu,ru⟩:=rv.get hx
  have hlt:i<its.toArray.size:=by
   have:=(List.getElem?_eq_some_iff.mp hu).1
   simpa using this
  have D:=Bp (prog:=X.prog) (w:=X.w) (A:=X.A.in1) (I.ok.hd hc) it a (Ne.symm hia) its.toArray
  refine wpAny_pyNext_enum_itemD D st1 ⟨st2,p⟩ hlt hne (by simp[hne,QV]) fun v h1 tk hv eo QW ht hsz kk=>?_
  have ev:v=u:=by
   have:its[i]? =some v:=by simpa using hv
   rw[hu] at this
   exact(Option.some.inj this).symm
  subst ev
  have nn:H s.heap.objs.size=none:=I.hok.fresh (Nat.le_refl _)
  have I1:Inv X pins σ (upd H s.heap.objs.size (.tup [.int i,x])) {s with heap:=h1,toks:=tk+1}:=
   I.uF (ch:=[e,it]) hf (fun b o hb q=>kk b o (fun z=>hb (by simp[z])) (fun z=>hb (by simp[z])) q) (Nat.le_refl _)
    ⟨⟨by show 2≤sizeLine;decide,_,ht,rfl⟩,[.int i tk,v],.cons ⟨_,rfl⟩ (.cons ru .nil),⟨_,ht,rfl,_,rfl⟩⟩
  have le:e<s.heap.objs.size:=Heap.lt_size st1
  have li:it<s.heap.objs.size:=by obtain⟨o,q,_⟩:=id st2;exact Heap.lt_size q
  refine⟨_,rfl,wpAny_letOwnedTupleGo_enum eo fun h2 e2 sb=>?_⟩
  obtain⟨f0,f1,f2,f3,f4,f5⟩:=hf e (by simp)
  have I2:=I1.turned (h':=h2) (t':=tk+1) (it:=e) (fun b o hb q=>(sb.2 b hb).trans q) (by rw[aF (Nat.ne_of_lt le)];exact f0) f1 f3 f4 f5
  refine⟨.ref s.heap.objs.size,_,I2,rfl,⟨x,s.heap.objs.size,fun ys hy=>by rw[I.iL hy hq];exact hx,nn,rfl,rfl⟩,⟨⟨v,by simpa using e2⟩,let ⟨o,q,r⟩:=QW.1;⟨o,(sb.2 it (Ne.symm hne)).trans q,r⟩⟩,fun b hb=>?_⟩
  rcases List.mem_cons.mp hb with z | z
  ·subst z;rw[aF (Nat.ne_of_lt le)];exact f0
  ·have z':b=it:=by simpa using z
   subst z';rw[aF (Nat.ne_of_lt li)];exact(hf b (by simp)).1
 done:=by
  intro X hP hw hK hc i pins s σ H E I hf st hg
  subst hP hw hK
  obtain⟨⟨old,st1⟩,st2⟩:=st
  obtain⟨xs,hq,hx⟩:=hg
  obtain⟨its,rv,p,hz⟩:=I.tuple hq
  obtain⟨f0,f1,f2,f3,f4,f5⟩:=hf it (by simp)
  have hl:=rv.length
  have D:=zk (prog:=X.prog) (w:=X.w) (A:=X.A.in1) (I.ok.hd hc) it a its.toArray i (by simp;omega)
  exact wpAny_pyNext_enum_endD D st1 ⟨st2,p⟩ fun h' eb=>⟨rfl,I.turned (t':=s.toks) (fun b o hb e=>eb b o hb e) f0 f1 f3 f4 f5⟩
 self:=fun _ _ _ _ _ st h=>by
  obtain⟨⟨old,st1⟩,st2⟩:=st
  exact wpAny_pyIter_enum st1 h
def HY (K:PySem.W.Frag) (ta:TA):TI:=fun σ H R=>ta σ H fun vs H1=>∃a,vs=[.ref a]∧(∃xs,bP K H1 a xs)∧R (uP K a) H1
theorem Dm {X:Cx} {elts:List Expr} {x1} {tpos:Pos} {a:Expr} {ta:TA} {p pos:Pos} (hg:Gl X "enumerate") (hm:X.mg "enumerate"=none) (ha:PA X [a] ta) (hs:starEach [a] X.env=[(false,eval a X.env)]:=by rfl):
  PI X (.Tuple elts x1 tpos) (.Call (.Name "enumerate" p) [a] [] pos) (HY X.K ta):=by
 intro pins s σ H R I h
 refine Call_ (jt I hg hm boot_enumerate (PyProof.Rows.callWith_type1 (aG (ha pos pins s σ H _ I h) fun us s1 ⟨vs,H1,I1,r1,q1⟩=>?_) hs rfl))
 obtain⟨l,e,⟨xs,hq⟩,q⟩:=q1
 subst e
 cases r1 with
 | cons r rr=>
  cases rr
  cases r
  obtain⟨its,rv,pl,hz⟩:=I1.tuple hq
  have bl:l<s1.heap.objs.size:=by obtain⟨o,e,_⟩:=pl;exact Heap.lt_size e
  refine tu pl fun h' he hit hsz kk=>?_
  have I2:Inv X pins σ H1 {s1 with heap:=h'}:=I1.kept (t':=s1.toks) kk
  refine wpAny_pyIter_enum he ?_
  refine⟨s1.heap.objs.size+1,[s1.heap.objs.size+1,s1.heap.objs.size],_,_,H1,rfl,I2,zm l _ _ (Nat.succ_ne_self _) (Nat.ne_of_gt (Nat.lt_succ_of_lt bl)) (Nat.ne_of_gt bl),⟨⟨_,by simpa using he⟩,hit⟩,fun b hb=>?_,q⟩
  rcases List.mem_cons.mp hb with z | z
  ·subst z;exact I1.iV (Nat.le_succ _) (I1.hok.fresh (Nat.le_succ _))
  ·have z':b=s1.heap.objs.size:=by simpa using z
   subst z';exact I1.iV (Nat.le_refl _) (I1.hok.fresh (Nat.le_refl _))
theorem Bq {K:PySem.W.Frag} {a:Addr} {xs:List V} {g:TG} {tb:TS} {D:Ends} {σ:St} {H:Hp} (Pv:Nat→St→Hp→Prop) (h0:Pv 0 σ H) (hl:∀i σ H,i≤xs.length→Pv i σ H→bP K H a xs)
  (hs:∀i x p σ H,xs[i]? =some x→Pv i σ H→H p=none→g (.ref p) σ (upd H p (.tup [.int i,x])) fun σ2 H2=>tb {D with nx:=Pv (i+1),ct:=Pv (i+1),bk:=D.nx} σ2 H2) (hd:∀σ H,Pv xs.length σ H→D.nx σ H):
  ∃W:Nat→Nat→St→Hp→Prop,(∃m,W 0 m σ H)∧∀i m σ H,W i m σ H→
   ((uP K a).stop i H∧D.nx σ H)∨((uP K a).go i H∧∃N:St→Hp→Prop,(∀σ' H',N σ' H'→∃m',m'<m∧W (i+1) m' σ' H')∧∀x H',(uP K a).xU i H x H'→g x σ H' fun σ2 H2=>tb {D with nx:=N,ct:=N,bk:=D.nx} σ2 H2):=by
 refine⟨fun i m σ H=>m=xs.length-i∧i≤xs.length∧Pv i σ H,⟨xs.length,by simp,Nat.zero_le _,h0⟩,?_⟩
 rintro i m σ H ⟨rfl,hi,p⟩
 have q:=hl i σ H hi p
 by_cases hlt:i<xs.length
 ·refine .inr ⟨⟨xs,xs[i],q,by simp[hlt]⟩,Pv (i+1),fun σ' H' p'=>⟨xs.length-(i+1),by omega,rfl,hlt,p'⟩,fun x H' y=>?_⟩
  obtain⟨z,pa,hz,hn,e1,e2⟩:=y
  subst e1 e2
  exact hs i z pa σ H (hz xs q) p hn
 ·have e:i=xs.length:=by omega
  subst e
  exact .inl ⟨⟨xs,q,Nat.le_refl _⟩,hd σ H p⟩
end L2
namespace L2
open PySem PySem.Spec PyProof.Rows
section
variable {X:Cx}
def Nu (K:PySem.W.Frag):List V→Hp→VK→Prop:=fun xs H Q=>∃(a:Addr) (bs:List Bool),xs=[.ref a]∧cF K H a (bs.map V.bl)∧Q (.bl (bs.all id)) H
theorem zo {bs:List Bool} {its:List Value} (r:Vals (bs.map V.bl) its):its=bs.map Value.bool:=by
 induction bs generalizing its with
 | nil=>cases r;rfl
 | cons b bs ih=>
  cases r with
  | cons r1 r2=>
   rw[List.map_cons,ih r2]
   exact congrArg (· ::_) r1
theorem rL (K:PySem.W.Frag) (hc:X.calm=true) (hK:X.K=K:=by rfl):cZ X (.builtin "all") (Nu K):=by
 subst hK
 intro pins s σ H xs us Q I r h
 obtain⟨a,bs,rfl,hq,q⟩:=h
 obtain⟨u,rfl,ru⟩:=vals1 r
 cases ru
 obtain⟨its,rv,p,_⟩:=I.list hq
 have e:=zo rv
 have bl:a<s.heap.objs.size:=by obtain⟨o,e,_⟩:=p.isList;exact Heap.lt_size e
 refine call_all_walk ?_
 refine wpAny_pyIter_list p.isList ?_
 refine⟨s.heap.objs.size,_,_,_,_,_,fun i=>(bs.getD i false),rfl,Walks.list (A:=X.A.in1) (I.ok.hd hc) _ a (Nat.ne_of_lt bl) its.toArray,⟨⟨_,Heap.get?_push_size _ rfl,rfl,rfl⟩,p.isList.push _⟩,?_,fun h' tk k=>?_⟩
 ·intro i v s' Q' E' hv hQ'
  have:v=.bool (bs.getD i false):=by
   rw[List.getElem?_toArray,e,List.getElem?_map] at hv
   rw[List.getD_eq_getElem?_getD]
   cases eb:bs[i]? with
   | none=>rw[eb] at hv;cases hv
   | some b=>rw[eb] at hv;exact(Option.some.inj hv).symm
  rw[this]
  exact wpAny_truthy_bool hQ'
 ·refine⟨.bl (bs.all id),H,I.kept fun b o eo=>k b o (fun z=>Nat.ne_of_lt (Heap.lt_size eo) (List.mem_singleton.mp z)) (Heap.get?_push_of_some _ eo),?_,q⟩
  have hl:its.toArray.size=bs.length:=by simp[e]
  have ea:∀cs:List Bool,(List.range cs.length).all (fun i=>cs.getD i false)=cs.all id:=fun cs=>by
   induction cs with
   | nil=>rfl
   | cons c cs ih=>
    rw[List.length_cons,List.range_succ_eq_map,List.all_cons,List.all_map,List.all_cons,←ih]
    rfl
  show _=Value.bool _
  rw[hl,ea]
def HZ:List V→Hp→VK→Prop:=fun xs H Q=>∃(d:Addr) (kvs:List (Key×V)) (ss:List Str),xs=[.ref d]∧H d=some (.dK kvs)∧kvs.map (·.1)=ss.map Sum.inr∧ss.length<64∧
 ∀(p:Addr) (ss':List Str),H p=none→ss'.Perm ss→sortedS ss'=true→Q (.ref p) (upd H p (.lst (ss'.map V.str)))
theorem lM:∀{vs:List Value} {ss:List Str},vs.length=ss.length→(∀(i:Nat) (v:Value) (x:Str),vs[i]? =some v→ss[i]? =some x→∃t,v=.str x t)→StrsAre vs ss
 | [],[],_,_=>.nil
 | [],_::_,h,_=>by cases h
 | _::_,[],h,_=>by cases h
 | v::vs,x::ss,h,k=>by
  obtain⟨t,rfl⟩:=k 0 v x rfl rfl
  exact .cons x t (lM (Nat.succ.inj h) fun i v y e1 e2=>k (i+1) v y e1 e2)
theorem i7 (hc:X.calm=true):cZ X (.builtin "sorted") HZ:=by
 intro pins s σ H xs us Q I r h
 obtain⟨d,kvs,ss,rfl,hd,hk,h64,q⟩:=h
 obtain⟨u,rfl,ru⟩:=vals1 r
 cases ru
 obtain⟨hz,lo,vs,rel,dd⟩:=nM I.hok hd
 obtain⟨ep,hat⟩:=dd.dictAt
 have hlk:kvs.length=ss.length:=by have:=congrArg List.length hk;simpa using this
 have U8:kvs.length=vs.length:=rel.length
 have hks:∀(i:Nat) (k:Key) (x:Value),vs[i]? =some (k,x)→∃y,ss[i]? =some y∧k=Sum.inr y:=fun i k x e=>by
  have h1:(vs.map (·.1))[i]? =some k:=by rw[List.getElem?_map,e];rfl
  have h2:vs.map (·.1)=ss.map Sum.inr:=by
   rw[←hk]
   have:∀{l:List (Key×V)} {m:List (Key×Value)},KV l m→m.map (·.1)=l.map (·.1):=fun {l m} q=>by
    unfold KV at q
    induction q with
    | nil=>rfl
    | cons a _ ih=>rw[List.map_cons,List.map_cons,ih,a.1]
   exact this rel
  rw[h2,List.getElem?_map] at h1
  cases es:ss[i]? with
  | none=>rw[es] at h1;cases h1
  | some y=>rw[es] at h1;exact⟨y,rfl,(Option.some.inj h1).symm⟩
 refine Calls.call_function_entry kind_sorted plain_sorted entry_sorted (args_sorted1 _) ?_
 unfold Builtin.«sorted»
 (refine wpAny_bind (m:=checkCount "sorted" 1 1 _) (wpAny_pure ?_))
 refine wpAny_bind (PySem.W.kdu_collect (A:=X.A.in1) (PySem.W.kdl_dict (knd:=bq X.prog X.w) (kvs:=vs) (ep:=ep) lo) (I.ok.hd hc) hat (by omega) fun h' tk acc k it=>?_)
 have hl:acc.toList.length=ss.length:=by rw[Array.length_toList,it.1];omega
 have hS:StrsAre acc.toList ss:=lM hl fun i v x e1 e2=>by
  obtain⟨kk,z,ek,ik⟩:=it.2 i v (by rw[←Array.getElem?_toList];exact e1)
  obtain⟨y,ey,rfl⟩:=hks i kk z ek
  rw[e2] at ey
  cases ey
  rw[yQ] at ik
  rcases cE ik with⟨_,_,z,_⟩ | ⟨x',t,z,ev⟩
  ·cases z
  ·cases z
   exact⟨t,ev⟩
 refine wpAny_bind (wpAny_newList ?_ (by rw[hl];exact Nat.le_of_lt (Nat.lt_of_lt_of_le h64 (by decide))))
 have hoL:(h'.push (seqObj "list" acc.toList.toArray 0)).get? h'.objs.size=some (seqObj "list" acc.toList.toArray 0):=Heap.get?_push_size _ rfl
 refine wpAny_bind (wpAny_holding (wpAny_call_entry slot_list_sort ⟨_,hoL,rfl⟩ entry_list_sort (list_sort_treeK strKind_oneLt hoL hS.keysOf (fun v1 v2 rest e=>keyKind_strs (by rw[←e];exact hS)) (by rw[hl];exact h64) fun st' hp hs=>⟨_,rfl,?_⟩) (args_list_sort _)))
 obtain⟨ss',a1,a2,a3⟩:=sorted_out_str hS hp hs
 have I1:Inv X pins σ H {s with heap:=h',toks:=tk}:=I.kept k
 obtain⟨e,he⟩:=sortedHeap_at (out:=(arrOf st').map (·.2)) hoL
 have kp:∀b u,h'.get? b=some u→(sortedHeap (h'.push (seqObj "list" acc.toList.toArray 0)) h'.objs.size acc.toList ((arrOf st').map (·.2))).get? b=some u:=fun b u eb=>by
  have lt:=Heap.lt_size eb
  rw[sortedHeap_old (Nat.ne_of_lt lt) (by rw[Heap.size_push];exact Nat.lt_succ_of_lt lt)]
  exact Heap.get?_push_of_some _ eb
 have I2:=I1.laid (a:=h'.objs.size) (o:=.lst (ss'.map V.str)) (t':=tk) kp (Nat.le_refl _) ⟨by rw[List.length_map,a2.length_eq];exact Nat.le_of_lt (Nat.lt_of_lt_of_le h64 (by decide)),((arrOf st').map (·.2)).toList,e,mW a1,he⟩
 exact wpAny_pure ⟨_,rfl,⟨.ref h'.objs.size,_,I2,rfl,q _ ss' (I1.hok.fresh (Nat.le_refl _)) a2 a3⟩⟩
def Kp:List V→Hp→VK→Prop:=fun xs H Q=>∃(d:Addr) (kvs:List (Key×V)),xs=[.ref d]∧Rd H d (.dK kvs)∧∀p,H p=none→Q (.ref p) (upd H p (.dK kvs))
theorem zp:cZ X (.type "dict") Kp:=by
 intro pins s σ H xs us Q I r h
 obtain⟨d,kvs,rfl,hd,q⟩:=h
 obtain⟨u,rfl,ru⟩:=vals1 r
 cases ru
 obtain⟨hz,lo,vs,rel,dd⟩:=tY I.hok hd
 have hl:kvs.length=vs.length:=rel.length
 refine kt_call_dict lo dd (by omega) fun h' dn sb=>?_
 have kp:∀b u,s.heap.get? b=some u→h'.get? b=some u:=fun b u e=>(sb.2 b (Nat.ne_of_lt (Heap.lt_size e))).trans (Heap.get?_push_of_some _ e)
 have bg:(s.heap.objs.size == sysModules)=false:=beq_eq_false_iff_ne.mpr (Ne.symm (Nat.ne_of_lt I.big))
 exact⟨.ref s.heap.objs.size,_,I.laid (a:=s.heap.objs.size) (o:=.dK kvs) (t':=s.toks) kp (Nat.le_refl _) ⟨hz,bg,vs,rel,dn⟩,rfl,q _ (I.hok.fresh (Nat.le_refl _))⟩
end
section
variable {X:Cx} {pins:List (Addr×Obj)} {σ:List (Option V)} {H:Hp} {s:Shared} {h':Heap}
theorem Inv.FU {t':Nat} {ch:List Addr} (I:Inv X pins σ H s) (hf:∀b∈ch,fA X pins H b) (k:∀b u,b ∉ ch→s.heap.get? b=some u→h'.get? b=some u):Inv X pins σ H {s with heap:=h',toks:=t'}:=by
 have ku:∀b u,H b=some u→b ∉ ch:=fun b u e z=>by have q:=(hf b z).1;rw[e] at q;cases q
 refine I.step (g':=s.gens) (d':=s.drawn) (ch:=ch) (fun b hb=>?_) (fun b o _ _ hc e _=>k b o hc e) (fun b o _ _ hc e _=>⟨o.slots,k b o hc e⟩) (fun _ _ _ _ n=>n)
  (fun b o hc e=>⟨o,k b o hc e⟩) (fun _ _ e=>e) (fun _ _ _ e=>e) (fun b ps e=>⟨#[],by rw[e];simp⟩) (fun m hm=>?_) (fun b u e=>?_) I.bare
 ·obtain⟨f0,f1,f2,f3,f4,f5⟩:=hf b hb
  exact⟨f3,f1,f4,f5⟩
 ·obtain⟨ob,es,ep,ho,r⟩:=hm
  exact⟨ob,es,ep,k _ ob (fun z=>(hf _ z).2.1 rfl) ho,r⟩
 ·refine(I.hok b u e).stay (fun c v hc q=>k c v ?_ q) (fun _ q=>q) fun _ _ q=>q
  rcases hc with z | z
  ·rw[z];exact ku b u e
  ·exact ku c _ z
end
theorem FV (t:SetTable) (es:Array (Int×Value)) (h:Int) (x:Value):(layNew t es h x).2.1.led=t.led:=by
 unfold layNew
 split
 ·unfold SetTable.put SetTable.orStandIn SetTable.standIn
  dsimp only
  repeat' split
  all_goals rfl
 ·rfl
theorem Br (t:SetTable) (es:Array (Int×Value)) (n:Nat):(relayAll t es n).2.1.led=t.led:=by
 unfold relayAll
 split
 ·rename_i q r e
  unfold SetTable.relaid SetTable.laid at e
  dsimp only
  split
  ·simp only[Option.bind_eq_bind,Option.bind_eq_some_iff,Option.pure_def,Option.some.injEq,Prod.mk.injEq] at e
   obtain⟨_,_,e1,_⟩:=e
   rw[←e1]
  ·rfl
 ·rfl
theorem wR {t:SetTable} (es:Array (Int×Value)) (n:Nat) (hp:t.plain=false):(relayAll t es n).2.1.plain=false:=by
 unfold relayAll
 split
 ·rename_i q r e
  unfold SetTable.relaid SetTable.laid at e
  dsimp only
  split
  ·simp only[Option.bind_eq_bind,Option.bind_eq_some_iff,Option.pure_def,Option.some.injEq,Prod.mk.injEq] at e
   obtain⟨_,_,e1,_⟩:=e
   rw[←e1]
   exact hp
  ·rfl
 ·rfl
structure cO (P:Program) (w:World) (h:Heap) (a:Addr) (es:Array (Int×Value)) (ep:Nat) (t:SetTable) (ks:List Str):Prop where
 obj:∃o,h.get? a=some o∧o.ExactSet∧o.data=.set es ep t
 elems:ElemsOf (strKind P w) es.toList
 small:es.size<scanBound
 fits:t.fits es.size=true
 led:t.led= !w.params.followText "set-order"
 plain:es.size≠0→t.plain=false
 vals:StrsAre (es.toList.map (·.2)) ks
 once:ks.Nodup
theorem cO.at {P:Program} {w:World} {h h':Heap} {a:Addr} {es:Array (Int×Value)} {ep:Nat} {t:SetTable} {ks:List Str} (s:cO P w h a es ep t ks) (k:∀o,h.get? a=some o→h'.get? a=some o):cO P w h' a es ep t ks:=by
 obtain⟨o,e,r⟩:=s.obj
 exact⟨⟨o,k o e,r⟩,s.elems,s.small,s.fits,s.led,s.plain,s.vals,s.once⟩
theorem cO.len {P:Program} {w:World} {h:Heap} {a:Addr} {es:Array (Int×Value)} {ep:Nat} {t:SetTable} {ks:List Str} (s:cO P w h a es ep t ks):es.size=ks.length:=by
 have:=s.vals.length
 rw[List.length_map,Array.length_toList] at this
 exact this
theorem jW {vs us:List Value} (p:vs.Perm us):∀{ks:List Str},StrsAre us ks→∃ks',StrsAre vs ks'∧ks'.Perm ks:=by
 induction p with
 | nil=>intro ks h;cases h;exact⟨[],.nil,.refl _⟩
 | cons x _ ih=>
  intro ks h
  cases h with
  | cons y tk r=>
   obtain⟨k',a,b⟩:=ih r
   exact⟨y::k',.cons y tk a,b.cons y⟩
 | swap x y l=>
  intro ks h
  cases h with
  | cons a ta r=>
   cases r with
   | cons b tb r=>exact⟨b::a::_,.cons b tb (.cons a ta r),.swap a b _⟩
 | trans _ _ ih1 ih2=>
  intro ks h
  obtain⟨k1,a1,b1⟩:=ih2 h
  obtain⟨k2,a2,b2⟩:=ih1 a1
  exact⟨k2,a2,b2.trans b1⟩
theorem Dn {us vs:List Value} {ks ls:List Str} (h1:StrsAre us ks) (h2:StrsAre vs ls):StrsAre (us++vs) (ks++ls):=by
 induction h1 with
 | nil=>exact h2
 | cons x tk _ ih=>exact .cons x tk ih
theorem Dp {us:List Value} {ks:List Str} (h:StrsAre us ks) {x:Str}:x∈ks↔∃tk,Value.str x tk∈us:=by
 induction h with
 | nil=>simp
 | cons y tk _ ih=>
  constructor
  ·intro m
   rcases List.mem_cons.mp m with e | m
   ·exact⟨tk,by rw[e];exact List.mem_cons_self⟩
   ·obtain⟨t',m'⟩:=ih.mp m
    exact⟨t',List.mem_cons_of_mem _ m'⟩
  ·rintro⟨t',m⟩
   rcases List.mem_cons.mp m with e | m
   ·injection e with e1 _
    rw[e1];exact List.mem_cons_self
   ·exact List.mem_cons_of_mem _ (ih.mpr ⟨t',m⟩)
section
variable {P:Program} {w:World} {A:Around} {E:Value→Shared→Prop} {s:Shared}
theorem Dq {a:Addr} {es:Array (Int×Value)} {ep:Nat} {t:SetTable} {ks:List Str} {x:Str} {tk:Tok} {Q:Bool→Shared→Prop} (S:cO P w s.heap a es ep t ks) (room:ks.length+1<scanBound)
  (hold:x∈ks→Q false s)
  (hnew:x ∉ ks→∀h' es' ep' t' ks',Heap.SameBut a s.heap h'→cO P w h' a es' ep' t' ks'→(∀y,y∈ks'↔y∈ks∨y=x)→ks'.length=ks.length+1→Q true {s with heap:=h'}):
  wpAny (model P w) A (setAddHashed a (.str x tk) (hashStr w x)) Q E s:=by
 obtain⟨o,ho,hex,hd⟩:=S.obj
 have LN:=S.len
 have LO:(strKind P w).is x (.str x tk)=true:=strKind_is P w x tk
 have H_:(Value.str x tk).scannable=true:=rfl
 have hhash:hashStr w x=(strKind P w).hash x:=rfl
 rw[hhash]
 unfold setAddHashed setAddHashedIn
 refine wpAny_holding (wpAny_bind (wpAny_setState_of ho hd S.fits ?_))
 dsimp only
 rw[byScan_of H_ S.small S.elems,if_pos rfl]
 unfold setAddByScan
 refine wpAny_bind (wpAny_bind (wpAny_rule (wpAny_bind (wpAny_setScan_of LO ho hd S.fits S.elems ?_))))
 have Ia:x∈ks↔∃e∈es.toList,(strKind P w).is x e.2=true:=by
  rw[Dp S.vals]
  constructor
  ·rintro⟨t',m⟩
   obtain⟨e,he,e2⟩:=List.mem_map.mp m
   exact⟨e,he,by rw[e2];exact strKind_is P w x t'⟩
  ·rintro⟨e,he,hi⟩
   obtain⟨t',e2⟩:=Value.isStrOf_shape (x:=x) (v:=e.2) hi
   exact⟨t',by rw[←e2];exact List.mem_map.mpr ⟨e,he,rfl⟩⟩
 cases hr:List.findIdx? (fun e=>(strKind P w).is x e.2) es.toList with
 | some j=>
  dsimp only
  obtain⟨hj,hpj,_⟩:=List.findIdx?_eq_some_iff_getElem.mp hr
  exact wpAny_pure (wpAny_pure (hold (Ia.mpr ⟨_,List.getElem_mem hj,hpj⟩)))
 | none=>
  dsimp only
  have nk:x ∉ ks:=fun m=>by
   obtain⟨e,he,hp⟩:=Ia.mp m
   have:=List.findIdx?_eq_none_iff.mp hr e he
   rw[hp] at this
   cases this
  have hperm:=layNew_perm t es ((strKind P w).hash x) (.str x tk)
  have hfits:=layNew_fits t es ((strKind P w).hash x) (.str x tk)
  have zq:=FV t es ((strKind P w).hash x) (.str x tk)
  generalize layNew t es ((strKind P w).hash x) (.str x tk)=L at hperm hfits zq ⊢
  obtain⟨es1,t1,wasDummy,gave⟩:=L
  dsimp only at hperm hfits zq ⊢
  rw[Array.toList_push] at hperm
  have el1:ElemsOf (strKind P w) es1.toList:=(S.elems.push LO H_).perm hperm
  have U9:es1.size=es.size+1:=by rw[←Array.length_toList,hperm.length_eq,List.length_append,Array.length_toList];rfl
  have LP:es1.size<scanBound:=by omega
  obtain⟨rM,v1,p1⟩:=jW (hperm.map (·.2)) (ks:=ks++[x]) (by rw[List.map_append];exact Dn S.vals (.cons x tk .nil))
  have LQ:rM.Nodup:=p1.nodup_iff.mpr (List.nodup_append.mpr ⟨S.once,by simp,fun y hy z hz=>by rw[List.mem_singleton.mp hz];exact fun e=>nk (e▸hy)⟩)
  have Ib:∀y,y∈rM↔y∈ks∨y=x:=fun y=>by rw[p1.mem_iff,List.mem_append,List.mem_singleton]
  have mE:rM.length=ks.length+1:=by rw[p1.length_eq,List.length_append];rfl
  have fin:∀t2:SetTable,t2.fits es1.size=true→t2.led=t.led→t2.plain=false→
    wpAny (model P w) A (do
     storeSet a es1 t2
     if(!wasDummy&&t2.tooFull)=true then do
       (match (relayAll t2 es1 (SetTable.grown es1.size)).2.2 with | true=>rule "set.scan.the-table-gave-way" | false=>pure ())
       storeSet a (relayAll t2 es1 (SetTable.grown es1.size)).1 (relayAll t2 es1 (SetTable.grown es1.size)).2.1
       pure (some true)
      else pure (some true)) (fun r s'=>r=some true∧Q true s') E s:=fun t2 f2 l2 p2=>by
   refine wpAny_bind (wpAny_storeSet_of ho hd ?_ (fits_of_scanBound LP))
   have hg:(s.heap.update a (Obj.putSet es1 t2)).get? a=some {o with data:=.set es1 (ep+1) t2}:=by
    have q:=Heap.get?_update_self (Obj.putSet es1 t2) ho (by rw[putSet_of es1 t2 hd];rfl)
    rw[putSet_of es1 t2 hd] at q
    exact q
   have LR:=Heap.SameBut.update s.heap a (Obj.putSet es1 t2)
   have S1:cO P w (s.heap.update a (Obj.putSet es1 t2)) a es1 (ep+1) t2 rM:=⟨⟨_,hg,hex,rfl⟩,el1,LP,f2,by rw[l2];exact S.led,fun _=>p2,v1,LQ⟩
   split
   ·have pr:=relayAll_perm t2 es1 (SetTable.grown es1.size)
    have fr:=relayAll_fits t2 es1 (SetTable.grown es1.size)
    have lr:=Br t2 es1 (SetTable.grown es1.size)
    have Ic:=wR es1 (SetTable.grown es1.size) p2
    generalize relayAll t2 es1 (SetTable.grown es1.size)=Rl at pr fr lr Ic ⊢
    obtain⟨es2,t3,gv⟩:=Rl
    dsimp only at pr fr lr Ic ⊢
    have QX:es2.size=es1.size:=by rw[←Array.length_toList,pr.length_eq,Array.length_toList]
    have LS:es2.size<scanBound:=by omega
    obtain⟨Bs,v2,p2'⟩:=jW (pr.map (·.2)) v1
    refine wpAny_bind ?_
    have rest:wpAny (model P w) A (do storeSet a es2 t3;pure (some true)) (fun r s'=>r=some true∧Q true s') E {s with heap:=s.heap.update a (Obj.putSet es1 t2)}:=by
     refine wpAny_bind (wpAny_storeSet_of hg rfl (wpAny_pure ⟨rfl,?_⟩) (fits_of_scanBound LS))
     have hg2:=Heap.get?_update_self (Obj.putSet es2 t3) hg (by rw[putSet_of es2 t3 rfl];rfl)
     rw[putSet_of es2 t3 rfl] at hg2
     exact hnew nk _ es2 (ep+1+1) t3 Bs (LR.trans (Heap.SameBut.update _ a _)) ⟨⟨_,hg2,hex,rfl⟩,el1.perm pr,LS,by rw[QX] at fr ⊢;exact fr,by rw[lr,l2];exact S.led,fun _=>Ic,v2,p2'.nodup_iff.mpr LQ⟩
      (fun y=>by rw[p2'.mem_iff];exact Ib y) (by rw[p2'.length_eq];exact mE)
    cases gv
    ·exact wpAny_pure rest
    ·exact wpAny_rule rest
   ·exact wpAny_pure ⟨rfl,hnew nk _ es1 (ep+1) t2 rM LR S1 Ib mE⟩
  refine wpAny_bind ?_
  have rest:wpAny (model P w) A (do
    let byValue ←if t1.plain=true then hashByValue 8 (.str x tk) else pure true
    storeSet a es1 (if byValue=true then t1 else {t1 with plain:=false})
    if(!wasDummy&&(if byValue=true then t1 else {t1 with plain:=false}).tooFull)=true then do
      (match (relayAll (if byValue=true then t1 else {t1 with plain:=false}) es1 (SetTable.grown es1.size)).2.2 with | true=>rule "set.scan.the-table-gave-way" | false=>pure ())
      storeSet a (relayAll (if byValue=true then t1 else {t1 with plain:=false}) es1 (SetTable.grown es1.size)).1 (relayAll (if byValue=true then t1 else {t1 with plain:=false}) es1 (SetTable.grown es1.size)).2.1
      pure (some true)
     else pure (some true)) (fun r s'=>r=some true∧Q true s') E s:=by
   cases hpl:t1.plain with
   | true=>
    rw[if_pos rfl,hashByValue_scannable 8 H_]
    refine wpAny_bind (wpAny_pure ?_)
    exact fin {t1 with plain:=false} (SetTable.fits_plain_off hfits) zq rfl
   | false=>
    rw[if_neg (by decide)]
    refine wpAny_bind (wpAny_pure ?_)
    exact fin t1 hfits zq hpl
  have go:∀r s',(r=some true∧Q true s')→wpAny (model P w) A (match r with | some added=>pure added | none=>setAddHashedIn a (.str x tk) ((strKind P w).hash x) 99999) Q E s':=fun r s' ⟨e,q⟩=>by
   subst e
   exact wpAny_pure q
  cases gave
  ·exact wpAny_pure (aG rest go)
  ·exact wpAny_rule (aG rest go)
end
theorem nO {us:List Value} {xs:List Str} (hi:StrsAre us xs):∀(i:Nat) (v:Value),us[i]? =some v→∃x t,xs[i]? =some x∧v=.str x t:=by
 induction hi with
 | nil=>intro i v hv;simp at hv
 | cons y ty _ ih=>
  intro i v hv
  cases i with
  | zero=>
   have e:Value.str y ty=v:=by simpa using hv
   exact⟨y,ty,rfl,e.symm⟩
  | succ i=>exact ih i v (by simpa using hv)
section
variable {P:Program} {w:World} {A:Around} {R:Result→Shared→Prop} {I S:Addr} {fp wr:List Addr} {G:Array GenState→Array GenState→Prop} {n:Nat} {Pv:Nat→Value→Prop} {St:Nat→Shared→Prop}
theorem Dr (W:WalksS P w A.in1 I fp wr G n Pv St) (hSf:S ∉ fp) (xs:List Str) (LU:xs.length=n) (hval:∀i v,Pv i v→∃x t,xs[i]? =some x∧v=.str x t) (hb:n+1<scanBound):
  ∀(k i:Nat) (s:Shared) (es:Array (Int×Value)) (ep:Nat) (t:SetTable) (ks:List Str),n-i=k→i≤n→St i s→cO P w s.heap S es ep t ks→(∀y,y∈ks↔y∈xs.take i)→ks.length≤i→
   (∀s' es' ep' t' ks',Moved (S::wr) G s s'→cO P w s'.heap S es' ep' t' ks'→(∀y,y∈ks'↔y∈xs)→ks'.length≤n→R (.ok (.ret .none)) s')→
   codeAny (model P w) A (.builtin "set.update.loop" ⟨[.ref S,.ref I],[]⟩) R s:=by
 have hSw:S ∉ wr:=fun z=>hSf (W.sub _ z)
 have more:∀b∈wr,b∈S::wr:=fun b z=>List.mem_cons_of_mem _ z
 intro k
 induction k with
 | zero=>
  intro i s es ep t ks hk hi st hS hm hl hR
  have e:i=n:=by omega
  subst e
  refine codeAny_builtin PyProof.Rows.F.entry_set_update_loop ?_
  rw[Around.under_plainId PyProof.Rows.F.plain_set_update_loop]
  show wpAny (model P w) A.in1 (pyNext (.ref I) >>= _) _ _ s
  refine wpAny_bind (W.done s _ _ st fun s' mv=>?_)
  show wpAny (model P w) A.in1 (ret Value.none) _ _ s'
  refine wpAny_pure (hR s' es ep t ks (mv.mono more) (hS.at fun o q=>mv.heap S o hSw q) (fun y=>?_) hl)
  rw[hm y,List.take_of_length_le (by omega)]
 | succ k ih=>
  intro i s es ep t ks hk hi st hS hm hl hR
  have lt:i<n:=by omega
  refine codeAny_builtin PyProof.Rows.F.entry_set_update_loop ?_
  rw[Around.under_plainId PyProof.Rows.F.plain_set_update_loop]
  show wpAny (model P w) A.in1 (pyNext (.ref I) >>= _) _ _ s
  refine wpAny_bind (W.item i s _ _ lt st fun v s' hv st' mv=>?_)
  obtain⟨x,tx,ex,rfl⟩:=hval i v hv
  have hS':cO P w s'.heap S es ep t ks:=hS.at fun o q=>mv.heap S o hSw q
  have tk1:∀y,y∈xs.take (i+1)↔y∈xs.take i∨y=x:=fun y=>by rw[List.take_add_one,ex];simp
  show wpAny (model P w) A.in1 (holding [Value.str x tx] (setAdd S (.str x tx)) >>= _) _ _ s'
  refine wpAny_bind (wpAny_holding ?_)
  unfold setAdd
  refine wpAny_holding (wpAny_bind ((strKind P w).pyHash (k:=x) (strKind_is _ _ _ _) ?_))
  refine Dq (s:={s' with toks:=s'.toks+1}) hS' (by omega) (fun hx=>?_) (fun hx h' es' ep' t' ks' sb S2 m2 l2=>?_)
  ·refine wpAny_pure ⟨plainId_quiet PyProof.Rows.F.plain_set_update_loop _,ih (i+1) _ es ep t ks (by omega) lt (W.frame _ s' s'.heap _ st' (Nat.le_succ _) fun b _ o q=>q) hS' (fun y=>?_) (by omega) fun s2 es2 Ie t2 Bs mv2 S2 m2 l2=>?_⟩
   ·rw[hm y,tk1 y]
    constructor
    ·exact .inl
    ·rintro(z | z)
     ·exact z
     ·rw[z];exact(hm x).mp hx
   ·exact hR s2 es2 Ie t2 Bs (Moved.trans W.gtrans ((mv.mono more).then_heap (Nat.le_succ _) fun b o _ q=>q) mv2) S2 m2 l2
  ·refine wpAny_pure ⟨plainId_quiet PyProof.Rows.F.plain_set_update_loop _,ih (i+1) _ es' ep' t' ks' (by omega) lt (W.frame _ s' h' _ st' (Nat.le_succ _) fun b hb o q=>?_) S2 (fun y=>?_) (by omega) fun s2 es2 Ie t2 Bs mv2 S2 m2 l2=>?_⟩
   ·exact(sb.2 b (fun z=>hSf (z▸hb))).trans q
   ·rw[m2 y,hm y,tk1 y]
   ·exact hR s2 es2 Ie t2 Bs (Moved.trans W.gtrans ((mv.mono more).then_heap (Nat.le_succ _) fun b o hb q=>(sb.2 b (fun z=>hb (z▸List.mem_cons_self))).trans q) mv2) S2 m2 l2
end
section
variable {P:Program} {w:World} {A:Around} {E:Value→Shared→Prop} {s:Shared}
abbrev dR (w:World):Obj:={cls:=.type "set",dict:=none,data:=.set #[] 0 (.fresh 0 0 (!w.params.followText "set-order"))}
theorem Ds (v:Value) {Q:Value→Shared→Prop} (h:Q (.ref s.heap.objs.size) {s with heap:=s.heap.push (dR w)}):
  codeAny (model P w) A (.call (.builtin "set.__new__") ⟨[.type "set",v],[]⟩) (wants Q E) s:=by
 refine codeAny_of_tree ?_
 show wpAny (model P w) A.in1 (do checkBuiltinCall "set.__new__" ⟨[.type "set",v],[]⟩;again (.builtin "set.__new__" ⟨[.type "set",v],[]⟩)) _ _ s
 refine wpAny_bind (wpAny_of_eq (PySem.F.newCall_set_1 v) (wpAny_pure ⟨plainId_quiet PySem.F.plain_set_new _,codeAny_builtin PySem.F.entry_set_new ?_⟩))
 rw[Around.under_plainId PySem.F.plain_set_new]
 unfold Builtin.«set.__new__» Builtin.Frozenset.newClass
 have hsub:=sub_set_self
 obtain⟨hp,g,d,tk,os⟩:=s
 dsimp only
 wp_walk
 refine wpAny_askSetting (wpAny_pure ?_)
 dsimp only
 simp only[newObj]
 exact wpAny_bind (wpAny_alloc (wpAny_pure (wpAny_pure h)))
theorem Bt (h:Heap):cO P w (h.push (dR w)) h.objs.size #[] 0 (.fresh 0 0 (!w.params.followText "set-order")) []:=
 ⟨⟨_,Heap.get?_push_size _ rfl,⟨rfl,rfl,rfl⟩,rfl⟩,fun e he=>(by simp at he),by decide,rfl,rfl,fun z=>absurd rfl z,.nil,by simp⟩
theorem uQ {l:Addr} {its:Array Value} {xs:List Str} {Q:Value→Shared→Prop} (hh:A.handled=none) (hl:s.heap.IsList l its) (hi:StrsAre its.toList xs) (hb:its.size+1<scanBound)
  (h:∀(h':Heap) (tk:Nat) es ep t ks,cO P w h' s.heap.objs.size es ep t ks→(∀y,y∈ks↔y∈xs)→ks.length≤its.size→(∀b o,b<s.heap.objs.size→s.heap.get? b=some o→h'.get? b=some o)→Q (.ref s.heap.objs.size) {s with heap:=h',toks:=tk}):
  wpAny (model P w) A (call (.type "set") [.ref l]) Q E s:=by
 obtain⟨c,tl,hmro⟩:=PySem.F.called_set.mro
 have hmade:=PySem.F.called_set.made
 have hsub:=PySem.F.called_set.sub
 refine wpAny_call (codeAny_of_tree ?_)
 show wpAny _ _ (callAny (.type "set") _) _ _ _
 refine wpAny_pure ⟨Code.quiet_builtin _ (by decide+kernel),codeAny_builtin PySem.F.entry_type_call ?_⟩
 rw[Around.under_plain (weight_type_call_type "set" [.ref l] []) rfl]
 have a1:=PySem.F.called_set.notType
 have a2:=PySem.F.called_set.canCreate
 have a3:=PySem.F.typeCall_set_1 (.ref l)
 repeat (any_goals (first | assumption | wp_step))
 refine codeAny_mono (Ds (.ref l) (E:=E) (Q:=fun obj s₁=>obj=.ref s.heap.objs.size∧s₁={s with heap:=s.heap.push (dR w)}) ⟨rfl,rfl⟩) fun r s₁ hr=>?_
 cases r with
 | error e=>exact hr
 | ok fl=>
  cases fl with
  | ret obj=>
   obtain⟨rfl,rfl⟩:=hr
   have gS:(s.heap.push (dR w)).get? s.heap.objs.size=some (dR w):=Heap.get?_push_size _ rfl
   have hT:Shared.TypeIs {s with heap:=s.heap.push (dR w)} (.ref s.heap.objs.size) "set":=⟨_,gS,rfl⟩
   have a4:=PySem.F.called_set.init.lookup
   have a5:=PySem.F.called_set.init.bind (.ref s.heap.objs.size)
   repeat (any_goals (first | assumption | wp_step))
   refine codeAny_mono (codeAny_call_builtin (R:=wants (fun r s₂=>r=.none∧∃h' tk es ep t ks,s₂={s with heap:=h',toks:=tk}∧cO P w h' s.heap.objs.size es ep t ks∧(∀y,y∈ks↔y∈xs)∧ks.length≤its.size∧
     (∀b o,b<s.heap.objs.size→s.heap.get? b=some o→h'.get? b=some o)) E) PySem.F.called_set.init.plain PySem.F.entry_set_init (check_set_init_1 hT ?_)) fun r₂ s₂ hr₂=>?_
   ·obtain⟨ol,hol,hcl,nl,hdl⟩:=hl
    obtain⟨ocls,odict,odata,oslots⟩:=ol
    simp only at hcl hdl
    subst hcl hdl
    have hol':(s.heap.push (dR w)).get? l=some {cls:=.type "list",dict:=odict,data:=.seq its nl,slots:=oslots}:=Heap.get?_push_of_some _ hol
    have b1:=PySem.F.sub_list_set
    have b2:=PySem.F.sub_list_frozenset
    have b3:(Value.type "list" == Value.type "dict")=false:=by decide
    have hl1:(s.heap.push (dR w)).IsList l its:=⟨_,hol',rfl,nl,rfl⟩
    unfold Builtin.«set.__init__» noKeywords Builtin.Frozenset.updateFrom
    generalize hPI:pyIter=PI
    wp_walk
    subst hPI
    refine wpAny_pyIter_list hl1 ?_
    refine wpAny_bind (wpAny_runValue ?_)
    have lS:l<s.heap.objs.size:=Heap.lt_size hol
    have hh3:A.in1.in1.in1.handled=none:=by simp[hh]
    have yk:l≠(s.heap.push (dR w)).objs.size:=by rw[Heap.size_push];exact Nat.ne_of_lt (Nat.lt_succ_of_lt lS)
    have nf:s.heap.objs.size ∉ [(s.heap.push (dR w)).objs.size,l]:=by
     rw[Heap.size_push]
     simp only[List.mem_cons,List.not_mem_nil,or_false,not_or]
     exact⟨Nat.ne_of_lt (Nat.lt_succ_self _),Nat.ne_of_gt lS⟩
    have LU:xs.length=its.size:=by rw[←hi.length,Array.length_toList]
    have hval:∀(i:Nat) (v:Value),its[i]? =some v→∃x t,xs[i]? =some x∧v=.str x t:=fun i v hv=>nO hi i v (by rw[Array.getElem?_toList];exact hv)
    refine Dr ((Walks.list hh3 _ l yk its).toS) nf xs LU hval hb (its.size-0) 0 _ #[] 0 _ [] (by omega) (Nat.zero_le _) ⟨⟨_,Heap.get?_push_size _ rfl,rfl,rfl⟩,hl1.push _⟩ ((Bt s.heap).at fun o q=>Heap.get?_push_of_some _ q) (fun y=>by simp) (Nat.le_refl _) ?hR
    case hR=>
     intro s' es' ep' t' ks' hm hS' hmem hlen
     obtain⟨h',g',d',tk',os'⟩:=s'
     have eg:g'=s.gens:=hm.gens
     have ed:d'=s.drawn:=hm.drawn
     have eo:os'=s.os:=hm.os
     subst eg ed eo
     show wpAny _ _ _ _ _ _
     refine wpAny_pure ?_
     show wpAny _ _ (ret Value.none) _ _ _
     refine wpAny_pure ⟨rfl,h',tk',es',ep',t',ks',rfl,hS',hmem,hlen,fun b o hb e=>?_⟩
     refine hm.heap b o ?_ (Heap.get?_push_of_some _ (Heap.get?_push_of_some _ e))
     simp only[List.mem_cons,List.not_mem_nil,or_false,not_or]
     rw[Heap.size_push]
     exact⟨Nat.ne_of_lt hb,Nat.ne_of_lt (Nat.lt_succ_of_lt hb)⟩
   ·cases r₂ with
    | error e=>exact hr₂
    | ok fl₂=>
     cases fl₂ with
     | ret r=>
      obtain⟨rfl,h',tk,es,ep,t,ks,rfl,hS',hm,LN,hk'⟩:=hr₂
      repeat (any_goals (first | assumption | wp_step))
      exact h _ _ _ _ _ _ hS' hm LN hk'
     | _=>exact hr₂.elim
  | _=>exact hr.elim
end
namespace SI
theorem Bu:Manifest.owners.lookup (String.ofList ['r', 'o', 't', 'a', 'r', 'e', 't', 'i', '_', 't', 'e', 's'].reverse)=some Manifest.sig_set_iterator:=by kernel_rfl
theorem slot_next:Slot "set_iterator" "__next__" "set_iterator.__next__":=
 .of (owner:="set_iterator") (n:="__next__") (by rw[typeLookup_type,builtinLookup_eq_fast];kernel_rfl) (by decide+kernel) (by decide+kernel) (by decide+kernel)
  (by first | exact .inl (by decide+kernel) | exact .inr (by decide+kernel)) (by rw[isSubtype_type];kernel_rfl)
theorem rN:Slot "set_iterator" "__iter__" "set_iterator.__iter__":=
 .of (owner:="set_iterator") (n:="__iter__") (by rw[typeLookup_type,builtinLookup_eq_fast];kernel_rfl) (by decide+kernel) (by decide+kernel) (by decide+kernel)
  (by first | exact .inl (by decide+kernel) | exact .inr (by decide+kernel)) (by rw[isSubtype_type];kernel_rfl)
theorem entry_next:entryFor table "set_iterator.__next__"=some Builtin.«set_iterator.__next__» :=entryFor_of_tree (by kernel_rfl)
theorem zr:entryFor table "set_iterator.__iter__"=some Builtin.«dict_keyiterator.__iter__» :=
 entryFor_alias (id':="dict_keyiterator.__iter__") (by kernel_rfl) (by first | rfl | decide+kernel | (unfold String.splitOn;simp+decide [String.splitOnAux])) (by decide+kernel) (by kernel_rfl)
theorem args_next (v:Value):argsOk "set_iterator.__next__" ⟨[v],[]⟩:=by
 unfold argsOk;rw[signature?_of (id:="set_iterator.__next__") (n:=['_', '_', 't', 'x', 'e', 'n', '_', '_']) (o:=['r', 'o', 't', 'a', 'r', 'e', 't', 'i', '_', 't', 'e', 's']) (by kernel_rfl) Bu];kernel_rfl
theorem Bv (v:Value):argsOk "set_iterator.__iter__" ⟨[v],[]⟩:=by
 unfold argsOk;rw[signature?_of (id:="set_iterator.__iter__") (n:=['_', '_', 'r', 'e', 't', 'i', '_', '_']) (o:=['r', 'o', 't', 'a', 'r', 'e', 't', 'i', '_', 't', 'e', 's']) (by kernel_rfl) Bu];kernel_rfl
theorem qq:entryFor table "set.__iter__"=some Builtin.«frozenset.__iter__» :=
 entryFor_alias (id':="frozenset.__iter__") (by kernel_rfl) (by first | rfl | decide+kernel | (unfold String.splitOn;simp+decide [String.splitOnAux])) (by decide+kernel) (by kernel_rfl)
end SI
abbrev jF (h:Heap) (I:Addr) (F:Array Value):Prop:=h.get? I=some {cls:=.type "set_iterator",dict:=none,data:=.fields F,slots:= #[]}
section
variable {P:Program} {w:World} {A:Around} {E:Value→Shared→Prop} {s:Shared}
theorem qr {I:Addr} {F:Array Value} {Q:Value→Shared→Prop} (hI:jF s.heap I F) (h:Q (.ref I) s):wpAny (model P w) A (pyIter (.ref I)) Q E s:=by
 have hT:s.TypeIs (.ref I) "set_iterator":=⟨_,hI,rfl⟩
 refine wpAny_pyIter_slot hT SI.rN (wpAny_call_entry SI.rN hT SI.zr ?_ (SI.Bv _))
 show wpAny (model P w) _ (ret (.ref I)) _ _ s
 exact wpAny_pure ⟨_,rfl,"set_iterator",_,hT,SI.slot_next.lookup,h⟩
theorem yl {I a:Addr} {sl i ep':Nat} {es:Array (Int×Value)} {ep:Nat} {t:SetTable} {ks:List Str} {v:Value} {nx:Nat} {Q:Option Value→Shared→Prop} (hI:jF s.heap I #[rawInt sl,rawInt i,.ref a,rawInt es.size,rawInt ep'])
  (S:cO P w s.heap a es ep t ks) (hn:∀(B:Around) (E':Value→Shared→Prop) (Q':Option (Value×Nat)→Shared→Prop),Q' (some (v,nx)) s→wpAny (model P w) B (setNext a sl i ep') Q' E' s)
  (h:∀h',jF h' I #[rawInt nx,rawInt (i+1:Nat),.ref a,rawInt es.size,rawInt ep']→Heap.SameBut I s.heap h'→Q (some v) {s with heap:=h'}):wpAny (model P w) A (pyNext (.ref I)) Q E s:=by
 have hT:s.TypeIs (.ref I) "set_iterator":=⟨_,hI,rfl⟩
 obtain⟨o,ho,hex,hd⟩:=S.obj
 unfold pyNext
 refine wpAny_bind (wpAny_attempt (wpAny_callSpecial?_slot (name:=Str.ofString "__next__") hT SI.slot_next (wpAny_call_entry SI.slot_next hT SI.entry_next ?_ (SI.args_next _))))
 refine wpAny_bind (wpAny_pure ?_)
 refine wpAny_bind (wpAny_fieldsOf hI rfl ?_)
 refine wpAny_bind (wpAny_setEntries_of ho hd S.fits ?_)
 rw[if_neg (by simp[rawInt])]
 dsimp only[rawInt]
 rw[Int.toNat_natCast,Int.toNat_natCast,Int.toNat_natCast]
 refine wpAny_bind (hn _ _ _ ?_)
 dsimp only
 refine wpAny_bind (wpAny_setField_rec hI (by simp) fun h1 e1 b1=>?_)
 refine wpAny_bind (wpAny_setField_rec e1 (by simp) fun h2 e2 b2=>?_)
 refine wpAny_pure ⟨v,rfl,wpAny_pure (h h2 ?_ (b1.trans b2))⟩
 simpa[rawInt] using e2
theorem ym {I:Addr} {F:Array Value} {k0:Option Nat} {Q:Option Value→Shared→Prop} (hh:A.handled=none) (hI:jF s.heap I F) (hk:2<F.size) (h:∀h',Heap.ExtBut I s.heap h'→Q none {s with heap:=h'}):
  wpAny (model P w) A.in1 (do setField (.ref I) 2 .none;raiseNew (←newExc (.type "StopIteration") []))
   (fun fin s'=>∃v,fin=Fin.done (Flow.ret v)∧wpAny (model P w) A (pure (some v)) Q E s')
   (fun e s'=>wpAny (model P w) A (do if ←isInstance e (.type "StopIteration") then pure none else throw e) Q E s') s:=by
 refine wpAny_bind (wpAny_setField_rec hI hk fun h1 e1 b1=>?_)
 refine wpAny_bind ?_
 simp only[newExc,newTuple]
 refine wpAny_bind (wpAny_newObj_type ?_ (by size_fits))
 refine wpAny_bind (m:=firstArgMember _ _) (wpAny_of_eq (a:=Value.none) (by first | rfl | (simp only[firstArgMember];rfl)) ?_)
 refine wpAny_newObj_type ?_ (by size_fits)
 simp only[raiseNew]
 refine wpAny_bind (wpAny_handled ?_)
 rw[show A.in1.handled=none from hh]
 refine wpAny_bind (wpAny_pure (wpAny_throw ?_))
 refine wpAny_bind (wpAny_isInstance (T:="StopIteration") (b:=true) ⟨_,Heap.get?_push_size _ rfl,rfl⟩ isSubtype_stop ?_)
 exact wpAny_pure (h _ ((b1.extBut.push _).push _))
theorem Bw {I a:Addr} {sl i ep':Nat} {es:Array (Int×Value)} {ep:Nat} {t:SetTable} {ks:List Str} {Q:Option Value→Shared→Prop} (hh:A.handled=none) (hI:jF s.heap I #[rawInt sl,rawInt i,.ref a,rawInt es.size,rawInt ep'])
  (S:cO P w s.heap a es ep t ks) (hn:∀(B:Around) (E':Value→Shared→Prop) (Q':Option (Value×Nat)→Shared→Prop),Q' none s→wpAny (model P w) B (setNext a sl i ep') Q' E' s)
  (h:∀h',Heap.ExtBut I s.heap h'→Q none {s with heap:=h'}):wpAny (model P w) A (pyNext (.ref I)) Q E s:=by
 have hT:s.TypeIs (.ref I) "set_iterator":=⟨_,hI,rfl⟩
 obtain⟨o,ho,hex,hd⟩:=S.obj
 unfold pyNext
 refine wpAny_bind (wpAny_attempt (wpAny_callSpecial?_slot (name:=Str.ofString "__next__") hT SI.slot_next (wpAny_call_entry SI.slot_next hT SI.entry_next ?_ (SI.args_next _))))
 refine wpAny_bind (wpAny_pure ?_)
 refine wpAny_bind (wpAny_fieldsOf hI rfl ?_)
 refine wpAny_bind (wpAny_setEntries_of ho hd S.fits ?_)
 rw[if_neg (by simp[rawInt])]
 dsimp only[rawInt]
 rw[Int.toNat_natCast,Int.toNat_natCast,Int.toNat_natCast]
 refine wpAny_bind (hn _ _ _ ?_)
 dsimp only
 exact ym (k0:=none) hh hI (by simp) h
theorem rO {T:Addr} {xs:Array Value} {B:Around} {E':Value→Shared→Prop} {Q':Option (Array Value)→Shared→Prop} (hT:s.heap.get? T=some {cls:=.type "tuple",data:=.seq xs}) (h:Q' (some xs) s):wpAny (model P w) B (seqItems? (.ref T)) Q' E' s:=by
 unfold seqItems?
 dsimp only
 refine wpAny_bind (wpAny_load hT ?_)
 exact wpAny_pure h
theorem FW {I a T:Addr} {i p:Nat} {es:Array (Int×Value)} {ep:Nat} {t:SetTable} {ks:List Str} {hv:Int} {v:Value} {ord:List Nat} {Q:Option Value→Shared→Prop} (hI:jF s.heap I #[.ref T,rawInt i,.ref a,rawInt es.size,rawInt ep])
  (hT':s.heap.get? T=some {cls:=.type "tuple",data:=.seq (ord.map fun(i:Nat)=>rawInt i).toArray}) (S:cO P w s.heap a es ep t ks) (hp:ord[i]? =some p) (he:es[p]? =some (hv,v))
  (h:∀h',jF h' I #[.ref T,rawInt (i+1:Nat),.ref a,rawInt es.size,rawInt ep]→Heap.SameBut I s.heap h'→Q (some v) {s with heap:=h'}):wpAny (model P w) A (pyNext (.ref I)) Q E s:=by
 have hT:s.TypeIs (.ref I) "set_iterator":=⟨_,hI,rfl⟩
 obtain⟨o,ho,hex,hd⟩:=S.obj
 unfold pyNext
 refine wpAny_bind (wpAny_attempt (wpAny_callSpecial?_slot (name:=Str.ofString "__next__") hT SI.slot_next (wpAny_call_entry SI.slot_next hT SI.entry_next ?_ (SI.args_next _))))
 refine wpAny_bind (wpAny_pure ?_)
 refine wpAny_bind (wpAny_fieldsOf hI rfl ?_)
 refine wpAny_bind (wpAny_setEntries_of ho hd S.fits ?_)
 rw[if_neg (by simp[rawInt])]
 dsimp only[rawInt]
 refine wpAny_bind (rO hT' ?_)
 dsimp only
 have e1:(ord.map fun(i:Nat)=>rawInt i).toArray[((i:Nat):Int).toNat]? =some (rawInt p):=by
  rw[Int.toNat_natCast,List.getElem?_toArray,List.getElem?_map,hp];rfl
 rw[e1]
 dsimp only[rawInt]
 refine wpAny_bind ?_
 unfold setNextDrawn
 refine wpAny_bind (wpAny_setState_of ho hd S.fits ?_)
 dsimp only
 rw[Int.toNat_natCast,Int.toNat_natCast,if_neg (by simp),he]
 refine wpAny_pure ?_
 refine wpAny_bind (wpAny_setField_rec hI (by simp) fun h1 e1 b1=>?_)
 refine wpAny_pure ⟨v,rfl,wpAny_pure (h h1 ?_ b1)⟩
 simpa[rawInt] using e1
theorem Ig {I a T:Addr} {i:Nat} {es:Array (Int×Value)} {ep:Nat} {t:SetTable} {ks:List Str} {ord:List Nat} {Q:Option Value→Shared→Prop} (hh:A.handled=none) (hI:jF s.heap I #[.ref T,rawInt i,.ref a,rawInt es.size,rawInt ep])
  (hT':s.heap.get? T=some {cls:=.type "tuple",data:=.seq (ord.map fun(i:Nat)=>rawInt i).toArray}) (S:cO P w s.heap a es ep t ks) (hp:ord[i]? =none)
  (h:∀h',Heap.ExtBut I s.heap h'→Q none {s with heap:=h'}):wpAny (model P w) A (pyNext (.ref I)) Q E s:=by
 have hT:s.TypeIs (.ref I) "set_iterator":=⟨_,hI,rfl⟩
 obtain⟨o,ho,hex,hd⟩:=S.obj
 unfold pyNext
 refine wpAny_bind (wpAny_attempt (wpAny_callSpecial?_slot (name:=Str.ofString "__next__") hT SI.slot_next (wpAny_call_entry SI.slot_next hT SI.entry_next ?_ (SI.args_next _))))
 refine wpAny_bind (wpAny_pure ?_)
 refine wpAny_bind (wpAny_fieldsOf hI rfl ?_)
 refine wpAny_bind (wpAny_setEntries_of ho hd S.fits ?_)
 rw[if_neg (by simp[rawInt])]
 dsimp only[rawInt]
 refine wpAny_bind (rO hT' ?_)
 dsimp only
 have e1:(ord.map fun(i:Nat)=>rawInt i).toArray[((i:Nat):Int).toNat]? =none:=by
  rw[Int.toNat_natCast,List.getElem?_toArray,List.getElem?_map,hp];rfl
 rw[e1]
 dsimp only
 refine wpAny_bind (wpAny_setField_rec hI (by simp) fun h1 e1 b1=>?_)
 exact ym (s:={s with heap:=h1}) (k0:=none) hh e1 (by simp) fun h2 x=>h h2 (fun c o hc q=>x c o hc (b1.extBut c o hc q))
theorem nP {a:Addr} {Q:Bool→Shared→Prop} (h:Q (w.params.followText "set-order") s):wpAny (model P w) A setsByText Q E s:=by
 unfold setsByText
 exact wpAny_bind (wpAny_askSetting (wpAny_pure h))
theorem rP {a:Addr} {es:Array (Int×Value)} {ep:Nat} {t:SetTable} {ks:List Str} {sl i:Nat} {Q:Option (Value×Nat)→Shared→Prop} (S:cO P w s.heap a es ep t ks) (hb:w.params.followText "set-order"=true)
  (h:Q (((pickOrder (w.params.setOrder a ep) es)[i]?).map fun e=>(e.2,sl)) s):wpAny (model P w) A (setNext a sl i ep) Q E s:=by
 obtain⟨o,ho,hex,hd⟩:=S.obj
 unfold setNext
 refine wpAny_bind (wpAny_setState_of ho hd S.fits ?_)
 dsimp only
 refine wpAny_bind (nP (a:=a) ?_)
 rw[hb,if_pos rfl,if_neg (by simp)]
 refine wpAny_bind ?_
 unfold setWalk
 refine wpAny_bind (wpAny_setState_of ho hd S.fits ?_)
 dsimp only
 refine wpAny_bind (nP (a:=a) ?_)
 rw[hb,if_pos rfl]
 refine wpAny_bind (wpAny_askSetting (wpAny_pure ?_))
 exact wpAny_pure h
theorem uR {a:Addr} {es:Array (Int×Value)} {ep:Nat} {t:SetTable} {ks:List Str} {sl i:Nat} {Q:Option (Value×Nat)→Shared→Prop} (S:cO P w s.heap a es ep t ks) (hb:w.params.followText "set-order"=false) (h1:es.size≤1)
  (h:Q (match es[SetTable.below t.place sl]?,t.place[SetTable.below t.place sl]? with | some (_,x),some j=>some (x,j+1) | _,_=>none) s):wpAny (model P w) A (setNext a sl i ep) Q E s:=by
 obtain⟨o,ho,hex,hd⟩:=S.obj
 have hl:t.led=true:=by rw[S.led,hb];rfl
 unfold setNext
 refine wpAny_bind (wpAny_setState_of ho hd S.fits ?_)
 dsimp only
 refine wpAny_bind (nP (a:=a) ?_)
 rw[hb,if_neg (by decide)]
 refine wpAny_ite_split (fun hab=>?_) (fun _=>?_)
 ·have hab':(!t.plain&&decide (es.size>1))=true:=hab
  simp at hab'
  omega
 refine wpAny_bind ?_
 show wpAny (model P w) A (if(!t.led&& !es.isEmpty)=true then unsupported _ else pure ()) _ _ s
 rw[hl,if_neg (by simp)]
 exact wpAny_pure (wpAny_pure h)
end
theorem rQ {α:Type} (f:Nat→Nat):∀(n k:Nat) (l:List α) (out:Array α),l.length=n→(pickOrder.go f n k l out).toList.Perm (out.toList++l)
 | 0,k,l,out,h=>by
  have:l=[]:=List.length_eq_zero_iff.mp h
  subst this
  unfold pickOrder.go
  rw[List.append_nil]
 | n+1,k,l,out,h=>by
  have lt:f k % l.length<l.length:=Nat.mod_lt _ (by omega)
  unfold pickOrder.go
  rw[List.getElem?_eq_getElem lt]
  dsimp only
  refine(rQ f n (k+1) _ _ (by rw[List.length_eraseIdx_of_lt lt];omega)).trans ?_
  rw[Array.toList_push,List.append_assoc]
  refine List.Perm.append_left _ ?_
  have e:l=l.take (f k % l.length)++l[f k % l.length]::l.drop (f k % l.length+1):=by rw[←List.drop_eq_getElem_cons lt,List.take_append_drop]
  rw[List.eraseIdx_eq_take_drop_succ]
  conv=>rhs;rw[e]
  show(l[f k % l.length]::(l.take (f k % l.length)++l.drop (f k % l.length+1))).Perm _
  exact List.perm_middle.symm
section
variable {P:Program} {w:World} {A:Around} {E:Value→Shared→Prop}
theorem rS {α:Type}:∀(n:Nat) (l:List α) (s:Shared) (Q:List α→Shared→Prop),l.length=n→(∀ys d',ys.Perm l→Q ys {s with drawn:=d'})→wpAny (model P w) A (drawOrder n l) Q E s
 | 0,l,s,Q,hl,h=>by
  have:l=[]:=List.length_eq_zero_iff.mp hl
  subst this
  unfold drawOrder
  exact wpAny_pure (h [] s.drawn (.refl _))
 | n+1,[],s,Q,hl,h=>by cases hl
 | n+1,x::l,s,Q,hl,h=>by
  unfold drawOrder
  have go:∀i,i<(x::l).length→wpAny (model P w) A (match (x::l)[i]? with | some y=>do return y::(←drawOrder n ((x::l).eraseIdx i)) | none=>unsupported "internal:drawOrder") Q E {s with drawn:=s.drawn.bump .order}:=fun i hi=>by
   rw[List.getElem?_eq_getElem hi]
   dsimp only
   refine wpAny_bind (rS n _ _ _ (by rw[List.length_eraseIdx_of_lt hi];omega) fun ys d' p=>wpAny_pure ?_)
   refine h _ d' ?_
   have e:(x::l)=(x::l).take i++(x::l)[i]::(x::l).drop (i+1):=by rw[←List.drop_eq_getElem_cons hi,List.take_append_drop]
   refine(p.cons _).trans ?_
   rw[List.eraseIdx_eq_take_drop_succ]
   conv=>rhs;rw[e]
   exact List.perm_middle.symm
  refine wpAny_bind ?_
  exact fun _ _ hΓ=>⟨by simp,go _ (Nat.mod_lt _ (by simp))⟩
end
section
variable {P:Program} {w:World} {A:Around} {E:Value→Shared→Prop} {s:Shared}
abbrev EB (ks:List Str):Nat→Value→Prop:=fun i v=>∃x tk,ks[i]? =some x∧v=.str x tk
theorem Bx {I a:Addr} {es:Array (Int×Value)} {ep:Nat} {t:SetTable} {ks ks':List Str} (hh:A.handled=none) (hne:a≠I) (hb:w.params.followText "set-order"=true)
  (hv:StrsAre ((pickOrder (w.params.setOrder a ep) es).toList.map (·.2)) ks') (hl:ks'.length=es.size):
  Walks P w A I [I,a] [I] es.size (EB ks') (fun i h=>jF h I #[rawInt 0,rawInt i,.ref a,rawInt es.size,rawInt ep]∧cO P w h a es ep t ks) where
 sub:=fun b hb=>by simp at hb;simp[hb]
 frame:=fun _ _ _ st hk=>⟨hk I (by simp) _ st.1,st.2.at fun o q=>hk a (by simp) o q⟩
 item:=fun i s Q E hi st hQ=>by
  have hsz:(pickOrder (w.params.setOrder a ep) es).size=es.size:=by rw[←Array.length_toList,←List.length_map (f:=(·.2)),hv.length,hl]
  obtain⟨e,he⟩:∃e,(pickOrder (w.params.setOrder a ep) es)[i]? =some e:=⟨_,Array.getElem?_eq_getElem (by omega)⟩
  refine yl (sl:=0) (v:=e.2) (nx:=0) st.1 st.2 (fun B E' Q' q=>rP st.2 hb (by rw[he];exact q)) fun h' e1 b1=>hQ e.2 h' s.toks ?_ ⟨e1,st.2.at fun o q=>(b1.2 a hne).trans q⟩ fun b o hb q=>(b1.2 b (by simpa using hb)).trans q
  obtain⟨x,tk,ex,ev⟩:=nO hv i e.2 (by rw[List.getElem?_map,Array.getElem?_toList,he];rfl)
  exact⟨x,tk,ex,ev⟩
 done:=fun s Q E st hQ=>by
  have hsz:(pickOrder (w.params.setOrder a ep) es).size=es.size:=by rw[←Array.length_toList,←List.length_map (f:=(·.2)),hv.length,hl]
  have he:(pickOrder (w.params.setOrder a ep) es)[es.size]? =none:=Array.getElem?_eq_none (by omega)
  exact Bw (sl:=0) hh st.1 st.2 (fun B E' Q' q=>rP st.2 hb (by rw[he];exact q)) fun h' x=>hQ h' s.toks fun b o hb q=>x b o (by simpa using hb) q
 self:=fun _ _ _ _ st hQ=>qr st.1 hQ
theorem zt {I a T:Addr} {es:Array (Int×Value)} {ep:Nat} {t:SetTable} {ks ks':List Str} {ord:List Nat} (hh:A.handled=none) (hne:a≠I) (hTI:T≠I) (hp:ord.Perm (List.range es.size))
  (hv:StrsAre (ord.map fun p=>(es.getD p (0,.none)).2) ks'):
  Walks P w A I [I,a,T] [I] es.size (EB ks') (fun i h=>jF h I #[.ref T,rawInt i,.ref a,rawInt es.size,rawInt ep]∧cO P w h a es ep t ks∧h.get? T=some {cls:=.type "tuple",data:=.seq (ord.map fun(i:Nat)=>rawInt i).toArray}) where
 sub:=fun b hb=>by simp at hb;simp[hb]
 frame:=fun _ _ _ st hk=>⟨hk I (by simp) _ st.1,st.2.1.at fun o q=>hk a (by simp) o q,hk T (by simp) _ st.2.2⟩
 item:=fun i s Q E hi st hQ=>by
  have lo:ord.length=es.size:=by rw[hp.length_eq,List.length_range]
  obtain⟨p,ho⟩:∃p,ord[i]? =some p:=⟨_,List.getElem?_eq_getElem (by omega)⟩
  have hlt:p<es.size:=List.mem_range.mp (hp.mem_iff.mp (List.mem_of_getElem? ho))
  have he:es[p]? =some ((es.getD p (0,.none)).1,(es.getD p (0,.none)).2):=by
   rw[Array.getElem?_eq_getElem hlt,Array.getD_eq_getD_getElem?,Array.getElem?_eq_getElem hlt];rfl
  refine FW st.1 st.2.2 st.2.1 ho he fun h' e1 b1=>hQ _ h' s.toks ?_ ⟨e1,st.2.1.at fun o q=>(b1.2 a hne).trans q,(b1.2 T hTI).trans st.2.2⟩ fun b o hb q=>(b1.2 b (by simpa using hb)).trans q
  obtain⟨x,tk,ex,ev⟩:=nO hv i _ (by rw[List.getElem?_map,ho];rfl)
  exact⟨x,tk,ex,ev⟩
 done:=fun s Q E st hQ=>by
  have lo:ord.length=es.size:=by rw[hp.length_eq,List.length_range]
  exact Ig hh st.1 st.2.2 st.2.1 (List.getElem?_eq_none (by omega)) fun h' x=>hQ h' s.toks fun b o hb q=>x b o (by simpa using hb) q
 self:=fun _ _ _ _ st hQ=>qr st.1 hQ
theorem zu (p:Nat):SetTable.below #[p] 0=0:=by
 unfold SetTable.below
 simp[SetTable.below.go]
theorem zv (p:Nat):SetTable.below #[p] (p+1)=1:=by
 unfold SetTable.below
 simp[SetTable.below.go]
theorem Du {I a:Addr} {es:Array (Int×Value)} {ep:Nat} {t:SetTable} {ks:List Str} (hh:A.handled=none) (hne:a≠I) (hb:w.params.followText "set-order"=false) (h1:es.size≤1) (hf:t.fits es.size=true) (hv:StrsAre (es.toList.map (·.2)) ks):
  Walks P w A I [I,a] [I] es.size (EB ks) (fun i h=>jF h I #[rawInt (if i=0 then 0 else t.place.getD 0 0+1:Nat),rawInt i,.ref a,rawInt es.size,rawInt ep]∧cO P w h a es ep t ks) where
 sub:=fun b hb=>by simp at hb;simp[hb]
 frame:=fun _ _ _ st hk=>⟨hk I (by simp) _ st.1,st.2.at fun o q=>hk a (by simp) o q⟩
 item:=fun i s Q E hi st hQ=>by
  have i0:i=0:=by omega
  subst i0
  have sz:es.size=1:=by omega
  have tp:t.place.size=1:=by
   unfold SetTable.fits at hf
   simp only[Bool.and_eq_true,beq_iff_eq] at hf
   omega
  obtain⟨p,hp⟩:∃p,t.place= #[p]:=Array.size_eq_one_iff.mp tp
  obtain⟨e,he⟩:∃e,es[0]? =some e:=⟨_,Array.getElem?_eq_getElem (by omega)⟩
  refine yl (sl:=0) (v:=e.2) (nx:=p+1) st.1 st.2 (fun B E' Q' q=>uR st.2 hb h1 ?_) fun h' e1 b1=>hQ e.2 h' s.toks ?_ ⟨?_,st.2.at fun o q=>(b1.2 a hne).trans q⟩ fun b o hb q=>(b1.2 b (by simpa using hb)).trans q
  ·rw[hp,zu,he]
   exact q
  ·obtain⟨x,tk,ex,ev⟩:=nO hv 0 e.2 (by rw[List.getElem?_map,Array.getElem?_toList,he];rfl)
   exact⟨x,tk,ex,ev⟩
  ·rw[hp]
   exact e1
 done:=fun s Q E st hQ=>by
  refine Bw hh st.1 st.2 (fun B E' Q' q=>uR st.2 hb h1 ?_) fun h' x=>hQ h' s.toks fun b o hb q=>x b o (by simpa using hb) q
  by_cases z:es.size=0
  ·have ez:es= #[]:=Array.size_eq_zero_iff.mp z
   rw[ez]
   simpa using q
  ·have sz:es.size=1:=by omega
   have tp:t.place.size=1:=by
    unfold SetTable.fits at hf
    simp only[Bool.and_eq_true,beq_iff_eq] at hf
    omega
   obtain⟨p,hp⟩:∃p,t.place= #[p]:=Array.size_eq_one_iff.mp tp
   rw[if_neg z,hp]
   show Q' (match es[SetTable.below #[p] (p+1)]?,(#[p]:Array Nat)[SetTable.below #[p] (p+1)]? with | some (_,x),some j=>some (x,j+1) | _,_=>none) _
   rw[zv,Array.getElem?_eq_none (by omega)]
   exact q
 self:=fun _ _ _ _ st hQ=>qr st.1 hQ
theorem zx {a:Addr} {es:Array (Int×Value)} {ep:Nat} {t:SetTable} {ks:List Str} {Q:Value→Shared→Prop} (S:cO P w s.heap a es ep t ks)
  (h:∀(I:Addr) (h1:Heap) (d1:Drawn) (fx:List Addr) (ks':List Str) (St:Nat→Heap→Prop),ks'.Perm ks→s.heap.objs.size≤I→I<h1.objs.size→(∀b∈fx,s.heap.objs.size≤b∧b<h1.objs.size)→(∀b o,s.heap.get? b=some o→h1.get? b=some o)→St 0 h1→
   (∀B:Around,B.handled=none→Walks P w B I (I::a::fx) [I] es.size (EB ks') St)→Q (.ref I) {s with heap:=h1,drawn:=d1}):
  wpAny (model P w) A (pyIter (.ref a)) Q E s:=by
 obtain⟨o,ho,hex,hd⟩:=S.obj
 have hT:s.TypeIs (.ref a) "set":=⟨o,ho,hex.1⟩
 have la:a<s.heap.objs.size:=Heap.lt_size ho
 have hsz:=S.len
 refine wpAny_pyIter_slot hT PySem.F.slot_set_iter (wpAny_call_entry PySem.F.slot_set_iter hT SI.qq ?_ (PySem.F.args_set_iter_1 _))
 unfold Builtin.«frozenset.__iter__» Builtin.Frozenset.slot0 slotArgs
 simp only[List.isEmpty_nil,Bool.not_true,Bool.false_eq_true, ↓reduceIte,bind_assoc,List.length_nil,bne_self_eq_false]
 unfold Builtin.Frozenset.addrOf Builtin.Frozenset.sizeOf
 refine wpAny_bind (wpAny_pure ?_)
 try dsimp only
 refine wpAny_bind (wpAny_pure ?_)
 refine wpAny_bind (wpAny_bind (wpAny_setEntries_of ho hd S.fits (wpAny_pure ?_)))
 unfold setDrawn
 refine wpAny_bind (wpAny_bind (wpAny_setState_of ho hd S.fits ?_))
 dsimp only
 refine wpAny_bind (nP (a:=a) (wpAny_pure ?_))
 refine wpAny_ite_split (fun hab=>?_) (fun hab=>?_)
 ·have hab':(!w.params.followText "set-order"&&(!t.plain&&decide (es.size>1)))=true:=hab
  refine wpAny_bind (rS _ _ _ _ (List.length_range) fun ys d' p=>?_)
  have ly:ys.length=es.size:=by rw[p.length_eq,List.length_range]
  refine wpAny_bind (wpAny_newTuple ?_ (by rw[List.length_map,ly];exact fits_of_scanBound S.small))
  have hoT:(s.heap.push {cls:=.type "tuple",data:=.seq (ys.map fun(i:Nat)=>rawInt i).toArray}).get? s.heap.objs.size=some {cls:=.type "tuple",data:=.seq (ys.map fun(i:Nat)=>rawInt i).toArray}:=Heap.get?_push_size _ rfl
  have By:(s.heap.push {cls:=.type "tuple",data:=.seq (ys.map fun(i:Nat)=>rawInt i).toArray}).objs.size=s.heap.objs.size+1:=Heap.size_push ..
  refine wpAny_bind (wpAny_setEpoch_of (s:={s with heap:=s.heap.push {cls:=.type "tuple",data:=.seq (ys.map fun(i:Nat)=>rawInt i).toArray},drawn:=d'}) (Heap.get?_push_of_some _ ho) hd S.fits ?_)
  have SS:cO P w (s.heap.push {cls:=.type "tuple",data:=.seq (ys.map fun(i:Nat)=>rawInt i).toArray}) a es ep t ks:=S.at fun o q=>Heap.get?_push_of_some _ q
  have old:∀b o,s.heap.get? b=some o→(s.heap.push {cls:=.type "tuple",data:=.seq (ys.map fun(i:Nat)=>rawInt i).toArray}).get? b=some o:=fun b o q=>Heap.get?_push_of_some _ q
  generalize s.heap.push {cls:=.type "tuple",data:=.seq (ys.map fun(i:Nat)=>rawInt i).toArray}=h1 at hoT By SS old ⊢
  refine wpAny_bind (wpAny_newObj_type (wpAny_pure ⟨_,rfl,"set_iterator",_,⟨_,Heap.get?_push_size _ rfl,rfl⟩,SI.slot_next.lookup,?_⟩))
  have ent:((List.range es.size).map fun p=>(es.getD p (0,.none)).2)=es.toList.map (·.2):=by
   apply List.ext_getElem?
   intro i
   rw[List.getElem?_map,List.getElem?_map,show es.toList[i]? =es[i]? from Array.getElem?_toList]
   by_cases hi:i<es.size
   ·rw[List.getElem?_range hi,Array.getElem?_eq_getElem hi]
    show some (es.getD i (0,.none)).2=some es[i].2
    rw[Array.getD_eq_getD_getElem?,Array.getElem?_eq_getElem hi];rfl
   ·rw[List.getElem?_eq_none (by rw[List.length_range];omega),Array.getElem?_eq_none (by omega)];rfl
  obtain⟨ks',v',p'⟩:=jW (p.map fun p=>(es.getD p (0,.none)).2) (ks:=ks) (by rw[ent];exact S.vals)
  refine h h1.objs.size (h1.push _) d' [s.heap.objs.size] ks' _ p' (by rw[By];exact Nat.le_succ _) (by rw[Heap.size_push];exact Nat.lt_succ_self _) (fun b hb=>?_) (fun b o q=>Heap.get?_push_of_some _ (old b o q)) ?_ (fun B hB=>zt (ep:=ep) (t:=t) (ks:=ks) hB ?_ ?_ p v')
  ·rw[List.mem_singleton.mp hb,Heap.size_push,By]
   exact⟨Nat.le_refl _,Nat.lt_succ_of_lt (Nat.lt_succ_self _)⟩
  ·exact⟨Heap.get?_push_size _ rfl,SS.at fun o q=>Heap.get?_push_of_some _ q,Heap.get?_push_of_some _ hoT⟩
  ·rw[By];exact Nat.ne_of_lt (Nat.lt_succ_of_lt la)
  ·rw[By];exact Nat.ne_of_lt (Nat.lt_succ_self _)
 ·have hab':¬(!w.params.followText "set-order"&&(!t.plain&&decide (es.size>1)))=true:=hab
  refine wpAny_bind (wpAny_pure ?_)
  refine wpAny_bind (wpAny_setEpoch_of ho hd S.fits ?_)
  refine wpAny_bind (wpAny_newObj_type (wpAny_pure ⟨_,rfl,"set_iterator",_,⟨_,Heap.get?_push_size _ rfl,rfl⟩,SI.slot_next.lookup,?_⟩))
  have yk:a≠s.heap.objs.size:=Nat.ne_of_lt la
  cases hb:w.params.followText "set-order" with
  | true=>
   obtain⟨ks',v',p'⟩:=jW ((rQ (w.params.setOrder a ep) es.size 0 es.toList #[] (by simp)).map (·.2)) (ks:=ks) (by simpa using S.vals)
   exact h s.heap.objs.size (s.heap.push _) s.drawn [] ks' _ p' (Nat.le_refl _) (by rw[Heap.size_push];exact Nat.lt_succ_self _) (fun b hb=>by simp at hb) (fun b o q=>Heap.get?_push_of_some _ q) ⟨Heap.get?_push_size _ rfl,S.at fun o q=>Heap.get?_push_of_some _ q⟩
    (fun B hB=>Bx (ep:=ep) (t:=t) (ks:=ks) hB yk hb v' (by rw[p'.length_eq,hsz]))
  | false=>
   have few:es.size≤1:=by
    rw[hb] at hab'
    by_cases z:es.size≤1
    ·exact z
    ·exfalso
     refine hab' ?_
     rw[S.plain (by omega),decide_eq_true (show es.size>1 by omega)]
     rfl
   exact h s.heap.objs.size (s.heap.push _) s.drawn [] ks _ (.refl _) (Nat.le_refl _) (by rw[Heap.size_push];exact Nat.lt_succ_self _) (fun b hb=>by simp at hb) (fun b o q=>Heap.get?_push_of_some _ q) ⟨Heap.get?_push_size _ rfl,S.at fun o q=>Heap.get?_push_of_some _ q⟩
    (fun B hB=>Du (ep:=ep) (t:=t) (ks:=ks) hB yk hb few S.fits S.vals)
theorem Dv {r:Addr} {Q:Bool→Shared→Prop} (hT:s.TypeIs (.ref r) "set") (h:Q false s):wpAny (model P w) A (Builtin.List.listLengthHint (.ref r)) Q E s:=by
 unfold Builtin.List.listLengthHint
 refine wpAny_bind (wpAny_specialOf hT PySem.F.slot_set_len.lookup ?_)
 generalize hid:("set.__len__":String)=id0
 wp_delta
 rw[show splitId id0=some ("set","__len__") from by subst hid;decide+kernel]
 subst hid
 refine wpAny_bind (wpAny_isInstance (T:="set") (b:=true) hT (by rw[isSubtype_type];kernel_rfl) ?_)
 refine wpAny_ite_split (fun hab=>absurd hab (by decide)) (fun _=>?_)
 refine wpAny_ite_split (fun _=>?_) (fun hab=>absurd (by decide+kernel) hab)
 exact wpAny_bind (wpAny_typeOf hT (wpAny_pure h))
theorem wU {a:Addr} {es:Array (Int×Value)} {ep:Nat} {t:SetTable} {ks:List Str} {Q:List Value→Shared→Prop} (S:cO P w s.heap a es ep t ks) (hh:A.handled=none)
  (h:∀(h':Heap) (tk:Nat) (d':Drawn) (acc:List Value) (ks':List Str),(∀b o,s.heap.get? b=some o→h'.get? b=some o)→StrsAre acc ks'→ks'.Perm ks→Q acc {s with heap:=h',toks:=tk,drawn:=d'}):
  wpAny (model P w) A (collect (.ref a)) Q E s:=by
 obtain⟨o,ho,hex,hd⟩:=S.obj
 have la:a<s.heap.objs.size:=Heap.lt_size ho
 have hsz:=S.len
 unfold collect
 refine wpAny_bind (wpAny_runValue (codeAny_builtin entry_proto_collect' ?_))
 rw[Around.under_plainId PySem.F.plain_proto_collect]
 show wpAny (model P w) A.in1 (newList [] >>= fun l=>again (.builtin "list.__iadd__" ⟨[l,.ref a],[]⟩)) _ _ s
 refine wpAny_bind (wpAny_newObj_type ?_)
 refine wpAny_pure ⟨plainId_quiet PySem.F.plain_list_iadd _,codeAny_builtin entry_list_iadd' ?_⟩
 rw[Around.under_plainId PySem.F.plain_list_iadd]
 have g1:(s.heap.push {cls:=.type "list",data:=.seq ([]:List Value).toArray}).get? s.heap.objs.size=some {cls:=.type "list",data:=.seq #[]}:=Heap.get?_push_size _ rfl
 have z1:(s.heap.push {cls:=.type "list",data:=.seq ([]:List Value).toArray}).objs.size=s.heap.objs.size+1:=Heap.size_push ..
 have k1:∀b o,s.heap.get? b=some o→(s.heap.push {cls:=.type "list",data:=.seq ([]:List Value).toArray}).get? b=some o:=fun b o q=>Heap.get?_push_of_some _ q
 show wpAny (model P w) A.in1 (Builtin.List.listExtendWith (.ref s.heap.objs.size) (.ref a) (.ref s.heap.objs.size)) _ _ _
 generalize s.heap.push {cls:=.type "list",data:=.seq ([]:List Value).toArray}=h1 at g1 z1 k1 ⊢
 have S1:cO P w h1 a es ep t ks:=S.at fun o q=>k1 a o q
 have T1:Shared.TypeIs {s with heap:=h1} (.ref a) "set":=⟨o,k1 a o ho,hex.1⟩
 unfold Builtin.List.listExtendWith
 refine wpAny_bind (wpAny_typeOf T1 ?_)
 have n1:Builtin.List.listSameRef (.ref s.heap.objs.size) (.ref a)=false:=by simp[Builtin.List.listSameRef];exact Nat.ne_of_gt la
 rw[if_neg (by rw[n1];decide)]
 refine wpAny_bind (zx (s:={s with heap:=h1}) S1 fun I h2 d2 fx ks' St pk LV ltI QY k2 st W=>?_)
 refine wpAny_bind (wpAny_holding (Dv ⟨o,k2 a o (k1 a o ho),hex.1⟩ ?_))
 refine wpAny_ite_split (fun _=>?_) (fun hab=>absurd (by decide+kernel) hab)
 have lS:s.heap.objs.size<h1.objs.size:=by rw[z1];exact Nat.lt_succ_self _
 have nf:s.heap.objs.size ∉ I::a::fx:=fun m=>by
  rcases List.mem_cons.mp m with q | m
  ·exact absurd LV (by rw[←q];exact Nat.not_le.mpr lS)
  ·rcases List.mem_cons.mp m with q | m
   ·exact absurd la (by rw[←q];exact Nat.lt_irrefl _)
   ·exact absurd (QY _ m).1 (Nat.not_le.mpr lS)
 refine wpAny_bind (wpAny_rule (wpAny_bind ?_))
 have g2:=k2 _ _ g1
 show wpAny (model P w) A.in1 (updateSeq s.heap.objs.size (·.push .none) >>= fun _=>updateSeq s.heap.objs.size (·.pop)) _ _ _
 refine wpAny_bind (wpAny_updateSeq g2 rfl ?_)
 have g3:=Heap.get?_update_self (Obj.mapSeq (·.push Value.none)) g2 rfl
 refine wpAny_updateSeq (hz:=by seq_fits) g3 rfl ?_
 have g4:=Heap.get?_update_self (Obj.mapSeq (·.pop)) g3 rfl
 have k4:∀b o,b≠s.heap.objs.size→h2.get? b=some o→((h2.update s.heap.objs.size (Obj.mapSeq (·.push Value.none))).update s.heap.objs.size (Obj.mapSeq (·.pop))).get? b=some o:=fun b o nb q=>
  (Heap.get?_update_other _ _ (Ne.symm nb)).trans ((Heap.get?_update_other _ _ (Ne.symm nb)).trans q)
 have uJ:=(W A.in1 hh).frame 0 _ _ st fun b hb o q=>k4 b o (fun z=>nf (z▸hb)) q
 refine wpAny_pure ⟨plainId_quiet PySem.F.plain_extend_loop _,codeAny_extend_loopS (W A.in1 hh).toS (fits_of_scanBound S.small) s.heap.objs.size nf _ es.size 0 _ #[] _ rfl (Nat.zero_le _) uJ g4 (ItemsOf.nil _) fun s' acc' c' hm hS' hacc=>?_⟩
 show wpAny (model P w) A (load s.heap.objs.size >>= _) _ _ s'
 refine wpAny_bind (wpAny_load hS' ?_)
 refine wpAny_pure ?_
 rw[Moved.eq_with hm]
 refine h s'.heap s'.toks d2 acc'.toList ks' (fun b o q=>hm.heap b o (fun m=>?_) (k4 b o (Nat.ne_of_lt (Heap.lt_size q)) (k2 b o (k1 b o q)))) ?_ pk
 ·have lb:=Heap.lt_size q
  rcases List.mem_cons.mp m with z | m
  ·exact absurd lb (by rw[z];exact Nat.lt_irrefl _)
  ·have z:=List.mem_singleton.mp m
   exact absurd (Nat.lt_trans lb lS) (by rw[z];exact Nat.not_lt.mpr LV)
 ·have ll:acc'.toList.length=ks'.length:=by rw[Array.length_toList,hacc.1,hsz,pk.length_eq]
  refine lM ll fun i v x e1 e2=>?_
  obtain⟨y,tk,ey,ev⟩:=hacc.2 i v (by rw[←Array.getElem?_toList];exact e1)
  rw[e2] at ey
  cases ey
  exact⟨tk,ev⟩
end
def jG (P:Program) (w:World) (a:Addr) (ks:List Str):HO:=.ext fun h=>∃es ep t ks',cO P w h a es ep t ks'∧ks'.Perm ks
section
variable {X:Cx}
def Nv (X:Cx):List V→Hp→VK→Prop:=fun xs H Q=>∃(l:Addr) (ss:List Str),xs=[.ref l]∧cF X.K H l (ss.map V.str)∧ss.length+1<scanBound∧
 ∀(p:Addr) (ks:List Str),H p=none→ks.Nodup→(∀y,y∈ks↔y∈ss)→ks.length≤ss.length→Q (.ref p) (upd H p (jG X.prog X.w p ks))
theorem Bz (hc:X.calm=true):cZ X (.type "set") (Nv X):=by
 intro pins s σ H xs us Q I r h
 obtain⟨l,ss,rfl,hq,hb,q⟩:=h
 obtain⟨u,rfl,ru⟩:=vals1 r
 cases ru
 obtain⟨its,rv,p,_⟩:=I.list hq
 have hl:=rv.length
 rw[List.length_map] at hl
 refine uQ (I.ok.hd hc) p.isList (pH rv) (by simp;omega) fun h' tk es ep t ks S hm hlen kp=>?_
 have k':∀b o,s.heap.get? b=some o→h'.get? b=some o:=fun b o e=>kp b o (Heap.lt_size e) e
 have hp:s.heap.objs.size≤s.heap.objs.size:=Nat.le_refl _
 have I2:=I.laid (a:=s.heap.objs.size) (o:=jG X.prog X.w s.heap.objs.size ks) (t':=tk) k' hp ⟨⟨es,ep,t,ks,S,.refl _⟩,(let ⟨o,e,_⟩:=S.obj;⟨o,e⟩),fun h1 h2 ⟨es1,QZ,t1,rM,S1,p1⟩ k2=>⟨es1,QZ,t1,rM,S1.at k2,p1⟩⟩
 exact⟨.ref s.heap.objs.size,_,I2,rfl,q _ ks (I.hok.fresh hp) S.once hm (by simp at hlen;omega)⟩
def Dw (X:Cx):List V→Hp→VK→Prop:=fun xs H Q=>∃(a:Addr) (ks:List Str),xs=[.ref a]∧H a=some (jG X.prog X.w a ks)∧ks.length<64∧
 ∀(p:Addr) (ss':List Str),H p=none→ss'.Perm ks→sortedS ss'=true→Q (.ref p) (upd H p (.lst (ss'.map V.str)))
theorem uS (hc:X.calm=true):cZ X (.builtin "sorted") (Dw X):=by
 intro pins s σ H xs us Q I r h
 obtain⟨a,ks,rfl,ha,h64,q⟩:=h
 obtain⟨u,rfl,ru⟩:=vals1 r
 cases ru
 obtain⟨⟨es,ep,t,U',S,p0⟩,_,_⟩:=(show bV X.prog X.w H s.heap a (jG X.prog X.w a ks) from I.hok a _ ha)
 refine Calls.call_function_entry kind_sorted plain_sorted entry_sorted (args_sorted1 _) ?_
 unfold Builtin.«sorted»
 (refine wpAny_bind (m:=checkCount "sorted" 1 1 _) (wpAny_pure ?_))
 refine wpAny_bind (wU (A:=X.A.in1) S (I.ok.hd hc) fun h' tk d' acc rM k hS p1=>?_)
 have hl:acc.length=ks.length:=by rw[hS.length,p1.length_eq,p0.length_eq]
 refine wpAny_bind (wpAny_newList ?_ (by rw[hl];exact Nat.le_of_lt (Nat.lt_of_lt_of_le h64 (by decide))))
 have hoL:(h'.push (seqObj "list" acc.toArray 0)).get? h'.objs.size=some (seqObj "list" acc.toArray 0):=Heap.get?_push_size _ rfl
 refine wpAny_bind (wpAny_holding (wpAny_call_entry slot_list_sort ⟨_,hoL,rfl⟩ entry_list_sort (list_sort_treeK strKind_oneLt hoL hS.keysOf (fun v1 v2 rest e=>keyKind_strs (by rw[←e];exact hS)) (by rw[hl];exact h64) fun st' hp hs=>⟨_,rfl,?_⟩) (args_list_sort _)))
 obtain⟨ss',a1,a2,a3⟩:=sorted_out_str hS hp hs
 have I1:Inv X pins σ H {s with heap:=h',toks:=tk,drawn:=d'}:=I.step (g':=s.gens) (d':=d') (ch:=[]) (fun b z=>by cases z) (fun b o _ _ _ e _=>k b o e) (fun b o _ _ _ e _=>⟨o.slots,k b o e⟩) (fun _ _ _ _ n=>n)
  (fun b o _ e=>⟨o,k b o e⟩) (fun _ _ e=>e) (fun _ _ _ e=>e) (fun b ps e=>⟨#[],by rw[e];simp⟩) (fun m ⟨ob,e1,e2,hb,r⟩=>⟨ob,e1,e2,k _ ob hb,r⟩) (fun b u e=>(I.hok b u e).stay (fun c v _ z=>k c v z) (fun _ z=>z) fun _ _ z=>z) I.bare
 obtain⟨e,he⟩:=sortedHeap_at (out:=(arrOf st').map (·.2)) hoL
 have kp:∀b u,h'.get? b=some u→(sortedHeap (h'.push (seqObj "list" acc.toArray 0)) h'.objs.size acc ((arrOf st').map (·.2))).get? b=some u:=fun b u eb=>by
  have lt:=Heap.lt_size eb
  rw[sortedHeap_old (Nat.ne_of_lt lt) (by rw[Heap.size_push];exact Nat.lt_succ_of_lt lt)]
  exact Heap.get?_push_of_some _ eb
 have I2:=I1.laid (a:=h'.objs.size) (o:=.lst (ss'.map V.str)) (t':=tk) kp (Nat.le_refl _) ⟨by rw[List.length_map,a2.length_eq,p1.length_eq,p0.length_eq];exact Nat.le_of_lt (Nat.lt_of_lt_of_le h64 (by decide)),((arrOf st').map (·.2)).toList,e,mW a1,he⟩
 exact wpAny_pure ⟨_,rfl,⟨.ref h'.objs.size,_,I2,rfl,q _ ss' (I1.hok.fresh (Nat.le_refl _)) ((a2.trans p1).trans p0) a3⟩⟩
end
end L2
namespace L2
open PySem PySem.Spec PyProof.Rows
open PySem.AutoSeq1 (wpAny_loadPart')
theorem Kq (x y:Str) (h:(!ltCps y.cps.toList x.cps.toList)=true):x.cps.toList≤y.cps.toList:=by
 rw[PyProof.Rows.ltCps_eq] at h
 exact List.not_lt.mp (by simpa using h)
theorem mX:∀(l:List Str) (p:Str),risingS p l=true→∀y∈l,p.cps.toList≤y.cps.toList
 | [],p,_,y,hy=>by cases hy
 | x::l,p,h,y,hy=>by
  have h':(!ltCps x.cps.toList p.cps.toList&&risingS x l)=true:=h
  rw[Bool.and_eq_true] at h'
  have h1:=Kq p x h'.1
  rcases List.mem_cons.mp hy with e | hy
  ·rw[e];exact h1
  ·exact List.le_trans h1 (mX l x h'.2 y hy)
theorem om {x:Str} {l:List Str} (h:sortedS (x::l)=true):sortedS l=true:=by
 cases l with
 | nil=>rfl
 | cons y l=>
  have h':(!ltCps y.cps.toList x.cps.toList&&risingS y l)=true:=h
  rw[Bool.and_eq_true] at h'
  exact h'.2
theorem Ih {x y:Str} (h:x.cps.toList=y.cps.toList):x=y:=by
 obtain⟨a⟩:=x
 obtain⟨b⟩:=y
 have:a=b:=Array.toList_inj.mp h
 rw[this]
theorem kg:∀{l m:List Str},sortedS l=true→sortedS m=true→l.Nodup→m.Nodup→(∀y,y∈l↔y∈m)→l=m
 | [],[],_,_,_,_,_=>rfl
 | [],y::m,_,_,_,_,h=>by have:=(h y).mpr List.mem_cons_self;cases this
 | x::l,[],_,_,_,_,h=>by have:=(h x).mp List.mem_cons_self;cases this
 | x::l,y::m,sl,sm,nl,nm,h=>by
  rw[List.nodup_cons] at nl nm
  have e:x=y:=by
   rcases List.mem_cons.mp ((h x).mp List.mem_cons_self) with e | hx
   ·exact e
   ·rcases List.mem_cons.mp ((h y).mpr List.mem_cons_self) with e | hy
    ·exact e.symm
    ·exact Ih (List.le_antisymm (mX l x sl y hy) (mX m y sm x hx))
  subst e
  rw[kg (om sl) (om sm) nl.2 nm.2 fun z=>?_]
  constructor
  ·intro hz
   rcases List.mem_cons.mp ((h z).mp (List.mem_cons_of_mem _ hz)) with e | q
   ·exact absurd (e▸hz) nl.1
   ·exact q
  ·intro hz
   rcases List.mem_cons.mp ((h z).mpr (List.mem_cons_of_mem _ hz)) with e | q
   ·exact absurd (e▸hz) nm.1
   ·exact q
end L2
namespace L2
open PySem PySem.Spec PyProof.Rows
structure Passed (fs:List Addr) (e:Addr) (oe:Obj) (hd:Option Addr) (T:Addr) (h h':Heap):Prop where
 above:h.objs.size≤T
 keep:∀b o,b≠e→b ∉ fs→hd≠some b→h.get? b=some o→h'.get? b=some o
 slot:∀b o,b∈fs→b≠e→hd≠some b→h.get? b=some o→∃sl,h'.get? b=some {o with slots:=sl}
 exc:h'.get? e=some (oe.mapFields (·.setIfInBounds 1 (.ref T)))
 tb:∃oT ts,h'.get? T=some oT∧oT.data=.fields ts∧ts[3]? =some .none
section
variable {M:Model} {A:Around} {E:Value→Shared→Prop} {s:Shared} {base:Heap} {env:Env} {outer:List Env} {L e:Addr} {oe:Obj} {vs:Array Value} {Q:Unit→Shared→Prop}
theorem pJ {head:Value} {had:Bool} (fr:A.frames=some (env::outer)) (ff:s.heap.FunFrames base (env::outer)) (fL:env.frame=some L)
  (xe:s.heap.get? e=some oe) (xd:oe.data=.fields vs) (xs:1<vs.size) (k:∀h' T,Passed (frs (env::outer)) e oe none T s.heap h'→Q () {s with heap:=h'}):
  wpAny M A (do
   let a ←frameOf env
   let pl ←entryPlaceOf L had
   let b ←EntryCells.newEntry head a .none (rawInt L) .none pl
   setField (.ref e) 1 b) (fun _ s'=>wpAny M A (setFlight (.ref e) none) Q E s') E s:=by
 have Ii:e ∉ frs (env::outer):=fun z=>by
  obtain⟨_,o,ho,nf⟩:=ff.mem z
  rw[xe] at ho
  cases ho
  exact nf vs xd
 refine wpAny_bind (wpAny_frameOf_fun fr ff fL fun g so=>?_)
 refine wpAny_bind (wpAny_entryPlaceOf fun pl ip=>?_)
 unfold EntryCells.newEntry newFields
 refine wpAny_bind (wpAny_newObj_type ?_ (ip.sizeOk5 _ _ _ _ _))
 have ge:g.get? e=some oe:=(so.2.1 e Ii).trans xe
 generalize hN:([head,Value.ref L,.none,rawInt L,.none]++(if pl.isEmpty then List.replicate 6 Value.none else pl)).toArray=ar
 have a3:ar[3]? =some (rawInt L):=by rw[←hN];simp
 have as:3<ar.size:=(Array.getElem?_eq_some_iff.mp a3).1
 have g2:=Heap.get?_push_of_some (h:=g) {cls:=.type "traceback",dict:=none,data:=.fields ar} ge
 refine wpAny_setField g2 xd xs ?_
 have rT:g.objs.size≠e:=Nat.ne_of_gt (Heap.lt_size ge)
 have d3:=Obj.data_mapFields xd (·.setIfInBounds 1 (Value.ref g.objs.size))
 have g3:=Heap.get?_update_self (Obj.mapFields (·.setIfInBounds 1 (Value.ref g.objs.size))) g2 (Obj.isFreed_of_fields d3)
 have t3:=(Heap.get?_update_other (g.push {cls:=.type "traceback",dict:=none,data:=.fields ar}) (Obj.mapFields (·.setIfInBounds 1 (Value.ref g.objs.size))) (Ne.symm rT)).trans (Heap.get?_push_size g rfl)
 unfold setFlight
 refine wpAny_bind (wpAny_field g3 d3 (x:=.ref g.objs.size) (by simp[xs]) ?_)
 rw[if_pos (by simp)]
 refine wpAny_setField t3 rfl as ?_
 have keep:∀b o,b≠e→g.get? b=some o→(((g.push {cls:=.type "traceback",dict:=none,data:=.fields ar}).update e (Obj.mapFields (·.setIfInBounds 1 (Value.ref g.objs.size)))).update g.objs.size
   (Obj.mapFields (·.setIfInBounds 3 ((none:Option Addr).elim Value.none fun f=>rawInt f)))).get? b=some o:=fun b o ne hb=>by
  rw[Heap.get?_update_other _ _ (Nat.ne_of_gt (Heap.lt_size hb)),Heap.get?_update_other _ _ (Ne.symm ne)]
  exact Heap.get?_push_of_some _ hb
 refine k _ g.objs.size ⟨Nat.le_of_eq so.1.symm,fun b o ne nf _ hb=>keep b o ne ((so.2.1 b nf).trans hb),fun b o _ ne _ hb=>?_,?_,_,_,Heap.get?_update_self _ t3 (Obj.isFreed_of_fields (Obj.data_mapFields rfl _)),Obj.data_mapFields rfl _,?_⟩
 ·obtain⟨sl,q⟩:=so.2.2 b o hb
  exact⟨sl,keep b _ ne q⟩
 ·rw[Heap.get?_update_other _ _ rT]
  exact g3
 ·simp[as]
theorem zy (fr:A.frames=some (env::outer)) (ff:s.heap.FunFrames base (env::outer)) (fL:env.frame=some L) (xe:s.heap.get? e=some oe) (xd:oe.data=.fields vs) (x1:vs[1]? =some .none)
  (k:∀h' T,Passed (frs (env::outer)) e oe none T s.heap h'→Q () {s with heap:=h'}):wpAny M A (noteFrame (.ref e) env) (fun _ s'=>wpAny M A (setFlight (.ref e) none) Q E s') E s:=by
 unfold noteFrame
 simp only[fL]
 refine wpAny_bind (wpAny_field xe xd x1 ?_)
 rw[if_neg (by decide)]
 exact pJ fr ff fL xe xd (Array.getElem?_eq_some_iff.mp x1).1 k
theorem BA {T₀:Addr} {oT:Obj} {ts:Array Value} (fr:A.frames=some (env::outer)) (ff:s.heap.FunFrames base (env::outer)) (fL:env.frame=some L) (xe:s.heap.get? e=some oe) (xd:oe.data=.fields vs) (x1:vs[1]? =some (.ref T₀))
  (rT:T₀≠e) (xt:s.heap.get? T₀=some oT) (td:oT.data=.fields ts) (t3:ts[3]? =some .none)
  (k:∀h' T,Passed (frs (env::outer)) e oe (some T₀) T s.heap h'→Q () {s with heap:=h'}):wpAny M A (noteFrame (.ref e) env) (fun _ s'=>wpAny M A (setFlight (.ref e) none) Q E s') E s:=by
 unfold noteFrame
 simp only[fL]
 refine wpAny_bind (wpAny_field xe xd x1 ?_)
 rw[if_pos (by simp)]
 refine wpAny_bind (wpAny_field xt td t3 ?_)
 rw[if_neg (by simp[rawInt])]
 refine wpAny_bind (wpAny_setField xt td (Array.getElem?_eq_some_iff.mp t3).1 ?_)
 have oth:∀b,b≠T₀→(s.heap.update T₀ (Obj.mapFields (·.setIfInBounds 3 Value.none))).get? b=s.heap.get? b:=fun b nb=>Heap.get?_update_other _ _ (Ne.symm nb)
 have Dx:∀b o,s.heap.get? b=some o→(∀ws,o.data≠.fields ws)→b≠T₀:=fun b o hb nf z=>by
  rw[z,xt] at hb
  cases hb
  exact nf ts td
 refine pJ (s:={s with heap:=s.heap.update T₀ (Obj.mapFields (·.setIfInBounds 3 Value.none))}) fr (ff.of_keeps fun b o hb nf=>⟨o,(oth b (Dx b o hb nf)).trans hb,rfl⟩) fL ((oth e (Ne.symm rT)).trans xe) xd (Array.getElem?_eq_some_iff.mp x1).1 fun h' T p=>?_
 refine k h' T ⟨?_,fun b o ne nf nt hb=>p.keep b o ne nf (by simp) ((oth b fun z=>nt (by rw[z])).trans hb),fun b o hf ne nt hb=>p.slot b o hf ne (by simp) ((oth b fun z=>nt (by rw[z])).trans hb),p.exc,p.tb⟩
 have:=p.above
 simpa[Heap.update] using this
end
def iX (fresh:Bool) (a C:Addr) (dx:Option Addr):Heap→Prop:=fun h=>
 ∃o vs,h.get? a=some o∧o.cls=.ref C∧o.dict=dx∧o.data=.fields vs∧vs.size=6∧(fresh=true→vs[1]? =some .none)
abbrev xo (fresh:Bool) (a C:Addr) (dx:Option Addr):HO:=.ext (iX fresh a C dx)
theorem pK {P:Program} {w:World} {H:Hp} {h:Heap} {f:Bool} {a C:Addr} {dx:Option Addr} (x:iX f a C dx h):bV P w H h a (xo f a C dx):=by
 obtain⟨o,vs,e,r⟩:=id x
 refine⟨x,⟨o,e⟩,fun h1 h2 p k=>?_⟩
 obtain⟨o',vs',e',r'⟩:=p
 exact⟨o',vs',k _ e',r'⟩
theorem Inv.kR {X:Cx} {pins:List (Addr×Obj)} {σ:St} {H:Hp} {s:Shared} {f:Bool} {a C:Addr} {dx:Option Addr} (I:Inv X pins σ H s) (Ha:H a=some (xo f a C dx)):iX f a C dx s.heap:=(I.hok a _ Ha).1
def jH (n:Nat) (a:Addr) (H:Hp) (h:Heap):Prop:=∃o vs T oT ts,h.get? a=some o∧o.data=.fields vs∧vs[1]? =some (.ref T)∧T≠a∧n≤T∧H T=none∧h.get? T=some oT∧oT.data=.fields ts∧ts[3]? =some .none
theorem jH.mono {n m:Nat} {a:Addr} {H:Hp} {h:Heap} (x:jH n a H h) (q:m≤n):jH m a H h:=by
 obtain⟨o,vs,T,oT,ts,e1,e2,e3,e4,e5,r⟩:=x
 exact⟨o,vs,T,oT,ts,e1,e2,e3,e4,Nat.le_trans q e5,r⟩
section
variable {X:Cx} {pins:List (Addr×Obj)} {σ:St} {H:Hp} {s:Shared} {h':Heap} {a C T:Addr} {dx:Option Addr} {f:Bool} {oe:Obj} {hd:Option Addr}
theorem Inv.beyond (I:Inv X pins σ H s) (hT:s.heap.objs.size≤T):X.s₀.heap.objs.size≤T∧T≠X.env.locals∧(∀x c,X.env.cells.lookup x=some c→c≠T)∧∀p∈X.pn++pins,p.1≠T:=by
 refine⟨Nat.le_trans I.sz hT,fun z=>?_,fun x c e z=>?_,fun p hp z=>?_⟩
 ·exact absurd (Nat.lt_of_lt_of_le (z▸I.lt) hT) (Nat.lt_irrefl _)
 ·obtain⟨v,o,ho,_⟩:=I.cell x c e
  exact absurd (Nat.lt_of_lt_of_le (z▸Heap.lt_size ho) hT) (Nat.lt_irrefl _)
 ·have:=(I.pin p hp).1
  exact absurd (Nat.lt_of_lt_of_le (z▸Heap.lt_size this) hT) (Nat.lt_irrefl _)
theorem Inv.passed (I:Inv X pins σ H s) (p:Passed (frs X.stack) a oe hd T s.heap h') (Ha:H a=some (xo f a C dx)) (ho:s.heap.get? a=some oe) (hn:∀b,hd=some b→H b=none)
  (hT:∀b,hd=some b→X.s₀.heap.objs.size≤b∧b≠X.env.locals∧(∀x c,X.env.cells.lookup x=some c→c≠b)∧∀q∈X.pn++pins,q.1≠b):
  Inv X pins σ (upd H a (xo false a C dx)) {s with heap:=h'}∧iX false a C dx h':=by
 obtain⟨o1,vs,e1,c1,d1,f1,z1,_⟩:=I.kR Ha
 obtain rfl:oe=o1:=Option.some.inj (ho.symm.trans e1)
 have new:iX false a C dx h':=⟨_,_,p.exc,by rw[Obj.cls_mapFields];exact c1,by rw[←d1];cases oe;rename_i dd sl;cases dd<;>rfl,Obj.data_mapFields f1 _,by simpa using z1,fun z=>by cases z⟩
 have nA:∀b,H b=none→b≠a:=fun b n z=>by rw[z,Ha] at n;cases n
 have nF:∀b u,H b=some u→b ∉ frs X.stack:=fun b u e z=>by rw[I.nJ b z] at e;cases e
 have nD:∀b u,H b=some u→hd≠some b:=fun b u e z=>by rw[hn b z] at e;cases e
 have kT:∀b u o,H b=some u→b≠a→s.heap.get? b=some o→h'.get? b=some o:=fun b u o e ne q=>p.keep b o ne (nF b u e) (nD b u e) q
 have ch:∀b,b ∉ hd.toList→hd≠some b:=fun b nb z=>nb (by rw[z];simp)
 refine⟨?_,new⟩
 have fr:∀b,b≠a→(upd H a (xo false a C dx)) b=H b:=fun b ne=>aF ne
 refine I.step (g':=s.gens) (d':=s.drawn) (t':=s.toks) (ch:=hd.toList) (fun b hb=>?_) (fun b o nl nf nc e n=>?_) (fun b o nl hf nc e n=>?_) (fun b o nc e n=>?_) (fun b o nc e=>?_) (fun b xs e=>?_) (fun b o u e=>?_) (fun b ps e=>?_) (fun m hm=>?_) ?_ I.bare
 ·have e:hd=some b:=by
   cases hd with
   | none=>simp at hb
   | some y=>simp at hb;rw[hb]
  exact⟨.inr (hT b e).1,(hT b e).2.1,(hT b e).2.2.1,(hT b e).2.2.2⟩
 ·exact p.keep b o (nA b n) (fun z=>(List.mem_cons.mp (I.kr b z)).elim nl nf) (ch b nc) e
 ·by_cases z:b∈frs X.stack
  ·exact p.slot b o z (nA b n) (ch b nc) e
  ·exact⟨o.slots,p.keep b o (nA b n) z (ch b nc) e⟩
 ·rw[fr b (nA b n)];exact n
 ·by_cases ne:b=a
  ·subst ne;exact⟨_,p.exc⟩
  ·by_cases z:b∈frs X.stack
   ·obtain⟨sl,q⟩:=p.slot b o z ne (ch b nc) e
    exact⟨_,q⟩
   ·exact⟨o,p.keep b o ne z (ch b nc) e⟩
 ·rw[fr b fun z=>by rw[z,Ha] at e;cases e];exact e
 ·rw[fr b fun z=>by rw[z,Ha] at e;cases e];exact e
 ·have ne:b≠a:=fun z=>by rw[z,Ha] at e;cases e
  exact⟨#[],by rw[fr b ne,e];simp⟩
 ·obtain⟨o,es,ep,q,r⟩:=hm
  have nl:=nA _ I.free
  have nd:hd≠some X.env.locals:=fun z=>(hT _ z).2.1 rfl
  by_cases z:X.env.locals∈frs X.stack
  ·obtain⟨sl,q'⟩:=p.slot _ o z nl nd q
   exact⟨_,es,ep,q',r⟩
  ·exact⟨o,es,ep,p.keep _ o nl z nd q,r⟩
 ·intro b u e
  by_cases ne:b=a
  ·subst ne
   rw[af] at e
   cases e
   exact pK new
  ·rw[fr b ne] at e
   refine(I.hok b u e).stay (fun c v hc q=>?_) (fun c q=>?_) fun c xs q=>?_
   ·rcases hc with z | z
    ·subst z;exact kT _ u v e ne q
    ·exact kT c _ v z (fun y=>by rw[y,Ha] at z;cases z) q
   ·rw[fr c fun y=>by rw[y,Ha] at q;cases q];exact q
   ·rw[fr c fun y=>by rw[y,Ha] at q;cases q];exact q
theorem Passed.fly (I:Inv X pins σ H s) (p:Passed (frs X.stack) a oe hd T s.heap h') (Ha:H a=some (xo f a C dx)) (ho:s.heap.get? a=some oe):jH s.heap.objs.size a (upd H a (xo false a C dx)) h':=by
 obtain⟨o1,vs,e1,c1,d1,f1,z1,_⟩:=I.kR Ha
 obtain rfl:oe=o1:=Option.some.inj (ho.symm.trans e1)
 have ne:T≠a:=fun z=>absurd (Nat.lt_of_lt_of_le (z▸Heap.lt_size ho) p.above) (Nat.lt_irrefl _)
 obtain⟨oT,ts,t1,t2,t3⟩:=p.tb
 exact⟨_,_,T,oT,ts,p.exc,Obj.data_mapFields f1 _,by simp[z1],ne,p.above,by rw[aF ne];exact I.hok.fresh p.above,t1,t2,t3⟩
def Head (X:Cx):Prop:=X.stack=X.env::X.outer∧X.env.frame=some X.env.locals
theorem rV {M:Model} {A:Around} {E:Value→Shared→Prop} {Q:Unit→Shared→Prop} (I:Inv X pins σ H s) (hA:A.frames=X.A.frames) (hh:Head X) (Ha:H a=some (xo f a C dx))
  (hf:f=true∨∃n,jH n a H s.heap∧∀T,n≤T→X.s₀.heap.objs.size≤T∧T≠X.env.locals∧(∀x c,X.env.cells.lookup x=some c→c≠T)∧∀q∈X.pn++pins,q.1≠T)
  (k:∀h',Inv X pins σ (upd H a (xo false a C dx)) {s with heap:=h'}→jH s.heap.objs.size a (upd H a (xo false a C dx)) h'→Q () {s with heap:=h'}):
  wpAny M A (noteFrame (.ref a) X.env) (fun _ s'=>wpAny M A (setFlight (.ref a) none) Q E s') E s:=by
 obtain⟨o1,vs,e1,c1,d1,f1,z1,LW⟩:=I.kR Ha
 have frm:A.frames=some (X.env::X.outer):=by rw[hA,I.ok.frames,hh.1]
 have EC:s.heap.FunFrames X.base (X.env::X.outer):=by rw[←hh.1];exact I.stack
 rcases hf with hf | ⟨n,⟨o,vs',T₀,oT,ts,q1,q2,q3,q4,q5,q6,q7,q8,q9⟩,hT⟩
 ·refine zy frm EC hh.2 e1 f1 (LW hf) fun h' T p=>?_
  rw[←hh.1] at p
  exact k h' (I.passed p Ha e1 (fun _ z=>by cases z) fun _ z=>by cases z).1 (p.fly I Ha e1)
 ·rw[e1] at q1
  cases q1
  rw[f1] at q2
  cases q2
  refine BA frm EC hh.2 e1 f1 q3 q4 q7 q8 q9 fun h' T p=>?_
  rw[←hh.1] at p
  exact k h' (I.passed p Ha e1 (fun b z=>by cases z;exact q6) fun b z=>by cases z;exact hT _ q5).1 (p.fly I Ha e1)
theorem zz {M:Model} {A:Around} {E:Value→Shared→Prop} {Q:Unit→Shared→Prop} {n:Nat} (I:Inv X pins σ H s) (Ha:H a=some (xo f a C dx))
  (hf:jH n a H s.heap) (hT:∀T,n≤T→X.s₀.heap.objs.size≤T∧T≠X.env.locals∧(∀x c,X.env.cells.lookup x=some c→c≠T)∧∀q∈X.pn++pins,q.1≠T)
  (k:∀h',Inv X pins σ H {s with heap:=h'}→jH n a H h'→Q () {s with heap:=h'}):wpAny M A (setFlight (.ref a) none) Q E s:=by
 obtain⟨o,vs,T,oT,ts,q1,q2,q3,q4,q5,q6,q7,q8,q9⟩:=hf
 have sz:3<ts.size:=(Array.getElem?_eq_some_iff.mp q9).1
 unfold setFlight
 refine wpAny_bind (wpAny_field q1 q2 q3 ?_)
 rw[if_pos (by simp)]
 refine wpAny_setField q7 q8 sz ?_
 have oth:∀b,b≠T→(s.heap.update T (Obj.mapFields (·.setIfInBounds 3 ((none:Option Addr).elim Value.none fun f=>rawInt f)))).get? b=s.heap.get? b:=fun b nb=>Heap.get?_update_other _ _ (Ne.symm nb)
 refine k _ (I.turned (it:=T) (t':=s.toks) (fun b o ne e=>(oth b ne).trans e) q6 (hT T q5).2.1 (.inr (hT T q5).1) (hT T q5).2.2.1 (hT T q5).2.2.2) ?_
 exact⟨o,vs,T,_,_,(oth a (Ne.symm q4)).trans q1,q2,q3,q4,q5,q6,Heap.get?_update_self _ q7 (Obj.isFreed_of_fields (Obj.data_mapFields q8 _)),Obj.data_mapFields q8 _,by simp[sz]⟩
end
def cy (P:Program) (w:World):mS:=fun outer H s E e s'=>∃a C dx H',e=.ref a∧s'.os=s.os∧AllBare s'.gens∧Un (frs outer) [] H H' s.heap s'.heap∧du P w H' s'.heap∧
 H' a=some (xo false a C dx)∧jH s.heap.objs.size a H' s'.heap∧E (.ref a) dx H'
section
variable {P:Program} {w:World} {K:PySem.W.Frag} {mg:Str→Option Value} {base:Heap} {N:List Str} {qual:Str} {scope:Scope} {fa:Addr} {cd:Value} {A:Around} {outer:List Env} {s₀:Shared} {H₀:Hp} {E:XK}
theorem uT {pins:List (Addr×Obj)} {σ:St} {H:Hp} {s:Shared} {f:Bool} {a C:Addr} {dx:Option Addr} (I:Inv (gg (cy P w) P w K mg base N qual scope fa cd A outer s₀ H₀ E) pins σ H s) (Ha:H a=some (xo f a C dx))
  (hf:f=true∨∃n,jH n a H s.heap∧∀T,n≤T→s₀.heap.objs.size≤T∧T≠(gg (cy P w) P w K mg base N qual scope fa cd A outer s₀ H₀ E).env.locals∧
   (∀x c,(gg (cy P w) P w K mg base N qual scope fa cd A outer s₀ H₀ E).env.cells.lookup x=some c→c≠T)∧∀q∈(gg (cy P w) P w K mg base N qual scope fa cd A outer s₀ H₀ E).pn++pins,q.1≠T)
  (hE:E (.ref a) dx (upd H a (xo false a C dx))):(gg (cy P w) P w K mg base N qual scope fa cd A outer s₀ H₀ E).xe (.ref a) s:=by
 show wpAny _ _ (leaving _ _) _ _ s
 unfold leaving
 refine wpAny_bind (rV I rfl ⟨rfl,rfl⟩ Ha hf fun h' I' fl=>?_)
 exact⟨a,C,dx,_,rfl,I'.os,I'.bare,I'.base,I'.hok,af,fl.mono I.sz,hE⟩
def Raises (X:Cx) (E:XK):Prop:=∀(pins:List (Addr×Obj)) (σ:St) (H:Hp) (s:Shared) (a C:Addr) (dx:Option Addr),Inv X pins σ H s→H a=some (xo true a C dx)→E (.ref a) dx (upd H a (xo false a C dx))→X.xe (.ref a) s
theorem eO:Raises (gg (cy P w) P w K mg base N qual scope fa cd A outer s₀ H₀ E) E:=fun pins σ H s a C dx I Ha hE=>uT I Ha (.inl rfl) hE
theorem cy.after {X:Cx} {pins:List (Addr×Obj)} {σ:St} {H:Hp} {s s':Shared} {e:Value} {E':XK} (I:Inv X pins σ H s) (c:cy X.prog X.w X.stack H s E' e s'):
  ∃a C dx H',e=.ref a∧Inv X pins σ H' s'∧H' a=some (xo false a C dx)∧jH s.heap.objs.size a H' s'.heap∧E' (.ref a) dx H':=by
 obtain⟨a,C,dx,H',e,os,bare,un,hok,Ha,fl,hE⟩:=c
 exact⟨a,C,dx,H',e,I.call' (ch:=[]) os un hok bare (fun b z=>absurd z (by simp)),Ha,fl,hE⟩
theorem BB (hE:∀a C dx H,H a=some (xo false a C dx)→E (.ref a) dx H→E (.ref a) dx (upd H a (xo false a C dx))):Passes (cy P w) (gg (cy P w) P w K mg base N qual scope fa cd A outer s₀ H₀ E) E:=by
 intro pins σ H s e s' I c
 obtain⟨a,C,dx,H',rfl,I',Ha,fl,hE'⟩:=cy.after I c
 exact uT I' Ha (.inr ⟨_,fl,fun T hT=>by
  have:=I.beyond hT
  exact this⟩) (hE a C dx H' Ha hE')
end
end L2
namespace L2
open PySem PySem.Spec PyProof.Rows PySem.W PySem.Builtin PySem.Builtin.ObjectAttr
abbrev dm:List Value:=[.type "ValueError",.type "Exception",.type "BaseException",.type "object"]
structure XC (K:PySem.W.Frag) (C:Addr) (bm:List Value):Prop where
 obj:∃nm q N bs sn sub ab col dd k0 k1 k2 k3 k5,K.lookup C=some (excClassObj nm q C N bs bm true sn sub ab col dd k0 k1 k2 k3 k5 "ValueError.__new__")
 tl:tailIn K dm bm=true
 rf:∀self:Value,refuseLoop self "__setattr__" bm=pure ()
 ga:findIn K (.ref C) "__getattribute__"=some (some (.builtin "BaseException.__getattribute__"))
 gh:findIn K (.ref C) "__getattr__"=some none
 sa:findIn K (.ref C) "__setattr__"=some (some (.builtin "object.__setattr__"))
 cl:findIn K (.ref C) "__class__"=some (some (.builtin "object.__class__"))
 gt:specialIn K (.builtin "object.__class__") "__get__"=some (some (.builtin "getset_descriptor.__get__"))
 tk:takesIn K (.builtin "object.__class__")=some true
namespace XC
variable {K:PySem.W.Frag} {C:Addr} {bm:List Value}
theorem cls (c:XC K C bm):∃cd,clsIn K C=some cd∧cd.mro=.ref C::bm∧cd.hasDict=true:=by
 obtain⟨nm,q,N,bs,sn,sub,ab,col,dd,k0,k1,k2,k3,k5,e⟩:=c.obj
 unfold clsIn
 rw[e]
 exact⟨_,rfl,rfl,rfl⟩
theorem mro (c:XC K C bm) (v:Value):mroIn K C v=some ((Value.ref C::bm).contains v):=by
 obtain⟨cd,e,m,_⟩:=c.cls
 unfold mroIn
 rw[e,Option.bind_some,m]
 rfl
theorem tail (c:XC K C bm) {h:Heap} (X:K.In h):OwnTail h dm bm:=tail_of_in X c.tl
theorem has (c:XC K C bm) {h:Heap} (X:K.In h) {T:String} {b:Bool} (e:dm.contains (.type T)=b):mroIn K C (.type T)=some b:=by
 rw[c.mro,List.contains_cons,(c.tail X).hasType e]
 rfl
theorem hdict (c:XC K C bm):hasDictIn K C=true:=by
 obtain⟨cd,e,_,d⟩:=c.cls
 unfold hasDictIn
 rw[e]
 exact d
end XC
section
variable {prog:Program} {w:World} {A:Around} {E:Value→Shared→Prop} {s:Shared} {K:PySem.W.Frag} {x C D fI:Addr} {bm mY:List Value} {ox:Obj} {od:Option Obj} {name:Str} {v:Value}
theorem uU {r:Found} {fill expr:Bool} {tk:Tok} {Q:Value→Shared→Prop} (X:K.In s.heap) (c:XC K C bm) (I:InstAt s.heap x ox C od) (hf:findObj K C od name=some r)
  (h:match r with
   | .value u=>handedIn u=true∧Q u s
   | .bind g a=>wpAny (model prog w) A.in1 (call g [a,.ref x,.ref C]) (fun u s'=>wpAny (model prog w) A (handedOut u) Q E s') (fun _ _=>False) s
   | .missing=>False):wpAny (model prog w) A (getAttrBy (.ref x) (.str name tk) fill expr) Q E s:=by
 have G:=PySem.F.excAttr_ValueError.ga
 have L0:=I.type (M:=model prog w)
 have L1:=looks_findIn (M:=model prog w) X c.ga
 have L2:=looks_findIn (M:=model prog w) X c.gh
 have L3:=looks_find (M:=model prog w) X I hf
 have sub:Looks (model prog w) s.heap (isInstance (.ref x) (.type "BaseException")) true:=I.type.andThen (looks_mroIn X (c.has X (by decide+kernel)))
 unfold getAttrBy
 refine wpAny_holding (wpAny_bind (L0.here (wpAny_bind (L1.here ?_))))
 dsimp only
 have Q_:(Value.builtin "BaseException.__getattribute__" == Value.builtin "object.__getattribute__")=false:=by decide+kernel
 rw[Q_,Bool.and_false,if_neg Bool.false_ne_true]
 unfold getAttrByItsOwn
 refine wpAny_bind ?_
 show wpAny _ _ (typeLookup (.ref C) "__getattr__") _ _ _
 refine L2.here (wpAny_bind (wpAny_attempt (wpAny_holding ?_)))
 unfold callGetattribute boundAndCalled
 rw[if_neg (by cases expr<;>decide)]
 rw[G.bind]
 refine wpAny_bind (wpAny_pure (wpAny_call (codeAny_call_builtin G.plain PySem.F.entry_bexc_ga (@check_slot (model prog w) _ _ s "BaseException.__getattribute__" "BaseException" "__getattribute__" (.ref x) [.str name tk] [] _ (by decide+kernel) (by decide+kernel) sub (PySem.F.args_bexc_ga _ _) ?_))))
 unfold Builtin.«object.__getattribute__»
 refine wpAny_bind (wpAny_pure (wpAny_bind (wpAny_pure (wpAny_bind (L0.here (wpAny_bind (L3.here ?_)))))))
 cases r with
 | value u=>
  refine wpAny_pure ?_
  show wpAny _ _ (handedOut u) _ _ _
  exact handed_on h.1 h.2
 | bind g a=>
  show wpAny _ _ (bindTo g a (.ref x) (.ref C)) _ _ _
  unfold bindTo
  refine wpAny_bind (wpAny_holding (wpAny_mono h (fun u s' z=>wpAny_pure ?_) fun _ _ z=>z.elim))
  exact z
 | missing=>exact h.elim
theorem Kr {r:Found} {expr:Bool} {Q:Value→Shared→Prop} (X:K.In s.heap) (c:XC K C bm) (I:InstAt s.heap x ox C od) (hf:findObj K C od name=some r)
  (h:match r with
   | .value u=>handedIn u=true∧Q u {s with toks:=s.toks+1}
   | .bind g a=>wpAny (model prog w) A.in1 (call g [a,.ref x,.ref C]) (fun u s'=>wpAny (model prog w) A (handedOut u) Q E s') (fun _ _=>False) {s with toks:=s.toks+1}
   | .missing=>False):wpAny (model prog w) A (getAttr (.ref x) name expr) Q E s:=by
 unfold getAttr
 exact wpAny_bind (wpAny_mkText (uU (s:={s with toks:=s.toks+1}) X c I hf h))
theorem Ij {Q:Option Value→Shared→Prop} (X:K.In s.heap) (c:XC K C bm) (I:InstAt s.heap x ox C od) (h:Q (some (.ref C)) {s with toks:=s.toks+1}):wpAny (model prog w) A (getAttr? (.ref x) "__class__") Q E s:=by
 unfold getAttr? getAttrBy?
 refine wpAny_bind (wpAny_mkText (wpAny_bind (wpAny_attempt ?_)))
 have hf:findObj K C od "__class__"=some (.bind (.builtin "getset_descriptor.__get__") (.builtin "object.__class__")):=by
  obtain⟨cd,e,_⟩:=c.cls
  unfold findObj
  rw[e,Option.bind_some,c.cl,Option.bind_some]
  dsimp only
  rw[c.gt,Option.bind_some]
  dsimp only
  rw[c.tk,Option.bind_some]
 refine uU (s:={s with toks:=s.toks+1}) X c I hf ?_
 exact wpAny_call (class_get (s:={s with toks:=s.toks+1}) X I (c.has X (by decide+kernel)) (handed_on rfl (wpAny_pure h)))
theorem Dy (c:XC K C bm):KitX K (.ref x) (.ref C) (fun h=>∃ox od,InstAt h x ox C od) where
 ty:=fun _ _ _ ⟨_,_,I⟩=>I.type
 it:=fun _ _ X _=>by
  obtain⟨nm,q,N,bs,sn,sub,ab,col,dd,k0,k1,k2,k3,k5,e⟩:=c.obj
  intro A' Q' E' s' k q
  unfold isType loadHead
  exact wpAny_bind (wpAny_loadPart (k _ _ (X _ _ e)) (wpAny_pure q))
 ne:=fun h tp dd its n sl X htp=>by
  obtain⟨nm,q,N,bs,sn,sub,ab,col,dd,k0,k1,k2,k3,k5,e⟩:=c.obj
  refine Bool.eq_false_iff.mpr fun q=>?_
  have e':C=tp:=Value.ref.inj (beq_iff_eq.mp q)
  subst e'
  have z:=Option.some.inj ((X _ _ e).symm.trans htp)
  injection z with z1
  exact absurd (Value.type.inj z1) (by decide)
 ca:=fun X ⟨_,_,I⟩ k=>Ij X c I k
theorem Nw {vs:Array Value} {Q:Unit→Shared→Prop} (X:K.In s.heap) (c:XC K C bm) (hx:s.heap.get? x=some ox) (hc:ox.cls=.ref C) (hdn:ox.dict=none) (hd:ox.data=.fields vs) (ha:findIn K (.ref C) name=some none)
  (k:∀h' tk,(∀b o,b≠x→s.heap.get? b=some o→h'.get? b=some o)→h'.get? x=some {ox with dict:=some s.heap.objs.size}→h'.Ns1 s.heap.objs.size (fun y=>if y=name then some v else none)→Q () {s with heap:=h',toks:=tk}):
  wpAny (model prog w) A (setAttr (.ref x) name v) Q E s:=by
 obtain⟨oc,odi,oda,osl⟩:=ox
 obtain⟨hp,g,d,t,os⟩:=s
 dsimp only at X hx k
 dsimp only at hc hdn hd
 subst hc hdn hd
 have I:InstAt hp x ⟨.ref C,none,.fields vs,osl⟩ C none:=⟨hx,rfl,rfl,trivial⟩
 obtain⟨cd,hcd,hm,hdi⟩:=c.cls
 have SF:=PySem.F.store_object
 have LC:=looks_clsIn (M:=model prog w) X hcd
 have sub:Looks (model prog w) hp (isInstance (.ref x) (.type "object")) true:=I.type.andThen (looks_mroIn X (c.has X (by decide+kernel)))
 have LM:Looks (model prog w) hp (mroOf (.ref C)) (.ref C::bm):=hm▸LC.andThen .now
 refine set_plain X I c.sa ?_
 refine codeAny_call_builtin SF.slot.plain SF.entry (@check_slot (model prog w) _ _ ⟨hp,g,d,t+1,os⟩ "object.__setattr__" "object" "__setattr__" (.ref x) [.str name t,v] [] _ SF.kind SF.split sub (SF.args (.ref x) (.str name t) v) ?_)
 rw[osa_eq,refuse_eq]
 refine wpAny_bind (wpAny_bind (I.type.at (wpAny_bind (LM.at ?_))))
 rw[refuseLoop_ref,c.rf]
 refine wpAny_pure (wpAny_bind (I.type.at (wpAny_bind ((looks_findIn X ha).at (wpAny_bind (wpAny_pure ?_))))))
 dsimp only
 unfold storeInOwnDict ownDictForStores instanceDict
 refine wpAny_bind (wpAny_pure ?_)
 rw[if_neg (by simp)]
 refine wpAny_bind (wpAny_bind (wpAny_loadPart hx ?_))
 dsimp only
 refine wpAny_bind (LC.at ?_)
 rw[hdi]
 simp only[Bool.not_true,Bool.false_eq_true,if_false,typeHasDict,Bool.or_self]
 have xs:x≠hp.objs.size:=Nat.ne_of_lt (Heap.lt_size hx)
 have hx1:(hp.push {cls:=.type "dict",data:=.dict #[]}).get? x=some ⟨.ref C,none,.fields vs,osl⟩:=Heap.get?_push_of_some _ hx
 refine wpAny_bind (wpAny_alloc' ?_)
 refine wpAny_bind (wpAny_update' hx1 ?_)
 refine wpAny_pure ?_
 have gd:((hp.push {cls:=.type "dict",data:=.dict #[]}).update x fun o=>{cls:=o.cls,dict:=some hp.objs.size,data:=o.data,slots:=o.slots}).get? hp.objs.size=some {cls:=.type "dict",data:=.dict #[]}:=
  (Heap.get?_update_ne _ _ _ _ xs.symm).trans (Heap.get?_push_at rfl rfl)
 have nd:((hp.push {cls:=.type "dict",data:=.dict #[]}).update x fun o=>{cls:=o.cls,dict:=some hp.objs.size,data:=o.data,slots:=o.slots}).Ns hp.objs.size (fun _=>none):=
  ⟨_, #[],_,gd,rfl,fun e he=>absurd he (by simp),fun _=>rfl⟩
 show wpAny _ _ (storeInDict hp.objs.size (.str name t) name v) _ _ _
 unfold storeInDict newKeyGuard
 refine wpAny_bind (wpAny_pure (wpAny_bind (wpAny_nsSet1 (Heap.Ns1.of_empty nd) fun g' gn gs=>?_)))
 obtain⟨oD,eD,pD,qD,dD,cD⟩:=gn.count (Within.cons name v Within.nil)
 refine wpAny_bind (wpAny_lookBehind qD (by rw[dD];exact pastItsLine_dict (Nat.le_trans cD (by rw[List.length_cons,List.length_nil,sizeLine_eq];omega))) ?_)
 refine wpAny_pure ?_
 refine k g' _ (fun b o nb e=>?_) ?_ gn
 ·exact(gs.2 b (Nat.ne_of_lt (Heap.lt_size e))).trans ((Heap.get?_update_ne _ _ _ _ nb).trans (Heap.get?_push_of_some _ e))
 ·exact(gs.2 x xs).trans (Heap.get?_update_self _ hx1 rfl)
end
end L2
namespace L2
open PySem PySem.Spec PyProof.Rows PySem.W
section
variable {prog:Program} {w:World} {A:Around} {E:Value→Shared→Prop} {K:PySem.W.Frag} {x C D fI:Addr} {bm mY:List Value} {ox:Obj} {hp:Heap} {g:Array GenState} {d:Drawn} {t:Nat} {os:OsState}
theorem Kt {vs rest:List Value} {a0:Value} {Q:Value→Shared→Prop} {arr:Array Value} (X:K.In hp) (c:XC K C bm) (hx:hp.get? x=some ox) (hc:ox.cls=.ref C) (hd:ox.data=.fields arr) (h0:arr[0]? =some a0) (hr:rest.length≤sizeLine)
  (k:∀h',(∀b o,b≠x→hp.get? b=some o→h'.get? b=some o)→h'.get? x=some (ox.mapFields (·.setIfInBounds 0 (.ref hp.objs.size)))→Q .none ⟨h',g,d,t,os⟩):
  wpAny (model prog w) A (call (.builtin "ValueError.__init__") (.ref x::rest)) Q E ⟨hp,g,d,t,os⟩:=by
 have G:=PySem.F.excBase_ValueError
 obtain⟨nm,q,N,bs,sn,sub,ab,col,dd,k0,k1,k2,k3,k5,e⟩:=c.obj
 refine wpAny_call (codeAny_call_builtin G.init.plain G.initEntry (wpAny_check_init_subT G (c.tail X) (X _ _ e) hx hc ?_))
 have hx1:=Heap.get?_push_of_some (h:=hp) {cls:=.type "tuple",data:=.seq rest.toArray} hx
 have sz:0<arr.size:=(Array.getElem?_eq_some_iff.mp h0).1
 unfold Builtin.«BaseException.__init__» Builtin.BaseException.bexcPut
 repeat (any_goals (first | assumption | with_reducible refine wpAny_field hx1 hd h0 ?_ | with_reducible refine wpAny_setField hx1 hd sz ?_ | wp_step))
 have fin:Q .none ⟨(hp.push {cls:=.type "tuple",data:=.seq rest.toArray}).update x (Obj.mapFields (·.setIfInBounds 0 (.ref hp.objs.size))),g,d,t,os⟩:=by
  refine k _ (fun b o nb q=>?_) (Heap.get?_update_self _ hx1 (Obj.isFreed_of_fields (Obj.data_mapFields hd _)))
  rw[Heap.get?_update_other _ _ (Ne.symm nb)]
  exact Heap.get?_push_of_some _ q
 cases a0<;>(dsimp only;repeat (any_goals (first | assumption | wp_step)))
theorem Dz {rest:List Value} {Q:Fin→Shared→Prop} (X:K.In hp) (c:XC K C bm) (hi:findIn K (.ref C) "__init__"=some (some (.ref fI))) (hf:isFn K (.ref fI)=true) (hr:rest.length≤sizeLine)
  (k:wpAny (model prog w) A (call (.ref fI) (.ref (hp.objs.size+1)::rest)) (fun r s'=>r=.none∧Q (.done (.ret (.ref (hp.objs.size+1)))) s') E
   ⟨(hp.push {cls:=.type "tuple",data:=.seq rest.toArray}).push {cls:=.ref C,data:=.fields #[.ref hp.objs.size,.none,.none,.none,.bool false,.none]},g,d,t,os⟩):
  wpAny (model prog w) A (Builtin.«type.__call__» ⟨.ref C::rest,[]⟩) Q E ⟨hp,g,d,t,os⟩:=by
 have G:=PySem.F.excBase_ValueError
 obtain⟨nm,q,N,bs,sn,sub,ab,col,dd,k0,k1,k2,k3,k5,e⟩:=c.obj
 have oC:=X _ _ e
 have kp:∀b o,hp.get? b=some o→((hp.push {cls:=.type "tuple",data:=.seq rest.toArray}).push {cls:=.ref C,data:=.fields #[.ref hp.objs.size,.none,.none,.none,.bool false,.none]}).get? b=some o:=
  fun b o q=>Heap.get?_push_of_some _ (Heap.get?_push_of_some _ q)
 have X1:=X.keeps kp
 have o1:=kp _ _ oC
 have oe:((hp.push {cls:=.type "tuple",data:=.seq rest.toArray}).push {cls:=.ref C,data:=.fields #[.ref hp.objs.size,.none,.none,.none,.bool false,.none]}).get? (hp.objs.size+1)=
  some {cls:=.ref C,data:=.fields #[.ref hp.objs.size,.none,.none,.none,.bool false,.none]}:=by heap_get
 have self:(Value.ref C::bm).contains (.ref C)=true:=by simp
 repeat (first | with_reducible refine wpAny_loadPart_at oC ?_ | with_reducible refine wpAny_madeBy_exc oC ?_ | wp_step)
 refine codeAny_call_builtin_code (Code.quiet_builtin _ G.quiet) (wpAny_check_new_subT G (c.tail X) oC (codeAny_exc_new_subT G (c.tail X) oC ?_ hr))
 show wpAny _ _ _ _ _ _
 unfold isInstance
 repeat (first | with_reducible refine wpAny_loadPart_at oe ?_ | (with_reducible refine wpAny_isSubtype_exc o1 ?_;rw[self]) | wp_step)
 show wpAny _ _ (typeLookup (.ref C) _) _ _ _
 refine(looks_findIn X1 hi).at (wpAny_holding (wpAny_bind ?_))
 unfold bindSpecial
 refine wpAny_bind ((looks_typeIn X1 (beq_iff_eq.mp hf)).at ?_)
 rw[if_pos (by decide)]
 refine wpAny_pure (wpAny_bind (wpAny_mono k (fun r s' z=>?_) fun _ _ z=>z))
 obtain⟨rfl,z⟩:=z
 wp_walk
 exact z
theorem Ku {rest:List Value} {Q:Value→Shared→Prop} (X:K.In hp) (c:XC K C bm) (hi:findIn K (.ref C) "__init__"=some (some (.ref fI))) (hf:isFn K (.ref fI)=true) (hr:rest.length≤sizeLine)
  (k:wpAny (model prog w) (A.under (.builtin "type.__call__" ⟨.ref C::rest,[]⟩)) (call (.ref fI) (.ref (hp.objs.size+1)::rest)) (fun r s'=>r=.none∧Q (.ref (hp.objs.size+1)) s') E
   ⟨(hp.push {cls:=.type "tuple",data:=.seq rest.toArray}).push {cls:=.ref C,data:=.fields #[.ref hp.objs.size,.none,.none,.none,.bool false,.none]},g,d,t,os⟩):
  wpAny (model prog w) A (call (.ref C) rest) Q E ⟨hp,g,d,t,os⟩:=by
 obtain⟨nm,q,N,bs,sn,sub,ab,col,dd,k0,k1,k2,k3,k5,e⟩:=c.obj
 have oC:=X _ _ e
 have u1:=tc_lookup
 have u2:=tc_bind (.ref C)
 have u3:(⟨hp,g,d,t,os⟩:Shared).TypeIs (.ref C) "type":=⟨_,oC,rfl⟩
 refine wpAny_call (codeAny_of_tree ?_)
 show wpAny _ _ (callAny (.ref C) ⟨rest,[]⟩) _ _ _
 repeat (any_goals (first | assumption | with_reducible refine wpAny_loadPart_at oC ?_ | wp_step))
 refine⟨rfl,?_⟩
 exact codeAny_call_builtin_at (Code.quiet_builtin _ (by decide+kernel)) entry_typeCall (wpAny_check_type_call_sub oC (Dz X c hi hf hr k))
theorem Ik {env:Env} {s:Shared} {y:Sem Value} {Q:Flow→Shared→Prop} (hh:A.handled=none)
  (k:wpAny (model prog w) A y (fun v s₁=>∃e oe vs,v=.ref e∧K.In s₁.heap∧XC K C bm∧s₁.heap.get? e=some oe∧oe.cls=.ref C∧oe.data=.fields vs∧vs[1]? =some .none∧E (.ref e) s₁) E s):
  wpAny (model prog w) A (raiseStmt env (some y) none) Q E s:=by
 unfold raiseStmt
 refine wpAny_bind (wpAny_mono k (fun v s₁ z=>?_) fun _ _ z=>z)
 obtain⟨e,oe,vs,rfl,X,c,he,hc,hd,h1,hE⟩:=z
 obtain⟨hp,g,d,tk,os⟩:=s₁
 obtain⟨nm,q,N,bs,sn,sub,ab,col,dd,k0,k1,k2,k3,k5,lk⟩:=c.obj
 have oC:=X _ _ lk
 obtain⟨oc,odi,oda,osl⟩:=oe
 dsimp only at hc hd
 subst hc hd
 have cB:(Value.ref C::bm).contains (.type "BaseException")=true:=by rw[List.contains_cons,(c.tail X).hasType (b:=true) (by decide+kernel),Bool.or_true]
 repeat (first | with_reducible refine wpAny_loadPart_at he ?_ | with_reducible refine wpAny_loadPart_at oC ?_ | (with_reducible refine wpAny_isSubtype_exc oC ?_;rw[cB]) | with_reducible refine wpAny_field he rfl h1 ?_ | wp_step)
 exact wpAny_raiseNew_none hh hE
theorem BD {Q:Bool→Shared→Prop} {e:Addr} {oe:Obj} (X:K.In hp) (c:XC K C bm) (cD:XC K D mY) (he:hp.get? e=some oe) (hc:oe.cls=.ref C) (hq:Q ((Value.ref C::bm).contains (.ref D)) ⟨hp,g,d,t,os⟩):
  wpAny (model prog w) A (excMatches (.ref e) (.ref D)) Q E ⟨hp,g,d,t,os⟩:=by
 obtain⟨nm,q,N,bs,sn,sub,ab,col,dd,k0,k1,k2,k3,k5,lk⟩:=c.obj
 obtain⟨nm',q',N',bs',Va,sub',Vb,col',rF,Vc,k1',k2',Vd,Ve,LX⟩:=cD.obj
 have oC:=X _ _ lk
 have oD:=X _ _ LX
 have dB:(Value.ref D::mY).contains (.type "BaseException")=true:=by rw[List.contains_cons,(cD.tail X).hasType (b:=true) (by decide+kernel),Bool.or_true]
 have nt:=tc_notTuple
 unfold excMatches
 repeat (first | (with_reducible refine wpAny_loadPart_at he ?_;rw[hc]) | with_reducible refine wpAny_loadPart_at oD ?_ | (with_reducible refine wpAny_isSubtype_exc oD ?_;rw[dB]) | with_reducible refine wpAny_isSubtype_exc oC ?_ | wp_step)
 cases hb:(Value.ref C::bm).contains (.ref D)<;>(rw[hb] at hq;wp_walk;exact hq)
end
end L2
namespace L2
open PySem PySem.Spec PyProof.Rows
def nsO (o:Obj):Bool:=match o with
 | ⟨_,_,.dict es _,_⟩=>es.all fun e=>match e.key with | .str _ _=>true | _=>false
 | _=>false
theorem FX {K:PySem.W.Frag} {N:Addr} {o:Obj} (l:K.lookup N=some o) (h:nsO o=true):PySem.W.nsOkIn K N=true:=by
 unfold PySem.W.nsOkIn
 rw[l]
 obtain⟨oc,od,da,sl⟩:=o
 cases da<;>first | exact h | cases h
theorem ED {K:PySem.W.Frag}:PySem.W.tailIn K dm dm=true:=by
 unfold PySem.W.tailIn
 simp
theorem Kv {K:PySem.W.Frag} {D N:Addr} {oc:Value} {od:Option Addr} {cd:ClassData} {sl:Array (Option Value)} (l:K.lookup D=some ⟨oc,od,.cls cd,sl⟩) (e:cd.ns=N) (ok:PySem.W.nsOkIn K N=true) (ni:PySem.W.nsIn K N "__init__"=some none):
  PySem.W.tailIn K dm (.ref D::dm)=true:=by
 unfold PySem.W.tailIn
 dsimp only
 rw[l]
 dsimp only
 rw[e,ok,ni,ED]
 simp
theorem yn (self:Value):refuseLoop self "__setattr__" dm=pure ():=PySem.F.store_ValueError.passes self
theorem nQ {D:Addr} (self:Value):refuseLoop self "__setattr__" (.ref D::dm)=pure ():=by rw[refuseLoop_ref];exact yn self
structure XM (K:PySem.W.Frag) (C fI:Addr):Prop where
 init:PySem.W.findIn K (.ref C) "__init__"=some (some (.ref fI))
 fn:PySem.W.isFn K (.ref fI)=true
 kp:PySem.W.keepIn K (.ref C)=true
structure XI (K:PySem.W.Frag) (D:Addr):Prop where
 ga:PySem.W.specialIn K (.ref D) "__getattribute__"=some (some (.builtin "type.__getattribute__"))
 rd:PySem.W.readsIn K D (.type "type")=true
 fi:PySem.W.findCls K (.ref D) (.type "type") "__init__"=some (.val (.builtin "ValueError.__init__"))
section
variable {X:Cx} {pins:List (Addr×Obj)} {σ:St} {H:Hp} {s:Shared} {a C D dx:Addr} {bm mY:List Value} {f:Bool} {od:Option Addr}
theorem iX.inst {h:Heap} (x:iX f a C none h):∃ox,PySem.W.InstAt h a ox C none:=by
 obtain⟨o,vs,e1,e2,e3,e4,_⟩:=x
 refine⟨o,e1,e2,?_,?_⟩
 ·unfold PySem.W.notCls;rw[e4]
 ·rw[e3];trivial
theorem Inv.Kw (I:Inv X pins σ H s) (Ha:H a=some (xo f a C od)) (hd:∀dx,od=some dx→∃fs,H dx=some (.xd fs)):∃ox od',PySem.W.InstAt s.heap a ox C od':=by
 cases od with
 | none=>
  obtain⟨ox,J⟩:=(I.kR Ha).inst
  exact⟨ox,none,J⟩
 | some dx=>
  obtain⟨fs,Hd⟩:=hd dx rfl
  obtain⟨mA,n,_⟩:=(show bV X.prog X.w H s.heap dx (.xd fs) from I.hok dx _ Hd)
  obtain⟨o',ho,_⟩:=rg n
  obtain⟨o,vs,e1,e2,e3,e4,_⟩:=I.kR Ha
  refine⟨o,some o',e1,e2,?_,?_⟩
  ·unfold PySem.W.notCls;rw[e4]
  ·rw[e3];exact ho
end
def LY (K:PySem.W.Frag) (ta:TE) (n:Str):TE:=fun σ H Q=>ta σ H fun x H1=>∃(a C dx:Addr) (bm:List Value) (f:Bool) (fs:List (Str×V)) (v:V),x=.ref a∧H1 a=some (xo f a C (some dx))∧H1 dx=some (.xd fs)∧XC K C bm∧
 PySem.W.findIn K (.ref C) n=some none∧fs.lookup n=some v∧Q v H1
section
variable {X:Cx} {e:Expr} {n:Str} {pos:Pos} {ta:TE}
theorem Kx (he:PE X e ta) (hb:attributeBase e n X.env (eval e X.env)=eval e X.env):PE X (.Attribute e n pos) (LY X.K ta n):=by
 intro pins s σ H Q I h
 refine FH hb (aG (he pins s σ H _ I h) fun u s1 ⟨x,H1,I1,rx,a,C,dx,bm,f,fs,v,ex,Ha,Hd,c,hn,l,q⟩=>?_)
 subst ex
 obtain rfl:u=Value.ref a:=rx
 obtain⟨mA,ns,r⟩:=(show bV X.prog X.w H1 s1.heap dx (.xd fs) from I1.hok dx _ Hd)
 obtain⟨o',ho,hl⟩:=rg ns
 obtain⟨o,vs,e1,e2,e3,e4,_⟩:=I1.kR Ha
 have J:PySem.W.InstAt s1.heap a o C (some o'):=⟨e1,e2,by unfold PySem.W.notCls;rw[e4],by rw[e3];exact ho⟩
 have rn:=r n
 rw[l] at rn
 cases em:mA n with
 | none=>rw[em] at rn;exact(show False from rn).elim
 | some u=>
  rw[em] at rn
  exact Kr I1.gi c J (PySem.W.findObj_own c.hdict hn rfl (by rw[hl,em])) ⟨A6 rn,⟨v,H1,I1.tok _,rn,q⟩⟩
end
def kh:V→Value
 | .ref D=>.ref D
 | .ty T=>.type T
 | _=>.none
def Il (K:PySem.W.Frag):List V→Hp→VK→Prop:=fun xs H Q=>∃(a C:Addr) (od:Option Addr) (bm:List Value) (f b:Bool) (cv:V),xs=[.ref a,cv]∧H a=some (xo f a C od)∧(∀dx,od=some dx→∃fs,H dx=some (.xd fs))∧XC K C bm∧
 PySem.W.kitOne K (.ref C) (kh cv)=some b∧Q (.bl b) H
theorem DA {X:Cx}:cZ X (.builtin "isinstance") (Il X.K):=by
 intro pins s σ H xs us Q I r h
 obtain⟨a,C,od,bm,f,b,cv,rfl,Ha,hd,c,e,q⟩:=h
 obtain⟨u,w',rfl,ru,mC⟩:=vals2 r
 cases(show u=Value.ref a from ru)
 obtain⟨ox,od',J⟩:=I.Kw Ha hd
 have ew:w'=kh cv:=by
  cases cv with
  | ref D=>exact mC
  | ty T=>exact mC
  | non=>exact absurd e (by simp[kh,PySem.W.kitOne,PySem.W.kitCls])
  | bl _=>exact absurd e (by simp[kh,PySem.W.kitOne,PySem.W.kitCls])
  | int _=>exact absurd e (by simp[kh,PySem.W.kitOne,PySem.W.kitCls])
  | str _=>exact absurd e (by simp[kh,PySem.W.kitOne,PySem.W.kitCls])
  | iK _=>exact absurd e (by simp[kh,PySem.W.kitOne,PySem.W.kitCls])
  | flt _=>exact absurd e (by simp[kh,PySem.W.kitOne,PySem.W.kitCls])
 subst ew
 exact PySem.W.kia_one (Dy c) I.gi ⟨ox,od',J⟩ e (fun z=>nomatch z) fun tk=>⟨.bl b,H,I.tok tk,rfl,q⟩
theorem Im {K:PySem.W.Frag} {C:Addr} {bm:List Value} (c:XC K C bm) (v:Value):PySem.W.subIn K (.ref C) v=some ((Value.ref C::bm).contains v):=by
 have e:=c.mro v
 unfold PySem.W.subIn
 exact e
theorem FY {K:PySem.W.Frag} {C D:Addr} {bm mY:List Value} (c:XC K C bm) (cD:XC K D mY):PySem.W.kitOne K (.ref C) (.ref D)=some ((Value.ref C::bm).contains (.ref D)):=by
 unfold PySem.W.kitOne
 by_cases z:(Value.ref C == Value.ref D)=true
 ·rw[if_pos z,beq_iff_eq.mp z]
  simp
 ·rw[if_neg z]
  obtain⟨nm,q,N,bs,sn,sub,ab,col,dd,k0,k1,k2,k3,k5,e⟩:=cD.obj
  obtain⟨cd,h1,_⟩:=cD.cls
  have h2:PySem.W.typeIn K (.ref D)=some (.type "type"):=by
   show Option.map (fun o:Obj=>o.cls) (K.lookup D)=_
   rw[e]
   rfl
  show(if((PySem.W.clsIn K D).isSome&&PySem.W.typeIn K (.ref D) == some (.type "type"))=true then PySem.W.subIn K (.ref C) (.ref D) else none)=_
  rw[h1,h2,if_pos (by simp)]
  exact Im c _
theorem BE {K:PySem.W.Frag} {C:Addr} {bm:List Value} {h:Heap} (X:K.In h) (c:XC K C bm):PySem.W.kitOne K (.ref C) (.type "ValueError")=some true:=by
 unfold PySem.W.kitOne
 rw[if_neg (by simp)]
 unfold PySem.W.kitCls
 dsimp only
 rw[if_pos (by decide+kernel),Im c,List.contains_cons,(c.tail X).hasType (b:=true) (by decide+kernel),Bool.or_true]
theorem rX:∀{ns:List Int},(∀n∈ns,n=0∨n=1)→PyData.showableAll (ns.map PyData.int)=true∧PyData.hasDictAll (ns.map PyData.int)=false∧PyData.depthAll (ns.map PyData.int)=0∧
  ((PyData.shownAll (ns.map PyData.int)).map (·.length)).sum=ns.length∧(PyData.shownAll (ns.map PyData.int)).length=ns.length
 | [],_=>by simp[PyData.showableAll,PyData.hasDictAll,PyData.depthAll,PyData.shownAll]
 | n::ns,h=>by
  obtain⟨h1,h2,h3,h4,h5⟩:=rX (ns:=ns) fun m hm=>h m (List.mem_cons_of_mem _ hm)
  have z:=h n List.mem_cons_self
  refine⟨?_,?_,?_,?_,?_⟩
  ·simp only[List.map_cons,PyData.showableAll,PyData.showable,h1,Bool.and_true]
   rcases z with rfl | rfl<;>decide
  ·simp only[List.map_cons,PyData.hasDictAll,PyData.hasDict,h2,Bool.or_false]
  ·simp only[List.map_cons,PyData.depthAll,PyData.depth,h3,Nat.max_self]
  ·simp only[List.map_cons,PyData.shownAll,List.sum_cons,h4,List.length_cons,PyData.shown]
   have e:(Str.ofString (toString n)).length=1:=by rcases z with rfl | rfl<;>decide
   rw[e]
   omega
  ·simp only[List.map_cons,PyData.shownAll,List.length_cons,h5]
theorem pL {h:Heap}:∀{ns:List Int} {us:List Value},Vals (ns.map V.int) us→ReadsAll h us (ns.map PyData.int) []
 | [],_,r=>by cases r;exact .nil
 | n::ns,_,r=>by
  cases r with
  | cons r1 rt=>
   obtain⟨t,rfl⟩:=r1
   exact .cons (.int n t) (pL rt)
def zA (K:PySem.W.Frag) (v:V) (H:Hp):Prop:=(∃y:Str,v=.str y∧y.length≤100000)∨∃(t:Addr) (ns:List Int),v=.ref t∧bP K H t (ns.map V.int)∧ns.length≤100000∧∀n∈ns,n=0∨n=1
def Nx (K:PySem.W.Frag) (te:TE):TE:=fun σ H Q=>te σ H fun v H1=>zA K v H1∧∀z,Q (.str z) H1
section
variable {X:Cx} {k:Nat} {e:Expr} {te:TE} {a b:Str} {j j':Nat} {p1 p2 p3 pos:Pos}
theorem Io {pins:List (Addr×Obj)} {σ:St} {H:Hp} {s:Shared} {v:V} {u:Value} {E:Value→Shared→Prop} {Q:Value→Shared→Prop} (hr:aO k X.A) (I:Inv X pins σ H s) (rv:RelV v u) (ok:zA X.K v H)
  (q:∀(y:Str) (t:Tok) (s':Shared),y.length≤400000→Inv X pins σ H s'→Q (.str y t) s'):wpAny (model X.prog X.w) X.A (formatField u Str.empty) Q E s:=by
 rcases ok with⟨y,rfl,hy⟩ | ⟨t,ns,rfl,sq,hl,hb⟩
 ·obtain⟨t,rfl⟩:=rv
  exact formatField_str (fun t' tk=>q y t' _ (by omega) (I.tok tk)) (by rw[sizeLine_eq];omega)
 ·cases(show u=Value.ref t from rv)
  obtain⟨its,r,⟨o,e1,e2,n,e3⟩,_⟩:=I.tuple sq
  obtain⟨h1,h2,h3,h4,h5⟩:=rX hb
  have rd:Reads s.heap (.ref t) (.tuple (ns.map PyData.int)) []:=.tuple e1 e2 e3 (pL (by simpa using r))
  have len:(PyData.shown (.tuple (ns.map PyData.int))).length≤400000:=by
   simp only[PyData.shown]
   refine Nat.le_trans (tupleText_len_le _) ?_
   rw[h4,h5]
   omega
  refine formatField_of_reads rd (by simp only[PyData.showable];exact h1) (fun z=>by simp only[PyData.hasDict,h2] at z;cases z) hr.gd (by simp only[PyData.depth,h3];have:=hr.units;omega) (fun _ _ z=>z) (fun h' u tk kp=>q _ u _ len (I.kept kp)) (Nat.le_trans len (by rw[sizeLine_eq];omega))
theorem FZ (he:PE X e te) (hr:aO k X.A) (ha:a.length≤1000) (hb:b.length≤1000):PE X (.JoinedStr [.Constant (.str a) j p1,.FormattedValue e (-1) none p2,.Constant (.str b) j' p3] pos) (Nx X.K te):=by
 intro pins s σ H Q I h
 refine JoinedStr_many ?_
 have z1:(Str.empty++a).length=a.length:=by rw[strLen_append];show 0+a.length=a.length;omega
 refine joinParts_cons (Calls.Constant_str ⟨by rw[z1,sizeLine_eq];omega,?_⟩)
 refine joinParts_cons (FormattedValue_plain (aG (he pins _ σ H _ (I.tok _) h) fun u s1 ⟨v,H1,I1,rv,ok,q⟩=>?_))
 refine Io hr I1 rv ok fun y t s2 hy I2=>?_
 have z2:(Str.empty++a++y).length=a.length+y.length:=by rw[strLen_append,z1]
 refine⟨by rw[z2,sizeLine_eq];omega,?_⟩
 have z3:(Str.empty++a++y++b).length=a.length+y.length+b.length:=by rw[strLen_append,z2]
 exact joinParts_cons (Calls.Constant_str ⟨by rw[z3,sizeLine_eq];omega,joinParts_nil ⟨.str _,H1,(I2.tok _).tok _,⟨_,rfl⟩,q _⟩ (by rw[z3,sizeLine_eq];omega)⟩)
end
def Q0 (K:PySem.W.Frag) (t:TA):TE:=fun σ H Q=>t σ H fun vs H1=>∃(a C:Addr) (od:Option Addr) (bm:List Value) (rest:List V),vs=.ref a::rest∧rest.length≤1000∧H1 a=some (xo true a C od)∧XC K C bm∧Q .non H1
section
variable {X:Cx} {D:Addr} {x:Str} {p pos apos:Pos} {e:Expr} {es:List Expr} {t:TA}
theorem Inv.Ip {pins:List (Addr×Obj)} {σ:St} {H:Hp} {s:Shared} {h':Heap} {t':Nat} {a C C':Addr} {f f':Bool} {od od':Option Addr} (I:Inv X pins σ H s) (Ha:H a=some (xo f a C od)) (k:∀b o,b≠a→s.heap.get? b=some o→h'.get? b=some o) (new:iX f' a C' od' h'):
  Inv X pins σ (upd H a (xo f' a C' od')) {s with heap:=h',toks:=t'}:=
 I.write (x:=a) (e:=a) (o:=xo f' a C' od') (h':=h') (t':=t') (by rw[Ha];trivial) (.inl rfl) k (let ⟨o,_,e,_⟩:=new;⟨o,e⟩) (pK new)
theorem lN {H:Hp} {a:Addr} {o:HO} (Ha:H a=some o):upd H a o=H:=by
 funext b
 by_cases z:b=a
 ·subst z;rw[af,Ha]
 ·rw[aF z]
theorem EF {pl:Sem Bool} (cD:XI X.K D) (hg:Gl X x) (hm:X.mg x=some (.ref D)) (ha:PA X (e::es) t) (hdb:(x == ("__debug__":Str))=false:=by decide)
  (hst:starEach (e::es) X.env=(false,eval e X.env)::starEach es X.env:=by rfl) (hpl:(backTo pos (starEach es X.env)).any (·.1)=false:=by rfl)
  (ht:eval (.Call (.Attribute (.Name x p) "__init__" apos) (e::es) [] pos) X.env=(do
   let ov ←eval (.Name x p) X.env
   standAt apos.atName
   let (f,first) ←holding [ov] (getMethod ov "__init__" pl)
   callWith pos f first (backTo pos (starEach (e::es) X.env)) (backToKw pos (keywordEach [] X.env))):=by rfl):
  PE X (.Call (.Attribute (.Name x p) "__init__" apos) (e::es) [] pos) (Q0 X.K t):=by
 intro pins s σ H Q I h
 refine PySem.W.methodCall_KW (pl:=pl) (gM I hg hm ?_ hdb) ht
 refine PySem.W.method_cls I.gi cD.ga (PySem.W.cls_value I.gi cD.rd cD.fi rfl ?_)
 refine callWith_builtin1 (aG (ha pos pins _ σ H _ (I.tok _) h) fun us s1 ⟨vs,H1,I1,r1,a,C,od,bm,rest,ev,hl,Ha,c,q⟩=>?_) hst hpl
 subst ev
 obtain⟨u,us',eu,ru,rt⟩:∃u us',us=u::us'∧RelV (.ref a) u∧Vals rest us':=by
  cases r1 with
  | cons ru rt=>exact⟨_,_,rfl,ru,rt⟩
 subst eu
 ·cases(show u=Value.ref a from ru)
  obtain⟨o,vs',e1,e2,e3,e4,e5,e6⟩:=I1.kR Ha
  have e0:∃a0,vs'[0]? =some a0:=⟨vs'[0]'(by omega),by simp⟩
  obtain⟨a0,e0⟩:=e0
  have hl':us'.length≤1000:=by rw[←rt.length];exact hl
  obtain⟨hp,g,d,tk,os⟩:=s1
  refine Kt (vs:=[]) I1.gi c e1 e2 e4 e0 (by rw[sizeLine_eq];omega) fun h' k ex=>?_
  have new:iX true a C od h':=⟨_,_,ex,by rw[Obj.cls_mapFields];exact e2,by rw[←e3];cases o;rename_i dd sl;cases dd<;>rfl,Obj.data_mapFields e4 _,by simpa using e5,fun _=>by
   rw[Array.getElem?_setIfInBounds_ne (by decide)];exact e6 rfl⟩
  have I2:=I1.Ip (t':=tk) Ha k new
  rw[lN Ha] at I2
  exact⟨.non,H1,I2,rfl,q⟩
end
def Q1 (K:PySem.W.Frag) (ta tv:TE) (n:Str):TS:=fun D σ H=>tv σ H fun y H1=>ta σ H1 fun x H2=>∃(a C:Addr) (bm:List Value),x=.ref a∧H2 a=some (xo true a C none)∧XC K C bm∧PySem.W.findIn K (.ref C) n=some none∧
 ∀dx,H2 dx=none→dx≠a→D.nx σ (upd (upd H2 a (xo true a C (some dx))) dx (.xd [(n,y)]))
section
variable {X:Cx} {o value:Expr} {n:Str} {pos pos':Pos} {ta tv:TE}
theorem Ky (ha:PE X o ta) (hv:PE X value tv) (hs:swapsWith value (some (.Attribute o n pos')) pos.line X.env=pure false):PS X (.Assign [.Attribute o n pos'] value pos) (Q1 X.K ta tv n):=by
 intro pins s σ H D I h
 refine plainObj_wpAny_Assign_Attribute (aG (hv pins s σ H _ I h) fun u s1 ⟨y,H1,I1,ry,q⟩=>aG (ha pins s1 σ H1 _ I1 q) fun ov s2 ⟨x,H2,I2,rx,a,C,bm,ex,Ha,c,hn,k⟩=>?_) hs
 subst ex
 obtain rfl:ov=Value.ref a:=rx
 obtain⟨ob,vs,e1,e2,e3,e4,e5,e6⟩:=I2.kR Ha
 refine Nw I2.gi c e1 e2 e3 e4 hn fun h' tk kp ex ns=>?_
 have ne:s2.heap.objs.size≠a:=Nat.ne_of_gt (Heap.lt_size e1)
 have new:iX true a C (some s2.heap.objs.size) h':=⟨_,vs,ex,e2,rfl,e4,e5,e6⟩
 have fr:=I2.hok.fresh (Nat.le_refl s2.heap.objs.size)
 have nA:∀b,H2 b=none→b≠a:=fun b z w=>by rw[w,Ha] at z;cases z
 have nT:∀b u,H2 b=some u→b≠s2.heap.objs.size:=fun b u z w=>by rw[w,fr] at z;cases z
 have at_:∀b,b≠a→b≠s2.heap.objs.size→(upd (upd H2 a (xo true a C (some s2.heap.objs.size))) s2.heap.objs.size (.xd [(n,y)])) b=H2 b:=fun b w1 w2=>by rw[aF w2,aF w1]
 have xd:bV X.prog X.w (upd (upd H2 a (xo true a C (some s2.heap.objs.size))) s2.heap.objs.size (.xd [(n,y)])) h' s2.heap.objs.size (.xd [(n,y)]):=by
  refine⟨_,ns,fun m=>?_⟩
  by_cases z:m=n
  ·subst z
   rw[if_pos rfl]
   show ic (List.lookup m [(m,y)]) (some u)
   simp only[List.lookup,beq_self_eq_true]
   exact ry
  ·rw[if_neg z]
   show ic (List.lookup m [(n,y)]) none
   have zb:(m == n)=false:=beq_eq_false_iff_ne.mpr z
   simp only[List.lookup,zb]
   trivial
 refine⟨σ,_,I2.un (h':=h') (t':=tk) ⟨fun b o z w _ _=>kp b o (nA b w) z,fun b o z w _ _=>⟨o.slots,kp b o (nA b w) z⟩,fun b o z w _=>?_,fun b o z _=>?_,fun b xs z=>?_,fun b o u' z=>?_,fun b ps z=>?_⟩ fun b ob' z=>?_,k s2.heap.objs.size fr ne⟩
 ·rw[at_ b (nA b w) (Nat.ne_of_lt (Heap.lt_size z))];exact w
 ·by_cases w:b=a
  ·subst w;exact⟨_,ex⟩
  ·exact⟨o,kp b o w z⟩
 ·rw[at_ b (fun w=>by rw[w,Ha] at z;cases z) (nT b _ z)];exact z
 ·rw[at_ b (fun w=>by rw[w,Ha] at z;cases z) (nT b _ z)];exact z
 ·have w:b≠a:=fun w=>by rw[w,Ha] at z;cases z
  exact⟨#[],by rw[at_ b w (nT b _ z),z];simp⟩
 ·by_cases w:b=s2.heap.objs.size
  ·subst w
   rw[af] at z
   cases z
   exact xd
  ·rw[aF w] at z
   by_cases w1:b=a
   ·subst w1
    rw[af] at z
    cases z
    exact pK new
   ·rw[aF w1] at z
    refine(I2.hok b ob' z).stay (fun c v hc q=>?_) (fun c q=>?_) fun c xs q=>?_
    ·rcases hc with rfl | hc
     ·exact kp _ v w1 q
     ·exact kp c v (fun y=>by rw[y,Ha] at hc;cases hc) q
    ·rw[at_ c (fun y=>by rw[y,Ha] at q;cases q) (nT c _ q)];exact q
    ·rw[at_ c (fun y=>by rw[y,Ha] at q;cases q) (nT c _ q)];exact q
end
def Iq (C:Addr) (sp:Sp) (t:TA):TE:=fun σ H Q=>t σ H fun vs H1=>∀x,H1 x=none→sp (.ref x::vs) (upd H1 x (xo true x C none)) (fun v H2=>v=.non∧Q (.ref x) H2) E0
section
variable {X:Cx} {k:Nat} {C fI:Addr} {bm:List Value} {fd:FuncData} {ps:List Str} {sp:Sp} {x:Str} {p pos:Pos} {e:Expr} {es:List Expr} {t:TA}
theorem BF {pins:List (Addr×Obj)} {σ:St} {H:Hp} {s:Shared} {Q:VK} {us:List Value} {vs:List V} {E:Value→Shared→Prop} (c:XC X.K C bm) (M:XM X.K C fI) (F:bC X.prog X.w X.K X.mg X.base dE k fI fd ps sp) (hr:aO (k+1) X.A) (hb:Binds X.K fd ps [])
  (I:Inv X pins σ H s) (r:Vals vs us) (hl:us.length≤1000) (h:∀x,H x=none→sp (.ref x::vs) (upd H x (xo true x C none)) (fun v H2=>v=.non∧Q (.ref x) H2) E0):
  wpAny (model X.prog X.w) X.A (call (.ref C) us) (EP X pins σ Q) E s:=by
 obtain⟨hp,g,d,tk,os⟩:=s
 refine Ku I.gi c M.init M.fn (by rw[sizeLine_eq];omega) ?_
 have hq:=h (hp.objs.size+1) (I.hok.fresh (Nat.le_succ _))
 have kp:∀b o,hp.get? b=some o→((hp.push {cls:=.type "tuple",data:=.seq us.toArray}).push {cls:=.ref C,data:=.fields #[.ref hp.objs.size,.none,.none,.none,.bool false,.none]}).get? b=some o:=
  fun b o q=>Heap.get?_push_of_some _ (Heap.get?_push_of_some _ q)
 have oe:((hp.push {cls:=.type "tuple",data:=.seq us.toArray}).push {cls:=.ref C,data:=.fields #[.ref hp.objs.size,.none,.none,.none,.bool false,.none]}).get? (hp.objs.size+1)=
  some {cls:=.ref C,data:=.fields #[.ref hp.objs.size,.none,.none,.none,.bool false,.none]}:=by heap_get
 have I2:=I.laid (o:=xo true (hp.objs.size+1) C none) (t':=tk) kp (Nat.le_succ _) (pK ⟨_,_,oe,rfl,rfl,rfl,rfl,fun _=>rfl⟩)
 have r2:Vals (V.ref (hp.objs.size+1)::vs) (Value.ref (hp.objs.size+1)::us):=.cons rfl r
 have len:(Value.ref (hp.objs.size+1)::us++([]:List Value)).length=ps.length:=by
  have e:=r2.length
  rw[F.len _ _ _ _ hq] at e
  rw[List.append_nil]
  exact e.symm
 have b2:=hb _ (Value.ref (hp.objs.size+1)::us) I2.gi len
 rw[List.append_nil] at b2
 refine wpAny_call (codeAny_mono (F.run _ X.stack _ _ ⟨Value.ref (hp.objs.size+1)::us,[]⟩ _ _ _ E0 (hr.make C us []) (I2.env0.make C us []) b2 r2 hq) fun r s' hq'=>?_)
 cases r with
 | error e=>exact(show False from hq').elim
 | ok fl=>
  cases fl with
  | ret u=>
   obtain⟨v,H',I3,rv,ev,q3⟩:=I2.after hq'
   subst ev
   exact⟨rv,⟨V.ref (hp.objs.size+1),H',I3,rfl,q3⟩⟩
  | next=>exact False.elim hq'
  | brk=>exact False.elim hq'
  | cont=>exact False.elim hq'
theorem Kz (c:XC X.K C bm) (M:XM X.K C fI) (F:bC X.prog X.w X.K X.mg X.base dE k fI fd ps sp) (hr:aO (k+1) X.A) (hg:Gl X x) (hm:X.mg x=some (.ref C)) (hb:Binds X.K fd ps []) (hps:ps.length≤1000) (ha:PA X (e::es) t)
  (hdb:(x == ("__debug__":Str))=false:=by decide) (he:starEach (e::es) X.env=(false,eval e X.env)::starEach es X.env:=by rfl) (hpl:(backTo pos (starEach es X.env)).any (·.1)=false:=by rfl):
  PE X (.Call (.Name x p) (e::es) [] pos) (Iq C sp t):=by
 intro pins s σ H Q I h
 refine wpAny_Call_Name_kw (gM I hg hm ?_ hdb)
 refine PySem.W.callWith_K (h₀:=X.base) I.ok.mod.n_ M.kp (aG (ha pos pins s σ H _ I h) fun us s1 ⟨vs,H1,I1,r,q⟩=>⟨I1.gi,?_⟩) he hpl
 refine BF c M F hr hb I1 r ?_ q
 have e:=F.len _ _ _ _ (q (s1.heap.objs.size) (I1.hok.fresh (Nat.le_refl _)))
 show us.length≤1000
 rw[←r.length]
 have e':vs.length+1=ps.length:=e
 omega
theorem jI (c:XC X.K C bm) (M:XM X.K C fI) (F:bC X.prog X.w X.K X.mg X.base dE k fI fd ps sp) (hr:aO (k+1) X.A) (hg:Gl X x) (hm:X.mg x=some (.ref C)) (hb:Binds X.K fd ps [])
  (hdb:(x == ("__debug__":Str))=false:=by decide):PE X (.Call (.Name x p) [] [] pos) (Iq C sp qg):=by
 intro pins s σ H Q I h
 refine wpAny_Call_Name_kw (gM I hg hm ?_ hdb)
 exact PySem.W.callWith_K0 I.gi M.kp (BF (us:=[]) c M F hr hb I .nil (by simp) h)
def LZ (K:PySem.W.Frag) (C:Addr) (te:TE) (E:XK):TS:=fun _ σ H=>te σ H fun v H1=>∃a od,v=.ref a∧H1 a=some (xo true a C od)∧E (.ref a) od (upd H1 a (xo false a C od))
theorem jX {te:TE} {E:XK} (hh:X.A.handled=none) (c:XC X.K C bm) (R:Raises X E) (he:PE X e te):PS X (.Raise (some e) none pos) (LZ X.K C te E):=by
 intro pins s σ H D I h
 rw[arm_exec_Raise]
 have key:wpAny (model X.prog X.w) X.A (raiseStmt X.env (some (do let v ←eval e X.env;standAt pos;pure v)) none) (SP X pins D) X.xe s:=by
  refine Ik (K:=X.K) (C:=C) (bm:=bm) hh (wpAny_bind (aG (he pins s σ H _ I h) fun u s1 ⟨v,H1,I1,rv,a,od,ev,Ha,hE⟩=>wpAny_bind (wpAny_standAt (wpAny_pure ?_))))
  subst ev
  cases(show u=Value.ref a from rv)
  obtain⟨o,vs,e1,e2,e3,e4,e5,e6⟩:=I1.kR Ha
  exact⟨a,o,vs,rfl,I1.gi,c,e1,e2,e4,e6 rfl,R pins σ H1 s1 a C od I1 Ha hE⟩
 first
  | exact wpAny_bind (wpAny_standAt key)
  | (simp only[evalOpt,Option.map];exact wpAny_bind (wpAny_standAt key))
  | (show wpAny _ _ (do standAt pos;raiseStmt X.env (some (do let v ←eval e X.env;standAt pos;pure v)) none) _ _ s;exact wpAny_bind (wpAny_standAt key))
end
abbrev Cx.suite (X:Cx) (a:Addr):Cx:={X with A:=X.A.mark (some (.ref a)),calm:=false,xe:=fun _ _=>False}
section
variable {X:Cx} {pins:List (Addr×Obj)} {σ:St} {H:Hp} {s:Shared} {a:Addr}
theorem Inv.suite (I:Inv X pins σ H s) (a:Addr):Inv (X.suite a) pins σ H s:=
 ⟨⟨I.ok.mod,I.ok.kind,I.ok.glob,I.ok.blt,I.ok.above,I.ok.inj,I.ok.has,I.ok.cab,fun z=>(by cases z),I.ok.frames,I.ok.stk,I.ok.AU,I.ok.bs,I.ok.n5,I.ok.qf,I.ok.oF,I.ok.ie,I.ok.qW⟩,I.os,I.bare,I.base,I.loc,I.cell,I.free,I.fS,I.pin,I.hok,I.len⟩
theorem Inv.F_ (ok:X.Ok) (I:Inv (X.suite a) pins σ H s):Inv X pins σ H s:=⟨ok,I.os,I.bare,I.base,I.loc,I.cell,I.free,I.fS,I.pin,I.hok,I.len⟩
theorem Inv.gone {j:Nat} {n:Str} {v:Option Value} {h':Heap} {m:Str→Option Value} {t':Nat} (I:Inv X pins σ H s) (hN:X.N.Nodup) (hj:X.N[j]? =some n) (hn:s.heap.Ns X.env.locals m)
  (hl:∀(i:Nat) (x:Str) (v:V),X.N[i]? =some x→σ[i]? =some (some v)→xQ X.env.scope x→∃u,RelV v u∧Look X.env s.heap m x u)
  (h1:h'.Ns X.env.locals (fun x=>if x=n then v else m x)) (h2:Heap.SameBut X.env.locals s.heap h'):Inv X pins (σ.set j none) H {s with heap:=h',toks:=t'}:=by
 have xR:∀b o,X.s₀.heap.get? b=some o→b≠X.env.locals:=fun b o e=>Nat.ne_of_lt (Nat.lt_of_lt_of_le (Heap.lt_size e) I.ok.above)
 refine⟨I.ok,I.os,I.bare,⟨fun b o e z w y=>?_,fun b o e z w y=>?_,I.base.free,fun b o e y=>?_,I.base.tups,I.base.kc,I.base.lD⟩,⟨_,h1,fun i x u e1 e2 e3=>?_⟩,fun x c e=>?_,I.free,I.fS,fun p hp=>?_,fun b ob e=>?_,by rw[List.length_set];exact I.len⟩
 ·exact(h2.2 b (xR b o e)).trans (I.base.keep b o e z w y)
 ·obtain⟨sl,q⟩:=I.base.slot b o e z w y
  exact⟨sl,(h2.2 b (xR b o e)).trans q⟩
 ·obtain⟨o',q⟩:=I.base.there b o e y
  exact⟨o',(h2.2 b (xR b o e)).trans q⟩
 ·have ij:i≠j:=fun z=>by
   subst z
   rw[List.getElem?_set] at e2
   split at e2
   ·split at e2<;>cases e2
   ·rename_i w;exact w rfl
  rw[List.getElem?_set_ne (Ne.symm ij)] at e2
  obtain⟨y,ry,ly⟩:=hl i x u e1 e2 e3
  have xn:x≠n:=fun z=>ij (oG hN e1 (z▸hj))
  refine⟨y,ry,?_⟩
  rcases ly with⟨k,q⟩ | ⟨k,c,q,z⟩
  ·exact .inl ⟨k,by show(if x=n then v else m x)=some y;rw[if_neg xn];exact q⟩
  ·exact .inr ⟨k,c,q,z.sameBut h2 (I.oY x c q)⟩
 ·obtain⟨w,z⟩:=I.cell x c e
  exact⟨w,z.sameBut h2 (I.oY x c e)⟩
 ·obtain⟨e,q,ne,nf,dd⟩:=I.pin p hp
  exact⟨(h2.2 p.1 ne).trans e,q,ne,nf,dd⟩
 ·refine(I.hok b ob e).stay (fun c w' hc q=>(h2.2 c ?_).trans q) (fun _ q=>q) fun _ _ q=>q
  rintro rfl
  rcases hc with z | z
  ·rw[←z,I.free] at e;cases e
  ·rw[I.free] at z;cases z
end
theorem cV.uV {P:Program} {w:World} {K:PySem.W.Frag} {mg:Str→Option Value} {base:Heap} {x qual:Str} {st:Stmt} {f:Addr} {fd:FuncData} {N ps:List Str} {k:Nat} {sp:Sp} (F:cV K x qual st f fd) (S:bj N ps (aj st)) (len:∀vs H Q E,sp vs H Q E→vs.length=ps.length)
  (hbody:∀(cdv:Value) (A:Around) (outer:List Env) (s:Shared) (H:Hp) (vs:List V) (Q:VK) (E:XK),aO k (A.deeper (envOfC qual (aj st) s.heap.objs.size f cdv))→sp vs H Q E→
   ∃t,gL (gg (cy P w) P w K mg base N qual (aj st) f cdv A outer s H E) (aT st) t∧t {nx:=fun _ H'=>Q .non H',rt:=Q} (start N vs) H):bC P w K mg base (cy P w) (k+1) f fd ps sp:=by
 obtain⟨oc,od,kV,doc,pm,an,cdv,ct,osl,rfl,lk,hcd⟩:=F.ex
 exact En lk hcd S len fun A outer s H vs Q E hr hsp=>hbody cdv A outer s H vs Q E hr hsp
theorem Ir (x y:Str) (h:(!ltCps y.cps.toList x.cps.toList)=true):x.cps.toList≤y.cps.toList:=by
 rw[PyProof.Rows.ltCps_eq] at h
 exact List.not_lt.mp (by simpa using h)
theorem pM:∀(l:List Str) (p:Str),risingS p l=true→∀y∈l,p.cps.toList≤y.cps.toList
 | [],p,_,y,hy=>by cases hy
 | x::l,p,h,y,hy=>by
  have h':(!ltCps x.cps.toList p.cps.toList&&risingS x l)=true:=h
  rw[Bool.and_eq_true] at h'
  have h1:=Ir p x h'.1
  rcases List.mem_cons.mp hy with e | hy
  ·rw[e];exact h1
  ·exact List.le_trans h1 (pM l x h'.2 y hy)
theorem uW {x:Str} {l:List Str} (h:sortedS (x::l)=true):sortedS l=true:=by
 cases l with
 | nil=>rfl
 | cons y l=>
  have h':(!ltCps y.cps.toList x.cps.toList&&risingS y l)=true:=h
  rw[Bool.and_eq_true] at h'
  exact h'.2
theorem ft {x y:Str} (h:x.cps.toList=y.cps.toList):x=y:=by
 obtain⟨a⟩:=x
 obtain⟨b⟩:=y
 have:a=b:=Array.toList_inj.mp h
 rw[this]
theorem i8:∀{l:List Str},sortedS l=true→∀{i j:Nat} {x y:Str},i≤j→l[i]? =some x→l[j]? =some y→x.cps.toList≤y.cps.toList
 | [],_,i,j,x,y,_,e,_=>by simp at e
 | z::l,h,0,j,x,y,_,e1,e2=>by
  simp at e1
  subst e1
  cases j with
  | zero=>simp at e2;subst e2;exact List.le_refl _
  | succ j=>exact pM l z h y (List.mem_of_getElem? (by simpa using e2))
 | z::l,h,i+1,j,x,y,hij,e1,e2=>by
  obtain⟨j',rfl⟩:∃j',j=j'+1:=⟨j-1,by omega⟩
  exact i8 (uW h) (by omega:i≤j') (by simpa using e1) (by simpa using e2)
end L2
namespace HT
open PySem PySem.Spec PyProof.Rows
section
variable {prog:Program} {w:World} {A:Around} {E:Value→Shared→Prop} {s:Shared}
theorem mN {t sl:Addr} {items:Array Value} {vl vu:Value} {lo hi:Option Int} {Q:Value→Shared→Prop} (ht:IsTup s.heap t items) (hs:s.heap.IsSliceOf sl vl vu .none) (pl:IsPart vl lo) (pu:IsPart vu hi)
  (hw:aM items.size 0 lo=0∧aM items.size items.size hi=items.size) (h:Q (.ref t) s):wpAny (model prog w) A (getItem (.ref t) (.ref sl)) Q E s:=by
 obtain⟨os,hos,hcs,hds⟩:=id hs
 have hTs:s.TypeIs (.ref sl) "slice":=⟨os,hos,hcs⟩
 unfold getItem
 try with_reducible refine wpAny_holding ?_
 first | refine wpAny_bind (wpAny_pure ?_) | skip
 refine wpAny_bind (wpAny_sequenceKey ht.typeIs (by decide) ?_)
 refine wpAny_bind (wpAny_callSpecial?_slot (name:=Str.ofString "__getitem__") ht.typeIs PyProof.Rows.slot_tuple_getitem
  (wpAny_call_entry PyProof.Rows.slot_tuple_getitem ht.typeIs entry_tuple_getitem ?_ (args_tuple_getitem _ _)))
 show wpAny _ _ (Builtin.Tuple.tupleItemsOf (.ref t) >>= _) _ _ s
 refine wpAny_bind (tupleItemsOf_ ht ?_)
 refine wpAny_bind (wpAny_typeOf hTs ?_)
 rw[if_pos (by decide)]
 refine wpAny_bind (jw hs pl pu ?_)
 have hyes:(((aM items.size 0 lo:Nat):Int) == 0&&(1:Int) == 1&&(aM items.size items.size hi-aM items.size 0 lo) == items.size)=true:=by
  rw[hw.1,hw.2];simp
 show wpAny _ _ (if(((aM items.size 0 lo:Nat):Int) == 0&&(1:Int) == 1&&(aM items.size items.size hi-aM items.size 0 lo) == items.size)=true then _ else _) _ _ s
 rw[if_pos hyes]
 refine wpAny_bind ?_
 unfold Builtin.Tuple.tupleIsExact
 refine wpAny_bind (wpAny_typeOf ht.typeIs (wpAny_pure ?_))
 rw[if_pos (by decide)]
 exact wpAny_bind (wpAny_rule (wpAny_pure ⟨_,rfl,wpAny_pure h⟩))
end
end HT
namespace L2
open PySem PySem.Spec PyProof.Rows
section
variable {X:Cx}
def zB (K:PySem.W.Frag):V→Option Int→Option Int→Hp→VK→Prop:=fun x lo hi H Q=>∃a xs,x=.ref a∧bP K H a xs∧
 ((HT.aM xs.length 0 lo=0∧HT.aM xs.length xs.length hi=xs.length)→Q (.ref a) H)∧
 (¬(HT.aM xs.length 0 lo=0∧HT.aM xs.length xs.length hi=xs.length)→∀p,H p=none→Q (.ref p) (upd H p (.tup (fG xs lo hi))))
theorem yo (K:PySem.W.Frag) (hK:X.K=K:=by rfl):x5 X (zB K):=by
 subst hK
 intro pins s σ H x v vl vu lo hi sl Q I rx hs pl pu h
 obtain⟨a,xs,rfl,hx,hw,q⟩:=h
 by_cases c:HT.aM xs.length 0 lo=0∧HT.aM xs.length xs.length hi=xs.length
 ·cases rx
  obtain⟨its,r,ht,hz⟩:=I.tuple hx
  have hlen:its.toArray.size=xs.length:=by rw[List.size_toArray];exact r.length.symm
  refine⟨"tuple",_,PyProof.Rows.slot_tuple_getitem.lookup,ht.typeIs,?_⟩
  exact HT.mN ht hs pl pu (by rw[hlen];exact c) ⟨.ref a,H,I,rfl,hw c⟩
 ·exact Hk pins s σ H _ v vl vu lo hi sl Q I rx hs pl pu ⟨a,xs,rfl,hx,c,q c⟩
end
section
variable {X:Cx} {o e:Expr} {es:List Expr} {to ta:TE} {t:TA} {T:String} {name n:Str} {id:String} {apos cpos pos:Pos} {r:V→List V→Hp→VK→Prop}
theorem Iu (K:PySem.W.Frag) (he:PE X e ta) (hb:attributeBase e n X.env (eval e X.env)=eval e X.env) (hK:X.K=K:=by rfl):PE X (.Attribute e n pos) (LY K ta n):=by
 subst hK
 exact Kx he hb
theorem dG (K:PySem.W.Frag) (hK:X.K=K:=by rfl):cZ X (.builtin "isinstance") (Il K):=by
 subst hK
 exact DA
end
section
open Builtin
theorem oN:fillsNumberSlot (.type "tuple") "mul"=pure false:=
 PySem.fillsNumberSlot_seq (id:="tuple.__mul__") (r:=some (.builtin "tuple.__rmul__")) PySem.F.slot_tuple_mul.lookup (by decide+kernel) PySem.F.slot_tuple_rmul.lookup (by decide+kernel)
theorem uX:seqRepeat? (.type "tuple")=pure (some (.builtin "tuple.__mul__")):=by
 unfold seqRepeat?
 rw[PySem.seqSlot_of (T:="tuple") (name:="__mul__") (id:="tuple.__mul__") PySem.F.slot_tuple_mul.lookup (by decide+kernel),PySem.seqSlot_of (T:="tuple") (name:="__rmul__") (id:="tuple.__rmul__") PySem.F.slot_tuple_rmul.lookup (by decide+kernel)]
 rfl
theorem qt (a:Int) (t:Tok) (l:Addr) (items:Array Value) (n:Nat) (dd:Option Addr) (sl:Array (Option Value)):
  Meets (Builtin.«int.__rmul__» ⟨[.int a t,.ref l],[]⟩) (fun _ R s=>s.heap.get? l=some {cls:=.type "tuple",dict:=dd,data:=.seq items n,slots:=sl}∧R (.ok (.ret Value.notImplemented)) s):=
 .of_wp fun prog w A R s h=>by obtain⟨hp,g,d,tk,os⟩:=s;obtain⟨hl,h⟩:=h;wp_walk;exact⟨_,rfl,h⟩
theorem BG (l:Addr) (items:Array Value) (n:Nat) (dd:Option Addr) (sl:Array (Option Value)) (x:Int) (u:Tok) (hc0:¬(decide (x< -(2 ^ 63))||decide (x ≥ 2 ^ 63))=true) (hc1:¬(items.isEmpty||x == 1)=true) (hc2:¬(decide (x≤0)||items.isEmpty)=true)
  (hc3:¬((items.size:Int)*x>(2 ^ 63-1) / 8)) (hc4:¬Builtin.Tuple.tupleTooMany ((items.size:Int)*x)=true) (hc5:(List.foldl (fun x1 x2=>x1++x2) #[] (List.replicate x.toNat items)).size≤sizeLine):
  Meets (Builtin.«tuple.__mul__» ⟨[.ref l,.int x u],[]⟩) (fun _ R s=>s.heap.get? l=some {cls:=.type "tuple",dict:=dd,data:=.seq items n,slots:=sl}∧R (.ok (.ret (Value.ref s.heap.objs.size))) {s with heap:=s.heap.push {cls:=Value.type "tuple",data:=Data.seq (List.foldl (fun x1 x2=>x1++x2) #[] (List.replicate x.toNat items))},toks:=s.toks}):=
 .of_wp fun prog w A R s h=>by
  obtain⟨hp,g,d,tk,os⟩:=s;obtain⟨hl,h⟩:=h
  have f1:=AutoSeq1.idx_int
  have ht:IsTup hp l items:=⟨_,hl,rfl,n,rfl⟩
  wp_walk using wpAny_loadPart' hl
  rw[if_neg hc0]
  dsimp only
  refine wpAny_bind (tupleItemsOf_ ht ?_)
  rw[if_neg hc1]
  try dsimp only
  rw[if_neg hc2]
  try dsimp only
  rw[if_neg hc3]
  try dsimp only
  rw[if_neg hc4]
  try dsimp only
  first
   | exact wpAny_bind (m:=Builtin.Tuple.tupleExact _) (wpAny_newObj_type (wpAny_pure ⟨_,rfl,h⟩) hc5)
   | exact wpAny_bind (m:=Builtin.Tuple.tupleExact _) (wpAny_newObj_type (wpAny_pure h) hc5)
   | exact wpAny_bind (m:=Builtin.Tuple.tupleExact _) (wpAny_newObj_type (wpAny_bind (wpAny_pure (wpAny_pure ⟨_,rfl,h⟩))) hc5)
def KA (K:PySem.W.Frag):R2:=fun x y H Q=>∃(a:Addr) (xs:List V) (k:Nat),x=.ref a∧y=.int (k:Int)∧bP K H a xs∧xs≠[]∧2≤k∧xs.length*k≤100000∧∀p,H p=none→Q (.ref p) (upd H p (.tup (List.replicate k xs).flatten))
theorem uY {X:Cx} (K:PySem.W.Frag) (hK:X.K=K:=by rfl):bW X (binaryOp .Mult) (KA K):=by
 subst hK
 intro pins s σ H x y v u Q I rx ry h
 obtain⟨a,xs,k,rfl,rfl,ha,hx,hk,hz,q⟩:=h
 cases rx
 obtain⟨t,rfl⟩:=ry
 obtain⟨its,r,p1,_⟩:=I.tuple ha
 obtain⟨⟨cls,dd,data,sl⟩,ho,hc,n,hd⟩:=id p1
 simp only at hc hd
 subst hc hd
 have li:its.length=xs.length:=r.length.symm
 have lp:0<its.length:=by rw[li];exact List.length_pos_iff.mpr hx
 have mk:its.length*k≤100000:=by rw[li];exact hz
 have kk:k≤100000:=Nat.le_trans (Nat.le_mul_of_pos_left k lp) mk
 have e0:its.toArray.isEmpty=false:=by cases its with | nil=>simp at lp | cons _ _=>simp
 have e1:((its.toArray.size:Nat):Int)*(k:Int)=((its.length*k:Nat):Int):=by rw[List.size_toArray,Int.natCast_mul]
 have hnew:List.foldl (fun x1 x2=>x1++x2) #[] (List.replicate (k:Int).toNat its.toArray)=(List.replicate k its).flatten.toArray:=by
  have:=foldl_rep its k []
  rw[List.nil_append] at this
  rw[Int.toNat_natCast]
  exact this
 have lf:(List.replicate k its).flatten.length≤100000:=by rw[len_rep,Nat.mul_comm];exact mk
 have m0:¬(decide ((k:Int)< -(2 ^ 63))||decide ((k:Int) ≥ 2 ^ 63))=true:=by
  rw[decide_eq_false (by omega),decide_eq_false (by omega)];decide
 have m1:¬(its.toArray.isEmpty||(k:Int) == 1)=true:=by
  rw[e0,Bool.false_or]
  intro z
  have:=eq_of_beq z
  omega
 have m2:¬(decide ((k:Int)≤0)||its.toArray.isEmpty)=true:=by rw[e0,decide_eq_false (by omega)];decide
 have m3:¬(((its.toArray.size:Nat):Int)*(k:Int)>(2 ^ 63-1) / 8):=by rw[e1];omega
 have m4:¬Builtin.Tuple.tupleTooMany (((its.toArray.size:Nat):Int)*(k:Int))=true:=by
  rw[e1]
  simp[Builtin.Tuple.tupleTooMany,sizeLine]
  omega
 refine wpAny_binaryOp_repeat_ref (T:="tuple") (U:="int") (by decide) ⟨_,ho,rfl⟩ (fun s'=>typeIs_int s' _ t) oN PySem.F.fills_int_mul PySem.F.slot_int_rmul uX PySem.F.slot_int_index.lookup
  (call_meets PySem.F.slot_int_rmul (typeIs_int s _ t) PySem.F.entry_int_rmul (PySem.F.args_int_rmul_2 _ _) (qt _ t a its.toArray n dd sl)
   ⟨ho,rfl,⟨_,ho,rfl⟩,call_meets PySem.F.slot_tuple_mul ⟨_,ho,rfl⟩ PySem.F.entry_tuple_mul (PySem.F.args_tuple_mul_2 _ _) (BG a its.toArray n dd sl _ t m0 m1 m2 m3 m4 (by rw[hnew,List.size_toArray];exact Nat.le_trans lf (by decide))) ⟨ho,?_⟩⟩)
 rw[hnew]
 refine⟨.ref _,_,I.laid (t':=s.toks) (o:=.tup (List.replicate k xs).flatten) (fun b ob q=>Heap.get?_push_of_some _ q) (Nat.le_refl _) ?_,rfl,q _ (I.hok.fresh (Nat.le_refl _))⟩
 exact⟨⟨by rw[len_rep,Nat.mul_comm];exact Nat.le_trans hz (by decide),_,Heap.get?_push_size _ rfl,rfl⟩,_,r.rep k,IsTup.new _ _⟩
end
def Its (x:Str):It:=⟨fun i _=>i<x.cps.size,fun i H y H'=>H'=H∧∃c,x.cps[i]? =some c∧y=.str ⟨#[c]⟩,fun i _=>x.cps.size≤i⟩
theorem DB {P:Program} {w:World} {K:PySem.W.Frag} {tg:Expr} (it:Addr) (x:Str) (t:Tok):Turn P w K tg (Its x) [it] it (fun i h=>h.IsStrIter it "str_ascii_iterator" x t i) where
 mem:=by simp
 obj:=fun i h st b hb=>by
  have e:b=it:=by simpa using hb
  subst e
  obtain⟨o,e,c,d⟩:=st
  exact⟨o,e,fun v z=>by rw[d] at z;cases z⟩
 keep:=fun i h h' st k=>let ⟨o,ho,r⟩:=st;⟨o,k it (by simp) o ho,r⟩
 item:=by
  intro X hP hw hK hc i pins s σ H E I hf st hg
  subst hP hw hK
  obtain⟨f0,f1,f2,f3,f4,f5⟩:=hf it (by simp)
  have hg':i<x.cps.size:=hg
  refine wpAny_pyNext_ascii_item st (c:=x.cps[i]) (by simp[hg']) fun h' st' sb=>?_
  have I1:Inv X pins σ H {s with heap:=h',toks:=s.toks+1}:=I.turned (fun b o hb e=>(sb.2 b hb).trans e) f0 f1 f3 f4 f5
  obtain⟨o,e,c,d⟩:=id st'
  exact⟨_,rfl,tV (s:={s with heap:=h',toks:=s.toks+1}) e c d (by decide) ⟨.str ⟨#[x.cps[i]]⟩,H,I1,⟨_,rfl⟩,⟨rfl,_,by simp[hg'],rfl⟩,st',fun b hb=>(hf b hb).1⟩⟩
 done:=by
  intro X hP hw hK hc i pins s σ H E I hf st hg
  subst hP hw hK
  obtain⟨f0,f1,f2,f3,f4,f5⟩:=hf it (by simp)
  have hg':x.cps.size≤i:=hg
  exact wpAny_pyNext_ascii_end (I.ok.hd hc) st (by simp[hg']) fun h' eb=>⟨rfl,I.turned (t':=s.toks) (fun b o hb e=>eb b o hb e) f0 f1 f3 f4 f5⟩
 self:=fun _ _ _ _ _ st h=>wpAny_pyIter_striter_ascii st h
def Ny (tl:TE):TI:=fun σ H R=>tl σ H fun x H1=>∃z:Str,x=.str z∧z.cps.all (· <128)=true∧R (Its z) H1
section
variable {X:Cx} {tg:Expr}
theorem Iv {l:Expr} {tl:TE} (hl:PE X l tl):PI X tg l (Ny tl):=by
 intro pins s σ H R I h
 refine aG (hl pins s σ H _ I h) fun v s1 ⟨x,H1,I1,r1,q1⟩=>?_
 obtain⟨z,rfl,ha,q⟩:=q1
 obtain⟨t,rfl⟩:=r1
 refine wpAny_pyIter_ascii ha ?_
 refine⟨s1.heap.objs.size,[s1.heap.objs.size],_,_,H1,rfl,I1.kept (t':=s1.toks) fun b o e=>Heap.get?_push_of_some _ e,DB _ z t,⟨_,Heap.get?_push_size _ rfl,rfl,rfl⟩,fun b hb=>?_,q⟩
 have e:b=s1.heap.objs.size:=by simpa using hb
 subst e
 exact I1.iV (Nat.le_refl _) (I1.hok.fresh (Nat.le_refl _))
end
section
variable {X:Cx}
theorem F':bW X (binaryOp .Mult) (fun x y H Q=>∃(z:Str) (n:Int),x=.str z∧y=.int n∧0≤n∧n≤1000∧z.length≤1000∧Q (.str (Txt.mul z n)) H):=by
 intro pins s σ H x y v u Q I rx ry h
 obtain⟨z,n,rfl,rfl,h0,h1,h2,q⟩:=h
 obtain⟨t,rfl⟩:=rx
 obtain⟨t',rfl⟩:=ry
 refine SB.mul ⟨?_,?_,?_⟩ fun t' k=>⟨.str _,H,I.tok k,⟨t',rfl⟩,q⟩
 ·have a:¬n< -(2 ^ 63:Int):=by omega
  have b:¬n ≥ 2 ^ 63:=by omega
  simp only[a,b,decide_false,Bool.or_self]
 ·intro a b c
  have e:(1000:Int)≤(2 ^ 63-1) / n:=by
   rw[Int.le_ediv_iff_mul_le (by omega)]
   omega
  omega
 ·intro a b
  have h3:z.length*n.toNat≤1000*1000:=Nat.mul_le_mul h2 (by omega)
  have h4:(1000*1000:Nat)≤sizeLine:=by decide
  exact decide_eq_false (by omega)
end
section
variable {prog:Program} {w:World} {A:Around} {E:Value→Shared→Prop} {s:Shared}
theorem bO {h h':Heap} {it t b:Addr} {i:Nat} (x:h.IsTupleIter it t i) (sb:Heap.ExtBut b h h') (n:it≠b):h'.IsTupleIter it t i:=let ⟨o,ho,r⟩:=x;⟨o,sb _ _ n ho,r⟩
theorem dH {h h':Heap} {t b:Addr} {ys:Array Value} (x:h.IsTuple t ys) (sb:Heap.ExtBut b h h') (n:t≠b):h'.IsTuple t ys:=let ⟨o,ho,r⟩:=x;⟨o,sb _ _ n ho,r⟩
abbrev yp (l:Addr):Obj:={cls:=.type "tuple_iterator",data:=.fields #[.ref l,.int 0 0]}
end
theorem i9 {α β:Type} {F:α→β→Prop}:∀{l:List α} {m:List β} {i:Nat} {a:α},Paired F l m→l[i]? =some a→∃b,m[i]? =some b∧F a b
 | _,_,_,_,.nil,h=>by simp at h
 | _,_,0,_,.cons r _,h=>by simp at h;subst h;exact⟨_,rfl,r⟩
 | _,_,i+1,_,.cons _ t,h=>by
  simp only[List.getElem?_cons_succ] at h ⊢
  exact i9 t h
theorem kS:typeLookup (.type "list") "keys"=pure none:=by rw[typeLookup_type,builtinLookup_eq_fast];kernel_rfl
section
variable {P:Program} {w:World} {A:Around} {E:Value→Shared→Prop} {s:Shared}
theorem uZ {a:Addr} {xs:Array Value} {k:Nat} {Q:Option Value→Shared→Prop} (hx:s.heap.get? a=some {cls:=.type "list",data:=.seq xs k}) (hA:A.handled=none)
  (h:∀h' tk,(∀b o,s.heap.get? b=some o→h'.get? b=some o)→Q none {s with heap:=h',toks:=tk}):wpAny (model P w) A (getAttr? (.ref a) "keys") Q E s:=by
 obtain⟨hp,g,d,tk,os⟩:=s
 have hT:∀tk',(⟨hp,g,d,tk',os⟩:Shared).TypeIs (.ref a) "list":=fun _=>⟨_,hx,rfl⟩
 have f1:=sub_AttributeError
 have f3:=F.slot_list_getattribute.lookup
 have f4:=F.slot_list_getattribute.bind (.ref a)
 have f5:=am_list_getattr_none
 have f6:=kS
 unfold getAttr? getAttrBy? getAttrBy
 repeat (any_goals (first | assumption | exact hT _ | ((with_reducible show wpAny _ _ (call (Value.builtin "list.__getattribute__") _ _) _ _ _);refine call_meets F.slot_list_getattribute (hT _) am_entry_list_getattribute (F.args_list_getattribute_2 _ _) (meets_getattribute_miss_list a xs k #[] "keys" _ kS (by decide+kernel) (by size_fits)) ⟨hx,hA,fun h' tk' e hx'=>?_⟩) | wp_step))
 obtain⟨t',u',he⟩:=hx'.there
 show wpAny _ _ (getattributeRaised _ _ _ _ _ _ _) _ _ _
 unfold getattributeRaised
 repeat (any_goals (first | assumption | wp_step))
 exact h _ _ hx'.keeps
end
theorem i4:entryFor table "dict.update.loop"=some Builtin.«dict.update.loop» :=entryFor_of_tree (by kernel_rfl)
theorem d_:plainId "dict.update.loop"=true:=by decide+kernel
section
variable {P:Program} {w:World} {A:Around} {R:Result→Shared→Prop} {I D:Addr} {fp wr:List Addr} {G:Array GenState→Array GenState→Prop} {n:Nat} {Pv:Nat→Value→Prop} {St:Nat→Shared→Prop}
def Ga (P:Program) (w:World) (h:Heap) (D:Addr) (wr:List Addr) (Pv:Nat→Value→Prop) (more:List (Key×Value)):Prop:=∀i v,Pv i v→∃p k key u o m,v=.ref p∧more[i]? =some (k,u)∧(bq P w).is k key=true∧h.get? p=some o∧o.cls=.type "tuple"∧o.data=.seq #[key,u] m∧p≠D∧p ∉ wr
theorem BH (W:WalksS P w A.in1 I fp wr G n Pv St) (hDf:D ∉ fp) (more:List (Key×Value)) (hml:more.length=n) (hb:n<sizeLine):
  ∀(k i:Nat) (j:Int) (s:Shared),n-i=k→i≤n→St i s→Ga P w s.heap D wr Pv more→s.heap.DictOf (bq P w) D (merged [] (more.take i))→
   (∀s',Moved (D::wr) G s s'→s'.heap.DictOf (bq P w) D (merged [] more)→R (.ok (.ret .none)) s')→
   codeAny (model P w) A (.builtin "dict.update.loop" ⟨[.ref D,.ref I,rawInt j,.none],[]⟩) R s:=by
 have hDw:D ∉ wr:=fun z=>hDf (W.sub _ z)
 have sub:∀b∈wr,b∈D::wr:=fun b z=>List.mem_cons_of_mem _ z
 intro k
 induction k with
 | zero=>
  intro i j s hk hi st hp hd hR
  have e:i=n:=by omega
  subst e
  refine codeAny_builtin i4 ?_
  rw[Around.under_plainId d_]
  show wpAny (model P w) A.in1 (pyNext (.ref I) >>= _) _ _ s
  refine wpAny_bind (W.done s _ _ st fun s' mv=>?_)
  show wpAny (model P w) A.in1 (Builtin.Dict.addKeywords D [] >>= _) _ _ s'
  refine wpAny_bind (wpAny_pure ?_)
  refine wpAny_pure (hR s' (mv.mono sub) ?_)
  obtain⟨o,es,ep,ho,r⟩:=hd
  rw[List.take_of_length_le (by omega)] at r
  exact⟨o,es,ep,mv.heap D o hDw ho,r⟩
 | succ k ih=>
  intro i j s hk hi st hp hd hR
  have lt:i<n:=by omega
  refine codeAny_builtin i4 ?_
  rw[Around.under_plainId d_]
  show wpAny (model P w) A.in1 (pyNext (.ref I) >>= _) _ _ s
  refine wpAny_bind (W.item i s _ _ lt st fun v s' hv st' mv=>?_)
  obtain⟨p,kk,key,u,o,m,rfl,em,hkey,ho,hc,hdat,pD,pw⟩:=hp i v hv
  have ho':=mv.heap p o pw ho
  have hd':s'.heap.DictOf (bq P w) D (merged [] (more.take i)):=by
   obtain⟨od,es,ep,hod,r⟩:=hd
   exact⟨od,es,ep,mv.heap D od hDw hod,r⟩
  have hT:s'.TypeIs (.ref p) "tuple":=⟨o,ho',hc⟩
  have hl:(merged [] (more.take i)).length≤sizeLine:=by
   have:=merged_length_le ([]:List (Key×Value)) (more.take i)
   rw[List.length_take] at this
   simp at this
   omega
  refine wpAny_bind (wpAny_holding ?_)
  refine wpAny_bind (wpAny_tryCatch ?_)
  unfold Builtin.Dict.pairItems
  refine wpAny_bind (wpAny_typeOf hT ?_)
  show wpAny _ _ (seqItems? (.ref p) >>= _) _ _ _
  refine wpAny_bind (wpAny_seqItems ho' hdat (wpAny_pure ?_))
  show wpAny _ _ (holding [key,u] (dictSet D key u)) _ _ _
  refine wpAny_holding (wpAny_dictSet_pairs (hsz:=hl) hkey hd' fun h' hd2 hs=>?_)
  refine wpAny_pure ⟨plainId_quiet d_ _,ih (i+1) (j+1) _ (by omega) lt (W.frame _ s' h' _ st' (Nat.le_succ _) fun b hb o q=>(hs.2 b (fun z=>hDf (z▸hb))).trans q) (fun i2 v2 hv2=>?_) ?_ fun s2 mv2 d2=>?_⟩
  ·obtain⟨p2,k2,key2,u2,o2,m2,e1,e2,e3,e4,e5,e6,e7,e8⟩:=hp i2 v2 hv2
   exact⟨p2,k2,key2,u2,o2,m2,e1,e2,e3,(hs.2 p2 e7).trans (mv.heap p2 o2 e8 e4),e5,e6,e7,e8⟩
  ·show h'.DictOf (bq P w) D (merged [] (more.take (i+1)))
   rw[merged_take_succ [] more i (kk,u) em]
   exact hd2
  ·exact hR s2 (Moved.trans W.gtrans ((mv.mono sub).then_heap (Nat.le_succ _) fun b o hb q=>(hs.2 b (fun z=>hb (z▸List.mem_cons_self))).trans q) mv2) d2
end
section
variable {P:Program} {w:World} {A:Around} {E:Value→Shared→Prop} {s:Shared}
theorem tB {l:Addr} {its:Array Value} {nl:Nat} {more:List (Key×Value)} {Q:Value→Shared→Prop} (hh:A.handled=none) (hl:s.heap.get? l=some {cls:=.type "list",data:=.seq its nl})
  (hp:∀(i:Nat) (v:Value),its[i]? =some v→∃p k key u o m,v=.ref p∧more[i]? =some (k,u)∧(bq P w).is k key=true∧s.heap.get? p=some o∧o.cls=.type "tuple"∧o.data=.seq #[key,u] m) (hml:more.length=its.size) (hb:its.size<sizeLine)
  (h:∀h' tk,h'.DictOf (bq P w) s.heap.objs.size (merged [] more)→(∀b o,s.heap.get? b=some o→h'.get? b=some o)→Q (.ref s.heap.objs.size) {s with heap:=h',toks:=tk}):
  wpAny (model P w) A (call (.type "dict") [.ref l]) Q E s:=by
 refine callType_codes (Q₁:=fun obj s₁=>obj=.ref s.heap.objs.size∧s₁={s with heap:=s.heap.push {cls:=.type "dict",data:=.dict #[]}}) F.kt_called_dict (F.kt_typeCall_dict_1 _) F.entry_dict_init (kt_code_dict_new _ ⟨rfl,rfl⟩) ?_
 rintro obj s₁ ⟨rfl,rfl⟩
 have hnew:(s.heap.push {cls:=.type "dict",data:=.dict #[]}).DictOf (bq P w) s.heap.objs.size []:=Heap.DictOf.new s.heap
 have hl1:(s.heap.push {cls:=.type "dict",data:=.dict #[]}).get? l=some {cls:=.type "list",data:=.seq its nl}:=Heap.get?_push_of_some _ hl
 have lS:l<s.heap.objs.size:=Heap.lt_size hl
 refine⟨hnew.typeIs,F.args_dict_init_2 _ _,?_⟩
 unfold Builtin.«dict.__init__»
 refine wpAny_bind ?_
 unfold Builtin.Dict.selfAndRest
 refine wpAny_bind (wpAny_notOrdered_dict hnew.typeIs ?_)
 show wpAny _ _ (pure (s.heap.objs.size,[Value.ref l])) _ _ _
 refine wpAny_pure ?_
 show wpAny _ _ (Builtin.Dict.updateFrom "dict.__init__" s.heap.objs.size (.ref l) [] .none) _ _ _
 unfold Builtin.Dict.updateFrom
 refine wpAny_bind (wpAny_typeOf (show Shared.TypeIs {s with heap:=s.heap.push {cls:=.type "dict",data:=.dict #[]}} (.ref l) "list" from⟨_,hl1,rfl⟩) ?_)
 rw[if_pos (by decide)]
 refine wpAny_bind (uZ hl1 (by simp[hh]) fun h1 tk1 k1=>?_)
 rw[show(none:Option Value).isNone=true from rfl,if_pos rfl]
 refine wpAny_bind (wpAny_rule ?_)
 have hl2:h1.IsList l its:=⟨_,k1 _ _ hl1,rfl,nl,rfl⟩
 refine wpAny_bind (wpAny_pyIter_list hl2 ?_)
 refine wpAny_pure ⟨plainId_quiet d_ _,?_⟩
 have Q2:l<h1.objs.size:=Heap.lt_size (k1 _ _ hl1)
 have yk:l≠h1.objs.size:=Nat.ne_of_lt Q2
 have Iw:s.heap.objs.size<h1.objs.size:=by
  obtain⟨o,es,ep,ho,_⟩:=hnew
  exact Heap.lt_size (k1 _ _ ho)
 have nf:s.heap.objs.size ∉ [h1.objs.size,l]:=by
  simp only[List.mem_cons,List.not_mem_nil,or_false,not_or]
  exact⟨Nat.ne_of_lt Iw,Nat.ne_of_gt lS⟩
 have hh3:A.in1.in1.handled=none:=by simp[hh]
 refine BH ((Walks.list hh3 _ l yk its).toS) nf more hml hb (its.size-0) 0 0 _ (by omega) (Nat.zero_le _) ⟨⟨_,Heap.get?_push_size _ rfl,rfl,rfl⟩,hl2.push _⟩ (fun i v hv=>?_) ?_ fun s' mv hd=>?_
 ·obtain⟨p,k,key,u,o,m,e1,e2,e3,e4,e5,e6⟩:=hp i v hv
  have lp:=Heap.lt_size e4
  refine⟨p,k,key,u,o,m,e1,e2,e3,Heap.get?_push_of_some _ (k1 _ _ (Heap.get?_push_of_some _ e4)),e5,e6,Nat.ne_of_lt lp,fun z=>?_⟩
  have e9:p=h1.objs.size:=List.mem_singleton.mp z
  rw[e9] at lp
  exact absurd (Nat.lt_trans lp Iw) (Nat.lt_irrefl _)
 ·show Heap.DictOf _ _ _ (merged [] (more.take 0))
  obtain⟨o,es,ep,ho,r⟩:=hnew
  exact⟨o,es,ep,Heap.get?_push_of_some _ (k1 _ _ ho),r⟩
 ·obtain⟨h',g',d',tk',os'⟩:=s'
  have eg:g'=s.gens:=mv.gens
  have ed:d'=s.drawn:=mv.drawn
  have eo:os'=s.os:=mv.os
  subst eg ed eo
  refine⟨rfl,h h' tk' hd fun b o e=>mv.heap b o (fun z=>?_) (Heap.get?_push_of_some _ (k1 _ _ (Heap.get?_push_of_some _ e)))⟩
  have lb:=Heap.lt_size e
  simp only[List.mem_cons,List.not_mem_nil,or_false] at z
  rcases z with z | z
  ·rw[z] at lb;exact Nat.lt_irrefl _ lb
  ·rw[z] at lb;exact Nat.lt_irrefl _ (Nat.lt_trans lb Iw)
end
section
variable {X:Cx}
def Iy:List V→Hp→VK→Prop:=fun vs H Q=>∃(l:Addr) (ps:List Addr) (kvs:List (Key×V)),vs=[.ref l]∧H l=some (.lst (ps.map V.ref))∧Paired (fun(p:Addr) (q:Key×V)=>H p=some (.tup [kV q.1,q.2])) ps kvs∧kvs.length<sizeLine∧∀D,H D=none→Q (.ref D) (upd H D (.dK (gj [] kvs)))
theorem zC (hA:X.A.handled=none):cZ X (.type "dict") Iy:=by
 intro pins s σ H xs us Q I r h
 obtain⟨l,ps,kvs,rfl,hl,hp,hb,q⟩:=h
 obtain⟨u,rfl,ru⟩:=vals1 r
 cases ru
 obtain⟨z,its,n,rv,e⟩:=I.hok l _ hl
 have key:∀(ps:List Addr) (kvs:List (Key×V)) (its:List Value),Paired (fun(p:Addr) (q:Key×V)=>H p=some (.tup [kV q.1,q.2])) ps kvs→Vals (ps.map V.ref) its→
   ∃more:List (Key×Value),KV kvs more∧∀(i:Nat) (v:Value),its[i]? =some v→∃p k key u o m,v=.ref p∧more[i]? =some (k,u)∧(bq X.prog X.w).is k key=true∧s.heap.get? p=some o∧o.cls=.type "tuple"∧o.data=.seq #[key,u] m:=by
  intro ps kvs its a
  induction a generalizing its with
  | nil=>intro b;cases b;exact⟨[],.nil,fun i v hv=>by simp at hv⟩
  | @cons p q ps kvs h t ih=>
   intro b
   cases b with
   | cons rp rt=>
    obtain⟨more,m1,m2⟩:=ih _ rt
    obtain⟨z2,its2,BI,o,ho,hc,m,hd⟩:=I.hok p _ h
    cases BI with
    | cons r1 r2=>
     cases r2 with
     | cons r2 r3=>
      cases r3
      cases(show _=Value.ref p from rp)
      refine⟨(q.1,_)::more,.cons ⟨rfl,r2⟩ m1,fun i v hv=>?_⟩
      cases i with
      | zero=>
       have e:Value.ref p=v:=by simpa using hv
       exact⟨p,q.1,_,_,o,m,e.symm,rfl,pg r1,ho,hc,hd⟩
      | succ i=>exact m2 i v (by simpa using hv)
 obtain⟨more,m1,m2⟩:=key ps kvs its hp rv
 have len1:more.length=its.length:=by rw[←Paired.length m1,←Paired.length hp,←rv.length,List.length_map]
 have len2:its.length=kvs.length:=by rw[←len1,←Paired.length m1]
 refine tB (nl:=n) (its:=its.toArray) (more:=more) hA e (fun i v hv=>m2 i v (by simpa using hv)) (by simpa using len1) (by rw[List.size_toArray,len2];exact hb) fun h' tk dd kp=>?_
 have bg:(s.heap.objs.size == sysModules)=false:=beq_eq_false_iff_ne.mpr (Ne.symm (Nat.ne_of_lt I.big))
 have hz:(gj [] kvs).length≤sizeLine:=by
  have h1:=iW kvs []
  rw[List.length_nil] at h1
  omega
 exact⟨.ref s.heap.objs.size,_,I.laid (a:=s.heap.objs.size) (o:=.dK (gj [] kvs)) (t':=tk) kp (Nat.le_refl _) ⟨hz,bg,_,m1.merge .nil,dd⟩,rfl,q _ (I.hok.fresh (Nat.le_refl _))⟩
end
section
variable {X:Cx} {o e:Expr} {es:List Expr} {apos cpos:Pos} {T:String} {name:Str} {id:String} {r:V→List V→Hp→VK→Prop} {to:TE} {t:TA}
theorem Iz (K:PySem.W.Frag) (pa:PlainAttrs T) (slot:Slot T name id) (hty:typeOf (.builtin id)=pure (.type "method_descriptor")) (hm:Eo X id r) (ho:PE X o to) (ha:PA X (e::es) t)
  (hbase:attributeBase o name X.env (eval o X.env)=eval o X.env:=by rfl)
  (hfew:((backTo cpos (starEach (e::es) X.env)).all (fun x=> !x.1)&&(backToKw cpos (keywordEach [] X.env)).all (fun x=>x.1.isSome)
   &&decide ((e::es).length+([]:List Keyword).length+(if([]:List Keyword).isEmpty then 0 else 1)<30))=true:=by rfl)
  (hline:(apos.endLine == cpos.line)=true:=by rfl) (hs:starEach (e::es) X.env=(false,eval e X.env)::starEach es X.env:=by rfl) (hplain:(backTo cpos (starEach es X.env)).any (·.1)=false:=by rfl) (hK:X.K=K:=by rfl):
  PE X (.Call (.Attribute o name apos) (e::es) [] cpos) (Hq K T r to t):=by
 subst hK
 exact cP pa slot hty hm ho ha hbase hfew hline hs hplain
end
abbrev cQ (h:Heap) (z TI TO:Addr) (f0:Value) (fl:Bool):Prop:=h.get? z=some {cls:=.type "zip",dict:=none,data:=.fields #[f0,.bool fl,.bool false,.ref TI,.ref TO],slots:= #[]}
section
variable {prog:Program} {w:World} {A:Around} {E:Value→Shared→Prop} {s:Shared}
theorem rY {z TI TO i1 i2 l1 l2:Addr} {k:Nat} {f0:Value} {fl:Bool} {xs ys:Array Value} {x y a b:Value} {Q:Value→Shared→Prop} (D:ZipApart z TI TO i1 i2 l1 l2) (gz:cQ s.heap z TI TO f0 fl) (hfree:∀Q':Bool→Shared→Prop,Q' true s→wpAny (model prog w) A (Builtin.SmallTypes.ownedTupleIsFree (.ref z)) Q' E s) (gI:IsPair s.heap TI (.ref i1) (.ref i2)) (gO:IsPair s.heap TO a b)
  (g1:s.heap.IsTupleIter i1 l1 k) (g2:s.heap.IsTupleIter i2 l2 k) (m1:s.heap.IsTuple l1 xs) (m2:s.heap.IsTuple l2 ys) (ex:xs[k]? =some x) (ey:ys[k]? =some y)
  (q:∀h',IsZip h' z TI TO (rawInt s.heap.objs.size)→IsPair h' TO x y→h'.IsTupleIter i1 l1 (k+1)→h'.IsTupleIter i2 l2 (k+1)→IsPair h' s.heap.objs.size x y→h'.objs.size=s.heap.objs.size+1→
   (∀c o,c≠z→c≠TO→c≠i1→c≠i2→s.heap.get? c=some o→h'.get? c=some o)→Q (.ref s.heap.objs.size) {s with heap:=h'}):
  wpAny (model prog w) A (Builtin.«zip.__next__» ⟨[.ref z],[]⟩) (fun fin s'=>∃v,fin=.done (.ret v)∧Q v s') E s:=by
 show wpAny _ _ (field (.ref z) 2 >>= _) _ _ _;refine wpAny_bind (wpAny_field gz rfl (x:=.bool false) rfl ?_)
 show wpAny _ _ (field (.ref z) 3 >>= _) _ _ _;refine wpAny_bind (wpAny_field gz rfl (x:=.ref TI) rfl ?_);refine wpAny_bind (wpAny_seqItems gI rfl ?_)
 show wpAny _ _ (Builtin.SmallTypes.ownedTupleIsFree (.ref z) >>= _) _ _ _;refine wpAny_bind (hfree _ ?_);simp only[if_true];refine wpAny_bind (wpAny_rule ?_)
 refine wpAny_bind (wpAny_field gz rfl (x:=.ref TO) rfl ?_);refine wpAny_bind (wpAny_setField_rec gz (by simp) fun h1 z1 s1=>?_)
 replace z1:cQ h1 z TI TO .ellipsis fl:=z1
 refine wpAny_bind ?_;simp only[List.zipIdx_cons,List.zipIdx_nil,List.forIn_cons,List.forIn_nil];refine wpAny_bind (wpAny_bind (wpAny_onRaise ?_))
 show wpAny _ _ (Builtin.SmallTypes.nextOf (.ref i1) >>= _) _ _ _;refine wpAny_bind (gk (bO g1 s1.extBut D.i1z) (dH m1 s1.extBut D.l1z) ex fun h2 IA s2=>wpAny_pure ?_)
 have O2:IsPair h2 TO a b:=s2.extBut _ _ D.TOi1 (s1.extBut _ _ D.TOz gO)
 refine wpAny_bind (wpAny_seqItems O2 rfl ?_);refine wpAny_bind (wpAny_updateSeq_pair O2 fun h3 O3 s3=>?_)
 replace O3:IsPair h3 TO x b:=O3
 refine wpAny_bind (wpAny_letGo (wpAny_pure ?_));refine wpAny_bind (wpAny_bind (wpAny_onRaise ?_))
 show wpAny _ _ (Builtin.SmallTypes.nextOf (.ref i2) >>= _) _ _ _;refine wpAny_bind (gk (bO (bO (bO g2 s1.extBut D.i2z) s2.extBut D.i12.symm) s3.extBut D.TOi2.symm) (dH (dH (dH m2 s1.extBut D.l2z) s2.extBut D.l2i1) s3.extBut D.l2TO) ey fun h4 Q3 s4=>wpAny_pure ?_)
 have O4:IsPair h4 TO x b:=s4.extBut _ _ D.TOi2 O3
 refine wpAny_bind (wpAny_seqItems O4 rfl ?_);refine wpAny_bind (wpAny_updateSeq_pair O4 fun h5 O5 s5=>?_)
 replace O5:IsPair h5 TO x y:=O5
 refine wpAny_bind (wpAny_letGo (wpAny_pure (wpAny_pure ?_)));refine wpAny_bind (wpAny_seqItems O5 rfl ?_);refine wpAny_bind (wpAny_newTuple ?_)
 have sz:h5.objs.size=s.heap.objs.size:=by rw[s5.1,s4.1,s3.1,s2.1,s1.1]
 have z5:cQ h5 z TI TO .ellipsis fl:=s5.extBut _ _ D.TOz.symm (s4.extBut _ _ D.i2z.symm (s3.extBut _ _ D.TOz.symm (s2.extBut _ _ D.i1z.symm z1)))
 have k5:∀c o,c≠z→c≠TO→c≠i1→c≠i2→s.heap.get? c=some o→h5.get? c=some o:=fun c o c1 c2 c3 c4 e=>s5.extBut _ _ c2 (s4.extBut _ _ c4 (s3.extBut _ _ c2 (s2.extBut _ _ c3 (s1.extBut _ _ c1 e))))
 have a5:h5.IsTupleIter i1 l1 (k+1):=bO (bO (bO IA s3.extBut D.TOi1.symm) s4.extBut D.i12) s5.extBut D.TOi1.symm
 have b5:h5.IsTupleIter i2 l2 (k+1):=bO Q3 s5.extBut D.TOi2.symm
 have L_:z<h5.objs.size:=Heap.lt_size z5
 show wpAny _ _ (Builtin.SmallTypes.ownedTupleHandOut (.ref z) (.ref h5.objs.size) >>= _) _ _ _
 refine wpAny_bind ?_;unfold Builtin.SmallTypes.ownedTupleHandOut
 have z6:cQ (h5.push {cls:=.type "tuple",data:=.seq #[x,y]}) z TI TO .ellipsis fl:=Heap.get?_push_of_some _ z5
 refine wpAny_bind (wpAny_setField_rec z6 (by simp) fun h7 z7 s7=>?_)
 replace z7:cQ h7 z TI TO (rawInt h5.objs.size) fl:=z7
 refine wpAny_setField_rec z7 (by simp) fun h8 z8 s8=>?_
 replace z8:IsZip h8 z TI TO (rawInt h5.objs.size):=z8
 have up:∀c o,c≠z→h5.get? c=some o→h8.get? c=some o:=fun c o c1 e=>s8.extBut _ _ c1 (s7.extBut _ _ c1 (Heap.get?_push_of_some _ e))
 have T8:IsPair h8 h5.objs.size x y:=s8.extBut _ _ (Nat.ne_of_gt L_) (s7.extBut _ _ (Nat.ne_of_gt L_) (Heap.get?_push_size _ rfl))
 have e8:h8.objs.size=h5.objs.size+1:=by rw[s8.1,s7.1,Heap.size_push]
 rw[sz] at z8 T8 e8
 refine wpAny_pure ⟨_,rfl,?_⟩;show Q (.ref h5.objs.size) _;rw[sz]
 exact q h8 z8 (up _ _ D.TOz O5) (let ⟨o,ho,r⟩:=a5;⟨o,up _ _ D.i1z ho,r⟩) (let ⟨o,ho,r⟩:=b5;⟨o,up _ _ D.i2z ho,r⟩) T8 e8 fun c o c1 c2 c3 c4 e=>up c o c1 (k5 c o c1 c2 c3 c4 e)
theorem pN {z TI TO i1 i2 l1 l2:Addr} {k:Nat} {f0:Value} {fl:Bool} {xs ys:Array Value} {a b:Value} {Q:Fin→Shared→Prop} (hh:A.handled=none) (D:ZipApart z TI TO i1 i2 l1 l2) (gz:cQ s.heap z TI TO f0 fl) (hfree:∀Q':Bool→Shared→Prop,Q' true s→wpAny (model prog w) A (Builtin.SmallTypes.ownedTupleIsFree (.ref z)) Q' E s) (gI:IsPair s.heap TI (.ref i1) (.ref i2)) (gO:IsPair s.heap TO a b)
  (g1:s.heap.IsTupleIter i1 l1 k) (g2:s.heap.IsTupleIter i2 l2 k) (m1:s.heap.IsTuple l1 xs) (m2:s.heap.IsTuple l2 ys) (ex:xs[k]? =none)
  (q:∀h' e,(∀c o,c≠z→c≠TO→c≠i1→c≠i2→s.heap.get? c=some o→h'.get? c=some o)→(∃o,h'.get? e=some o∧o.cls=.type "StopIteration")→E (.ref e) {s with heap:=h'}):
  wpAny (model prog w) A (Builtin.«zip.__next__» ⟨[.ref z],[]⟩) Q E s:=by
 show wpAny _ _ (field (.ref z) 2 >>= _) _ _ _;refine wpAny_bind (wpAny_field gz rfl (x:=.bool false) rfl ?_)
 show wpAny _ _ (field (.ref z) 3 >>= _) _ _ _;refine wpAny_bind (wpAny_field gz rfl (x:=.ref TI) rfl ?_);refine wpAny_bind (wpAny_seqItems gI rfl ?_)
 show wpAny _ _ (Builtin.SmallTypes.ownedTupleIsFree (.ref z) >>= _) _ _ _;refine wpAny_bind (hfree _ ?_);simp only[if_true];refine wpAny_bind (wpAny_rule ?_)
 refine wpAny_bind (wpAny_field gz rfl (x:=.ref TO) rfl ?_);refine wpAny_bind (wpAny_setField_rec gz (by simp) fun h1 z1 s1=>?_)
 replace z1:cQ h1 z TI TO .ellipsis fl:=z1
 refine wpAny_bind ?_;simp only[List.zipIdx_cons,List.zipIdx_nil,List.forIn_cons,List.forIn_nil];refine wpAny_bind (wpAny_bind (wpAny_onRaise ?_))
 show wpAny _ _ (Builtin.SmallTypes.nextOf (.ref i1) >>= _) _ _ _;refine wpAny_bind (iF hh (bO g1 s1.extBut D.i1z) (dH m1 s1.extBut D.l1z) ex fun h2 e s2 he=>?_)
 obtain⟨oe,hoe,hce⟩:=he
 have z2:cQ h2 z TI TO .ellipsis fl:=s2 _ _ D.i1z.symm z1
 have Q4:e≠z:=fun x=>by subst x;rw[z2] at hoe;cases hoe;simp at hce
 refine wpAny_setField_rec z2 (by simp) fun h3 _ s3=>q h3 e (fun c o c1 _ c3 _ x=>s3.extBut _ _ c1 (s2 _ _ c3 (s1.extBut _ _ c1 x))) ⟨oe,s3.extBut _ _ Q4 hoe,hce⟩
theorem u_ {z TI TO p:Addr} {fl:Bool} {op:Obj} (gz:cQ s.heap z TI TO (rawInt p) fl) (gp:s.heap.get? p=some op):
  wpAny (model prog w) A (Builtin.SmallTypes.ownedTupleIsFree (.ref z)) (fun r s'=>r=false∧∃h0,s'={s with heap:=h0}∧cQ h0 z TI TO (rawInt p) true∧Heap.SameBut z s.heap h0) E s:=by
 unfold Builtin.SmallTypes.ownedTupleIsFree
 refine wpAny_bind (wpAny_field gz rfl (x:=rawInt p) rfl ?_)
 show wpAny _ _ (loadIfAlive ((p:Int).toNat) >>= _) _ _ _
 rw[Int.toNat_natCast]
 refine wpAny_bind (PySem.W.kdx_alive gp ?_)
 simp only[Option.isNone_some,Bool.false_eq_true,if_false]
 refine wpAny_bind (wpAny_field gz rfl (x:=.bool fl) rfl ?_)
 cases fl with
 | true=>
  rw[if_neg (show ¬((Value.bool true != Value.bool true)=true) from Bool.false_ne_true)]
  exact wpAny_pure ⟨rfl,s.heap,rfl,gz,Heap.SameBut.refl _ _⟩
 | false=>
  rw[if_pos (show(Value.bool false != Value.bool true)=true from rfl)]
  refine wpAny_bind (wpAny_setField_rec gz (by simp) fun h₃ he₃ hs₃=>?_)
  exact wpAny_pure ⟨rfl,h₃,rfl,he₃,hs₃⟩
theorem u0 {z TI TO p:Addr} {fl:Bool} (gz:cQ s.heap z TI TO (rawInt p) fl) (gp:s.heap.get? p=none) (Q':Bool→Shared→Prop) (h:Q' true s):wpAny (model prog w) A (Builtin.SmallTypes.ownedTupleIsFree (.ref z)) Q' E s:=by
 unfold Builtin.SmallTypes.ownedTupleIsFree
 refine wpAny_bind (wpAny_field gz rfl (x:=rawInt p) rfl ?_)
 show wpAny _ _ (loadIfAlive ((p:Int).toNat) >>= _) _ _ _
 rw[Int.toNat_natCast]
 refine wpAny_bind ?_
 have al:∀Q:Option Obj→Shared→Prop,Q none s→wpAny (model prog w) A (loadIfAlive p) Q E s:=fun Q h=>by
  have h':Q (s.heap.get? p) s:=by rw[gp];exact h
  exact fun _ _ _=>h'
 refine al _ ?_
 exact wpAny_pure h
theorem u6 {z TI TO:Addr} {fl:Bool} (gz:cQ s.heap z TI TO .none fl) (Q':Bool→Shared→Prop) (h:Q' true s):wpAny (model prog w) A (Builtin.SmallTypes.ownedTupleIsFree (.ref z)) Q' E s:=by
 unfold Builtin.SmallTypes.ownedTupleIsFree
 refine wpAny_bind (wpAny_field gz rfl (x:=.none) rfl (wpAny_pure h))
theorem BJ {z TI TO i1 i2 l1 l2 p:Addr} {k:Nat} {fl:Bool} {op:Obj} {xs ys:Array Value} {x y a b:Value} {Q:Value→Shared→Prop} (D:ZipApart z TI TO i1 i2 l1 l2) (gz:cQ s.heap z TI TO (rawInt p) fl) (gp:s.heap.get? p=some op) (gI:IsPair s.heap TI (.ref i1) (.ref i2)) (gO:IsPair s.heap TO a b)
  (g1:s.heap.IsTupleIter i1 l1 k) (g2:s.heap.IsTupleIter i2 l2 k) (m1:s.heap.IsTuple l1 xs) (m2:s.heap.IsTuple l2 ys) (ex:xs[k]? =some x) (ey:ys[k]? =some y)
  (q:∀h',cQ h' z TI TO (rawInt p) true→IsPair h' TO a b→h'.IsTupleIter i1 l1 (k+1)→h'.IsTupleIter i2 l2 (k+1)→IsPair h' s.heap.objs.size x y→h'.objs.size=s.heap.objs.size+1→
   (∀c o,c≠z→c≠TO→c≠i1→c≠i2→s.heap.get? c=some o→h'.get? c=some o)→Q (.ref s.heap.objs.size) {s with heap:=h'}):
  wpAny (model prog w) A (Builtin.«zip.__next__» ⟨[.ref z],[]⟩) (fun fin s'=>∃v,fin=.done (.ret v)∧Q v s') E s:=by
 show wpAny _ _ (field (.ref z) 2 >>= _) _ _ _;refine wpAny_bind (wpAny_field gz rfl (x:=.bool false) rfl ?_)
 show wpAny _ _ (field (.ref z) 3 >>= _) _ _ _;refine wpAny_bind (wpAny_field gz rfl (x:=.ref TI) rfl ?_);refine wpAny_bind (wpAny_seqItems gI rfl ?_)
 show wpAny _ _ (Builtin.SmallTypes.ownedTupleIsFree (.ref z) >>= _) _ _ _
 refine wpAny_bind (wpAny_mono (u_ gz gp) (fun r s' h=>?_) fun _ _ h=>h)
 obtain⟨rfl,h0,rfl,z0,sb⟩:=h
 simp only[Bool.false_eq_true,if_false,List.forIn_toArray,List.forIn_cons,List.forIn_nil]
 refine wpAny_bind (wpAny_bind (wpAny_bind (wpAny_holding ?_)))
 show wpAny _ _ (Builtin.SmallTypes.nextOf (.ref i1) >>= _) _ _ _
 refine wpAny_bind (gk (bO g1 sb.extBut D.i1z) (dH m1 sb.extBut D.l1z) ex fun h2 IA s2=>wpAny_pure (wpAny_pure ?_))
 refine wpAny_bind (wpAny_bind (wpAny_holding ?_))
 show wpAny _ _ (Builtin.SmallTypes.nextOf (.ref i2) >>= _) _ _ _
 refine wpAny_bind (gk (bO (bO g2 sb.extBut D.i2z) s2.extBut D.i12.symm) (dH (dH m2 sb.extBut D.l2z) s2.extBut D.l2i1) ey fun h3 Q5 s3=>wpAny_pure (wpAny_pure (wpAny_pure ?_)))
 show wpAny _ _ (newTuple [x,y] >>= _) _ _ _
 refine wpAny_bind (wpAny_newTuple ?_)
 have sz:h3.objs.size=s.heap.objs.size:=by rw[s3.1,s2.1,sb.1]
 refine wpAny_pure ⟨_,rfl,?_⟩
 have up:∀c o,h3.get? c=some o→(h3.push {cls:=.type "tuple",data:=.seq #[x,y]}).get? c=some o:=fun c o e=>Heap.get?_push_of_some _ e
 show Q (.ref h3.objs.size) _
 have T8:IsPair (h3.push {cls:=.type "tuple",data:=.seq #[x,y]}) h3.objs.size x y:=Heap.get?_push_size _ rfl
 have a3:h3.IsTupleIter i1 l1 (k+1):=bO IA s3.extBut D.i12
 rw[sz] at T8 ⊢
 exact q _ (up _ _ (s3.extBut _ _ D.i2z.symm (s2.extBut _ _ D.i1z.symm z0))) (up _ _ (s3.extBut _ _ D.TOi2 (s2.extBut _ _ D.TOi1 (sb.extBut _ _ D.TOz gO)))) (let ⟨o,ho,r⟩:=a3;⟨o,up _ _ ho,r⟩) (let ⟨o,ho,r⟩:=Q5;⟨o,up _ _ ho,r⟩) T8 (by rw[Heap.size_push,sz]) fun c o c1 c2 c3 c4 e=>up _ _ (s3.extBut _ _ c4 (s2.extBut _ _ c3 (sb.extBut _ _ c1 e)))
theorem zD {z TI TO i1 i2 l1 l2 p:Addr} {k:Nat} {fl:Bool} {op:Obj} {xs ys:Array Value} {a b:Value} {Q:Fin→Shared→Prop} (hh:A.handled=none) (D:ZipApart z TI TO i1 i2 l1 l2) (gz:cQ s.heap z TI TO (rawInt p) fl) (gp:s.heap.get? p=some op) (gI:IsPair s.heap TI (.ref i1) (.ref i2))
  (g1:s.heap.IsTupleIter i1 l1 k) (m1:s.heap.IsTuple l1 xs) (ex:xs[k]? =none)
  (q:∀h' e,(∀c o,c≠z→c≠TO→c≠i1→c≠i2→s.heap.get? c=some o→h'.get? c=some o)→(∃o,h'.get? e=some o∧o.cls=.type "StopIteration")→E (.ref e) {s with heap:=h'}):
  wpAny (model prog w) A (Builtin.«zip.__next__» ⟨[.ref z],[]⟩) Q E s:=by
 show wpAny _ _ (field (.ref z) 2 >>= _) _ _ _;refine wpAny_bind (wpAny_field gz rfl (x:=.bool false) rfl ?_)
 show wpAny _ _ (field (.ref z) 3 >>= _) _ _ _;refine wpAny_bind (wpAny_field gz rfl (x:=.ref TI) rfl ?_);refine wpAny_bind (wpAny_seqItems gI rfl ?_)
 show wpAny _ _ (Builtin.SmallTypes.ownedTupleIsFree (.ref z) >>= _) _ _ _
 refine wpAny_bind (wpAny_mono (u_ gz gp) (fun r s' h=>?_) fun _ _ h=>h)
 obtain⟨rfl,h0,rfl,z0,sb⟩:=h
 simp only[Bool.false_eq_true,if_false,List.forIn_toArray,List.forIn_cons,List.forIn_nil]
 refine wpAny_bind (wpAny_bind (wpAny_bind (wpAny_holding ?_)))
 show wpAny _ _ (Builtin.SmallTypes.nextOf (.ref i1) >>= _) _ _ _
 exact wpAny_bind (iF hh (bO g1 sb.extBut D.i1z) (dH m1 sb.extBut D.l1z) ex fun h2 e s2 he=>q h2 e (fun c o c1 _ c3 _ x=>s2 _ _ c3 (sb.extBut _ _ c1 x)) he)
theorem BK {z TI TO i1 i2 l1 l2:Addr} {k:Nat} {f0:Value} {fl:Bool} {xs ys:Array Value} {x y a b:Value} {Q:Option Value→Shared→Prop} (D:ZipApart z TI TO i1 i2 l1 l2) (gz:cQ s.heap z TI TO f0 fl) (hf:f0=.none∨∃p:Nat,f0=rawInt p) (gI:IsPair s.heap TI (.ref i1) (.ref i2)) (gO:IsPair s.heap TO a b)
  (g1:s.heap.IsTupleIter i1 l1 k) (g2:s.heap.IsTupleIter i2 l2 k) (m1:s.heap.IsTuple l1 xs) (m2:s.heap.IsTuple l2 ys) (ex:xs[k]? =some x) (ey:ys[k]? =some y)
  (q:∀h' f0' IB a' b',cQ h' z TI TO f0' IB→(∃p:Nat,f0'=rawInt p)→(f0=.none→f0'=rawInt s.heap.objs.size∧IB=false)→IsPair h' TO a' b'→h'.IsTupleIter i1 l1 (k+1)→h'.IsTupleIter i2 l2 (k+1)→IsPair h' s.heap.objs.size x y→h'.objs.size=s.heap.objs.size+1→
   (∀c o,c≠z→c≠TO→c≠i1→c≠i2→s.heap.get? c=some o→h'.get? c=some o)→Q (some (.ref s.heap.objs.size)) {s with heap:=h'}):wpAny (model prog w) A (pyNext (.ref z)) Q E s:=by
 have ty:s.TypeIs (.ref z) "zip":=⟨_,gz,rfl⟩
 unfold pyNext
 refine wpAny_bind (wpAny_attempt (wpAny_callSpecial?_slot (name:=Str.ofString "__next__") ty PySem.F.slot_zip_next (wpAny_call_entry PySem.F.slot_zip_next ty PySem.F.entry_zip_next ?_ (PySem.F.args_zip_next_1 _))))
 rcases hf with rfl | ⟨p,rfl⟩
 ·exact rY D gz (u6 gz) gI gO g1 g2 m1 m2 ex ey fun h' a1 a2 a3 a4 a5 a6 a7=>wpAny_pure (q h' _ _ _ _ a1 ⟨_,rfl⟩ (fun _=>⟨rfl,rfl⟩) a2 a3 a4 a5 a6 a7)
 ·cases gp:s.heap.get? p with
  | none=>exact rY D gz (u0 gz gp) gI gO g1 g2 m1 m2 ex ey fun h' a1 a2 a3 a4 a5 a6 a7=>wpAny_pure (q h' _ _ _ _ a1 ⟨_,rfl⟩ (fun z=>nomatch z) a2 a3 a4 a5 a6 a7)
  | some op=>exact BJ D gz gp gI gO g1 g2 m1 m2 ex ey fun h' a1 a2 a3 a4 a5 a6 a7=>wpAny_pure (q h' _ _ _ _ a1 ⟨_,rfl⟩ (fun z=>nomatch z) a2 a3 a4 a5 a6 a7)
theorem zE {z TI TO i1 i2 l1 l2:Addr} {k:Nat} {f0:Value} {fl:Bool} {xs ys:Array Value} {a b:Value} {Q:Option Value→Shared→Prop} (hh:A.handled=none) (D:ZipApart z TI TO i1 i2 l1 l2) (gz:cQ s.heap z TI TO f0 fl) (hf:f0=.none∨∃p:Nat,f0=rawInt p) (gI:IsPair s.heap TI (.ref i1) (.ref i2)) (gO:IsPair s.heap TO a b)
  (g1:s.heap.IsTupleIter i1 l1 k) (g2:s.heap.IsTupleIter i2 l2 k) (m1:s.heap.IsTuple l1 xs) (m2:s.heap.IsTuple l2 ys) (ex:xs[k]? =none)
  (q:∀h',(∀c o,c≠z→c≠TO→c≠i1→c≠i2→s.heap.get? c=some o→h'.get? c=some o)→Q none {s with heap:=h'}):wpAny (model prog w) A (pyNext (.ref z)) Q E s:=by
 have ty:s.TypeIs (.ref z) "zip":=⟨_,gz,rfl⟩
 unfold pyNext
 refine wpAny_bind (wpAny_attempt (wpAny_callSpecial?_slot (name:=Str.ofString "__next__") ty PySem.F.slot_zip_next (wpAny_call_entry PySem.F.slot_zip_next ty PySem.F.entry_zip_next ?_ (PySem.F.args_zip_next_1 _))))
 rcases hf with rfl | ⟨p,rfl⟩
 ·exact pN hh D gz (u6 gz) gI gO g1 g2 m1 m2 ex fun h' e hk he=>(by
   obtain⟨o,ho,hc⟩:=he
   exact wpAny_bind (wpAny_isInstance (T:="StopIteration") (b:=true) ⟨o,ho,hc⟩ isSubtype_stop (wpAny_pure (q _ hk))))
 ·cases gp:s.heap.get? p with
  | none=>exact pN hh D gz (u0 gz gp) gI gO g1 g2 m1 m2 ex fun h' e hk he=>(by
    obtain⟨o,ho,hc⟩:=he
    exact wpAny_bind (wpAny_isInstance (T:="StopIteration") (b:=true) ⟨o,ho,hc⟩ isSubtype_stop (wpAny_pure (q _ hk))))
  | some op=>exact zD (ys:=ys) (a:=a) (b:=b) hh D gz gp gI g1 m1 ex fun h' e hk he=>(by
    obtain⟨o,ho,hc⟩:=he
    exact wpAny_bind (wpAny_isInstance (T:="StopIteration") (b:=true) ⟨o,ho,hc⟩ isSubtype_stop (wpAny_pure (q _ hk))))
abbrev BL (h:Heap) (l1 l2:Addr):Heap:=(h.push (yp l1)).push (yp l2)
abbrev EG (h:Heap) (l1 l2:Addr):Heap:=(BL h l1 l2).push {cls:=.type "tuple",data:=.seq #[.ref h.objs.size,.ref (h.push (yp l1)).objs.size]}
abbrev BM (h:Heap) (l1 l2:Addr):Heap:=(EG h l1 l2).push {cls:=.type "tuple",data:=.seq #[.none,.none]}
abbrev rZ (h:Heap) (l1 l2:Addr):Heap:=(BM h l1 l2).push {cls:=.type "zip",data:=.fields #[.none,.bool false,.bool false,.ref (BL h l1 l2).objs.size,.ref (EG h l1 l2).objs.size]}
theorem zF (l1 l2:Addr) (xs ys:Array Value):Meets (Builtin.«zip.__new__» ⟨[.type "zip",.ref l1,.ref l2],[]⟩) (fun _ R s=>s.heap.IsTuple l1 xs∧s.heap.IsTuple l2 ys∧R (.ok (.ret (.ref (BM s.heap l1 l2).objs.size))) {s with heap:=rZ s.heap l1 l2}):=
 .of_wp fun prog w A R s h=>by
  obtain⟨hp,g,d,tk,os⟩:=s;obtain⟨m1,m2,h⟩:=h
  have hsub:=PySem.sub_zip
  have L1:Heap.IsTuple (Shared.heap ⟨hp,g,d,tk,os⟩) l1 xs:=m1
  have L2:Heap.IsTuple (Shared.heap ⟨hp.push (yp l1),g,d,tk,os⟩) l2 ys:=let ⟨o,ho,r⟩:=m2;⟨o,Heap.get?_push_of_some _ ho,r⟩
  wp_walk using wpAny_pyIter_tuple L1,wpAny_pyIter_tuple L2
  exact⟨_,rfl,h⟩
theorem BN {l1 l2:Addr} {xs ys:Array Value} {Q:Value→Shared→Prop} (m1:s.heap.IsTuple l1 xs) (m2:s.heap.IsTuple l2 ys)
  (q:∀h',IsZip h' (s.heap.objs.size+4) (s.heap.objs.size+2) (s.heap.objs.size+3) .none→IsPair h' (s.heap.objs.size+2) (.ref s.heap.objs.size) (.ref (s.heap.objs.size+1))→
   IsPair h' (s.heap.objs.size+3) .none .none→h'.IsTupleIter s.heap.objs.size l1 0→h'.IsTupleIter (s.heap.objs.size+1) l2 0→
   (∀c o,s.heap.get? c=some o→h'.get? c=some o)→Q (.ref (s.heap.objs.size+4)) {s with heap:=h'}):wpAny (model prog w) A (call (.type "zip") [.ref l1,.ref l2]) Q E s:=by
 refine callType_new PySem.F.called_zip (by decide) (PySem.F.typeCall_zip_2 _ _) (PySem.F.newCall_zip_2 _ _) (fun obj=>PySem.F.args_object_init_3 obj _ _) PySem.F.entry_zip_new (zF l1 l2 xs ys) ⟨m1,m2,?_⟩
 have e1:(s.heap.push (yp l1)).objs.size=s.heap.objs.size+1:=Heap.size_push ..
 have e2:(BL s.heap l1 l2).objs.size=s.heap.objs.size+2:=by rw[Heap.size_push,e1]
 have e3:(EG s.heap l1 l2).objs.size=s.heap.objs.size+3:=by rw[Heap.size_push,e2]
 have e4:(BM s.heap l1 l2).objs.size=s.heap.objs.size+4:=by rw[Heap.size_push,e3]
 have p5:(rZ s.heap l1 l2).get? (BM s.heap l1 l2).objs.size=some _:=Heap.get?_push_size _ rfl
 have up:∀{c:Addr} {o:Obj},(BM s.heap l1 l2).get? c=some o→(rZ s.heap l1 l2).get? c=some o:=fun x=>Heap.get?_push_of_some _ x
 have p4:(rZ s.heap l1 l2).get? (EG s.heap l1 l2).objs.size=some _:=up (Heap.get?_push_size _ rfl)
 have p3:(rZ s.heap l1 l2).get? (BL s.heap l1 l2).objs.size=some _:=up (Heap.get?_push_of_some _ (Heap.get?_push_size _ rfl))
 have IC:∀{c:Addr} {o:Obj},(BL s.heap l1 l2).get? c=some o→(rZ s.heap l1 l2).get? c=some o:=fun x=>up (Heap.get?_push_of_some _ (Heap.get?_push_of_some _ x))
 have p2:(rZ s.heap l1 l2).get? (s.heap.push (yp l1)).objs.size=some _:=IC (Heap.get?_push_size _ rfl)
 have p1:(rZ s.heap l1 l2).get? s.heap.objs.size=some _:=IC (Heap.get?_push_of_some _ (Heap.get?_push_size _ rfl))
 show _∧_
 rw[e2,e3,e4] at p5
 rw[e1,e2] at p3
 rw[e3] at p4
 rw[e1] at p2
 rw[e4]
 exact⟨⟨_,p5,rfl⟩,q _ p5 p3 p4 ⟨_,p1,rfl,rfl⟩ ⟨_,p2,rfl,rfl⟩ fun c o x=>IC (Heap.get?_push_of_some _ (Heap.get?_push_of_some _ x))⟩
end
def DC (K:PySem.W.Frag) (a b:Addr):It:=
 ⟨fun i H=>∃xs ys x y,bP K H a xs∧bP K H b ys∧xs[i]? =some x∧ys[i]? =some y,
  fun i H v H'=>∃x y p,(∀xs,bP K H a xs→xs[i]? =some x)∧(∀ys,bP K H b ys→ys[i]? =some y)∧H p=none∧v=.ref p∧H'=upd H p (.tup [x,y]),
  fun i H=>∃xs ys,bP K H a xs∧bP K H b ys∧xs.length≤i⟩
theorem BO {P:Program} {w:World} {K:PySem.W.Frag} {elts:List Expr} {x1} {tpos:Pos} (a b z TI TO i1 i2:Addr) (D:ZipApart z TI TO i1 i2 a b):
  Turn P w K (.Tuple elts x1 tpos) (DC K a b) [z,TO,i1,i2,TI] z (fun i h=>IsZip h z TI TO .none∧IsPair h TI (.ref i1) (.ref i2)∧(∃x y,IsPair h TO x y)∧h.IsTupleIter i1 a i∧h.IsTupleIter i2 b i) where
 mem:=by simp
 obj:=fun i h st c hc=>by
  obtain⟨hz,hTI,⟨x,y,hTO⟩,h1,h2⟩:=st
  have hc':c=z∨c=TO∨c=i1∨c=i2∨c=TI:=by simpa using hc
  rcases hc' with q | q | q | q | q
  ·subst q;exact⟨_,hz,fun v e=>nomatch e⟩
  ·subst q;exact⟨_,hTO,fun v e=>nomatch e⟩
  ·subst q
   obtain⟨o,e,_,d⟩:=h1
   exact⟨o,e,fun v q=>by rw[d] at q;cases q⟩
  ·subst q
   obtain⟨o,e,_,d⟩:=h2
   exact⟨o,e,fun v q=>by rw[d] at q;cases q⟩
  ·subst q;exact⟨_,hTI,fun v e=>nomatch e⟩
 keep:=fun i h h' st k=>by
  obtain⟨hz,hTI,⟨x,y,hTO⟩,h1,h2⟩:=st
  exact⟨k z (by simp) _ hz,k TI (by simp) _ hTI,⟨x,y,k TO (by simp) _ hTO⟩,let ⟨o,ho,r⟩:=h1;⟨o,k i1 (by simp) o ho,r⟩,let ⟨o,ho,r⟩:=h2;⟨o,k i2 (by simp) o ho,r⟩⟩
 item:=by
  intro X hP hw hK hc i pins s σ H E I hf st hg
  subst hP hw hK
  obtain⟨hz,hTI,⟨u1,u2,hTO⟩,h1,h2⟩:=st
  obtain⟨xs,ys,x,y,hq,hq2,hx,hy⟩:=hg
  obtain⟨its,rv,p,_⟩:=I.tuple hq
  obtain⟨its2,BI,p2,_⟩:=I.tuple hq2
  obtain⟨u,hu,ru⟩:=rv.get hx
  obtain⟨v,hv,rv'⟩:=BI.get hy
  refine BK D hz (.inl rfl) hTI hTO h1 h2 (show s.heap.IsTuple a its.toArray from p) (show s.heap.IsTuple b its2.toArray from p2) (x:=u) (y:=v) (by simpa using hu) (by simpa using hv) fun h1' f0' IB a' b' a1 _ aw a2 a3 a4 a5 a6 kk=>?_
  obtain⟨rfl,rfl⟩:=aw rfl
  have nn:H s.heap.objs.size=none:=I.hok.fresh (Nat.le_refl _)
  have IE:∀c∈[z,TO,i1,i2],fA X pins H c:=fun c hc=>hf c (by
   have hc':c=z∨c=TO∨c=i1∨c=i2:=by simpa using hc
   rcases hc' with q | q | q | q<;>simp[q])
  have I1:Inv X pins σ (upd H s.heap.objs.size (.tup [x,y])) {s with heap:=h1',toks:=s.toks}:=
   I.uF (ch:=[z,TO,i1,i2]) IE (fun c o hc q=>kk c o (fun e=>hc (by simp[e])) (fun e=>hc (by simp[e])) (fun e=>hc (by simp[e])) (fun e=>hc (by simp[e])) q) (Nat.le_refl _)
    ⟨⟨by show 2≤sizeLine;decide,_,a5,rfl⟩,[u,v],.cons ru (.cons rv' .nil),⟨_,a5,rfl,_,rfl⟩⟩
  have lz:z<s.heap.objs.size:=Heap.lt_size hz
  have Q6:TI<s.heap.objs.size:=Heap.lt_size hTI
  have Q7:TO<s.heap.objs.size:=Heap.lt_size hTO
  have l1:i1<s.heap.objs.size:=by obtain⟨o,q,_⟩:=id h1;exact Heap.lt_size q
  have l2:i2<s.heap.objs.size:=by obtain⟨o,q,_⟩:=id h2;exact Heap.lt_size q
  refine⟨_,rfl,wpAny_letOwnedTupleGo_zip a1 fun h2' e2 sb=>?_⟩
  obtain⟨f0,f1,f2,f3,f4,f5⟩:=hf z (by simp)
  have I2:=I1.turned (h':=h2') (t':=s.toks) (it:=z) (fun c o hc q=>(sb.2 c hc).trans q) (by rw[aF (Nat.ne_of_lt lz)];exact f0) f1 f3 f4 f5
  refine⟨.ref s.heap.objs.size,_,I2,rfl,⟨x,y,s.heap.objs.size,fun zs hy=>by rw[I.iL hy hq];exact hx,fun zs hz'=>by rw[I.iL hz' hq2];exact hy,nn,rfl,rfl⟩,
   ⟨e2,(sb.2 TI D.TIz).trans (kk _ _ D.TIz D.TITO D.TIi1 D.TIi2 hTI),⟨_,_,(sb.2 TO D.TOz).trans a2⟩,let ⟨o,ho,r⟩:=a3;⟨o,(sb.2 i1 D.i1z).trans ho,r⟩,let ⟨o,ho,r⟩:=a4;⟨o,(sb.2 i2 D.i2z).trans ho,r⟩⟩,fun c hc=>?_⟩
  have hlt:c<s.heap.objs.size:=by
   have hc':c=z∨c=TO∨c=i1∨c=i2∨c=TI:=by simpa using hc
   rcases hc' with q | q | q | q | q
   ·rw[q];exact lz
   ·rw[q];exact Q7
   ·rw[q];exact l1
   ·rw[q];exact l2
   ·rw[q];exact Q6
  rw[aF (Nat.ne_of_lt hlt)]
  exact(hf c hc).1
 done:=by
  intro X hP hw hK hc i pins s σ H E I hf st hg
  subst hP hw hK
  obtain⟨hz,hTI,⟨u1,u2,hTO⟩,h1,h2⟩:=st
  obtain⟨xs,ys,hq,hq2,hx⟩:=hg
  obtain⟨its,rv,p,_⟩:=I.tuple hq
  obtain⟨its2,BI,p2,_⟩:=I.tuple hq2
  have hl:=rv.length
  have IE:∀c∈[z,TO,i1,i2],fA X pins H c:=fun c hc=>hf c (by
   have hc':c=z∨c=TO∨c=i1∨c=i2:=by simpa using hc
   rcases hc' with q | q | q | q<;>simp[q])
  exact zE (I.ok.hd hc) D hz (.inl rfl) hTI hTO h1 h2 (show s.heap.IsTuple a its.toArray from p) (show s.heap.IsTuple b its2.toArray from p2) (by simp;omega) fun h' kk=>
   ⟨rfl,I.FU (t':=s.toks) (ch:=[z,TO,i1,i2]) IE (fun c o hc q=>kk c o (fun e=>hc (by simp[e])) (fun e=>hc (by simp[e])) (fun e=>hc (by simp[e])) (fun e=>hc (by simp[e])) q)⟩
 self:=fun _ _ _ _ _ st h=>wpAny_pyIter_zip st.1 h
def KC (K:PySem.W.Frag) (ta:TA):TI:=fun σ H R=>ta σ H fun vs H1=>∃a b,vs=[.ref a,.ref b]∧(∃xs,bP K H1 a xs)∧(∃ys,bP K H1 b ys)∧R (DC K a b) H1
theorem yq {X:Cx} {elts:List Expr} {x1} {tpos:Pos} {a b:Expr} {ta:TA} {p pos:Pos} (hg:Gl X "zip") (hm:X.mg "zip"=none) (ha:PA X [a,b] ta)
  (hs:starEach [a,b] X.env=[(false,eval a X.env),(false,eval b X.env)]:=by rfl) (hs2:starEach [b] X.env=[(false,eval b X.env)]:=by rfl):
  PI X (.Tuple elts x1 tpos) (.Call (.Name "zip" p) [a,b] [] pos) (KC X.K ta):=by
 intro pins s σ H R I h
 refine Call_ (jt I hg hm boot_zip (PyProof.Rows.callWith_type1 (aG (ha pos pins s σ H _ I h) fun us s1 ⟨vs,H1,I1,r1,q1⟩=>?_) (by rw[hs,hs2]) (by rw[hs2];rfl)))
 obtain⟨l1,l2,e,⟨xs,hq⟩,⟨ys,hq2⟩,q⟩:=q1
 subst e
 cases r1 with
 | cons r rr=>
  cases rr with
  | cons r' rr=>
   cases rr
   cases r
   cases r'
   obtain⟨its,rv,pl,_⟩:=I1.tuple hq
   obtain⟨its2,BI,L6,_⟩:=I1.tuple hq2
   have a1:l1<s1.heap.objs.size:=by obtain⟨_,e,_⟩:=(show s1.heap.IsTuple l1 its.toArray from pl);exact Heap.lt_size e
   have a2:l2<s1.heap.objs.size:=by obtain⟨_,e,_⟩:=(show s1.heap.IsTuple l2 its2.toArray from L6);exact Heap.lt_size e
   refine BN (show s1.heap.IsTuple l1 its.toArray from pl) (show s1.heap.IsTuple l2 its2.toArray from L6) fun h' hz hTI hTO hi1 hi2 kk=>?_
   have I2:Inv X pins σ H1 {s1 with heap:=h'}:=I1.kept (t':=s1.toks) kk
   refine wpAny_pyIter_zip hz ?_
   refine⟨s1.heap.objs.size+4,[s1.heap.objs.size+4,s1.heap.objs.size+3,s1.heap.objs.size,s1.heap.objs.size+1,s1.heap.objs.size+2],_,_,H1,rfl,I2,BO l1 l2 _ _ _ _ _ (zipApart_new a1 a2),⟨hz,hTI,⟨_,_,hTO⟩,hi1,hi2⟩,fun c hc=>?_,q⟩
   have hle:s1.heap.objs.size≤c:=by
    have hc':c=s1.heap.objs.size+4∨c=s1.heap.objs.size+3∨c=s1.heap.objs.size∨c=s1.heap.objs.size+1∨c=s1.heap.objs.size+2:=by simpa using hc
    rcases hc' with q | q | q | q | q<;>(rw[q];first | exact Nat.le_add_right _ _ | exact Nat.le_refl _)
   exact I1.iV hle (I1.hok.fresh hle)
theorem r_ {K:PySem.W.Frag} {a b:Addr} {xs ys:List V} {g:TG} {tt:TT} {te:TE} {D:Addr} {σ:St} {H:Hp} {R:Hp→Prop} (Pv:Nat→St→Hp→Prop) (hlen:xs.length=ys.length) (h0:Pv 0 σ H) (hl:∀i σ H,i≤xs.length→Pv i σ H→bP K H a xs∧bP K H b ys)
  (hs:∀i x y p σ H,xs[i]? =some x→ys[i]? =some y→Pv i σ H→H p=none→g (.ref p) σ (upd H p (.tup [x,y])) fun σ2 H2=>tt σ2 H2 fun b H3=>if b=true then te σ2 H3 fun y H4=>∃ys,H4 D=some (.lst ys)∧ys.length<sizeLine∧Pv (i+1) σ2 (upd H4 D (.lst (ys++[y]))) else Pv (i+1) σ2 H3)
  (hd:∀σ H,Pv xs.length σ H→R H):i6 (DC K a b) g tt te D σ H R:=by
 refine⟨fun i m σ H=>m=xs.length-i∧i≤xs.length∧Pv i σ H,⟨xs.length,by simp,Nat.zero_le _,h0⟩,?_⟩
 rintro i m σ H ⟨rfl,hi,p⟩
 obtain⟨q1,q2⟩:=hl i σ H hi p
 by_cases hlt:i<xs.length
 ·refine .inr ⟨⟨xs,ys,xs[i],ys[i]'(by omega),q1,q2,by simp[hlt],by simp[hlen▸hlt]⟩,Pv (i+1),fun σ' H' p'=>⟨xs.length-(i+1),by omega,rfl,hlt,p'⟩,fun v H' y=>?_⟩
  obtain⟨x,y,p',e1,e2,e3,rfl,rfl⟩:=y
  exact hs i x y p' σ H (e1 xs q1) (e2 ys q2) p e3
 ·have e:i=xs.length:=by omega
  subst e
  exact .inl ⟨⟨xs,ys,q1,q2,Nat.le_refl _⟩,hd σ H p⟩
theorem r6 {t u:TS} {D:Ends} {σ:St} {H:Hp} (Pv:St→Hp→Prop) (h1:∀σ H,Pv σ H→u D σ H) (h2:∀R:St→Hp→Prop,(∀σ H,Pv σ H→R σ H)→t {D with nx:=R} σ H):oH t u D σ H:=h2 _ h1
theorem Gb {X:Cx} {tg:Expr} (K:PySem.W.Frag) {l:Expr} {tl:TE} (hl:PE X l tl) (hK:X.K=K:=by rfl):PI X tg l (G7 K tl):=by subst hK;exact ug hl
section
variable {X:Cx}
def KD (K:PySem.W.Frag):R2:=fun x y H Q=>∃(a b:Addr) (xs ys:List V),x=.ref a∧y=.ref b∧H a=some (.tup xs)∧H b=some (.tup ys)∧xs.length+ys.length≤sizeLine∧∀u H',Same H H'→H' u=some (.tup (xs++ys))→Q (.ref u) H'
theorem yr (K:PySem.W.Frag) (hK:X.K=K:=by rfl):bW X (binaryOp .Add) (KD K):=by
 subst hK
 intro pins s σ H x y v u Q I rx ry h
 obtain⟨a,b,xs,ys,rfl,rfl,ha,hb,hz,q⟩:=h
 by_cases hx:xs=[]
 ·subst hx
  exact yf pins s σ H _ _ v u Q I rx ry ⟨a,b,ys,rfl,rfl,.of ha,.of hb,q b H (.refl _) hb⟩
 ·exact x6 pins s σ H _ _ v u Q I rx ry ⟨a,b,xs,ys,rfl,rfl,.of ha,.of hb,hx,hz,fun z=>q a H (.refl _) (by rw[z,List.append_nil];exact ha),fun _ p hp=>q p _ (Same.new hp) af⟩
end
theorem IG {K:PySem.W.Frag} {H:Hp} {p:Addr} {xs:List V} {Q:VK} (k:Nat) (e:H p=some (.tup xs)) (h:∀q H',Same H H'→H' q=some (.tup (xs.take k))→Q (.ref q) H'):zB K (.ref p) none (some (k:Int)) H Q:=by
 have e1:HT.aM xs.length xs.length (some (k:Int))=min k xs.length:=HT.kG _ _ k
 refine⟨p,_,rfl,.of e,fun c=>?_,fun c q hq=>?_⟩
 ·have c2:=c.2
  rw[e1] at c2
  exact h p H (.refl _) (by rw[List.take_of_length_le (by omega)];exact e)
 ·refine h q _ (Same.new hq) ?_
  rw[af]
  unfold fG
  rw[HT.lH,e1,List.drop_zero,Nat.sub_zero,←List.take_eq_take_min]
theorem IH {K:PySem.W.Frag} {H:Hp} {p:Addr} {xs:List V} {Q:VK} (k:Nat) (e:H p=some (.tup xs)) (h:∀q H',Same H H'→H' q=some (.tup (xs.drop k))→Q (.ref q) H'):zB K (.ref p) (some (k:Int)) none H Q:=by
 have e1:HT.aM xs.length 0 (some (k:Int))=min k xs.length:=HT.kG _ _ k
 have e2:HT.aM xs.length xs.length none=xs.length:=HT.lH _ _
 refine⟨p,_,rfl,.of e,fun c=>?_,fun c q hq=>?_⟩
 ·have c1:=c.1
  rw[e1] at c1
  refine h p H (.refl _) ?_
  by_cases hx:k=0
  ·rw[hx,List.drop_zero];exact e
  ·have:xs=[]:=List.eq_nil_of_length_eq_zero (by omega)
   rw[this,List.drop_nil];rw[this] at e;exact e
 ·refine h q _ (Same.new hq) ?_
  rw[af]
  unfold fG
  rw[e2,e1]
  congr 2
  by_cases hk:k≤xs.length
  ·rw[Nat.min_eq_left hk,List.take_of_length_le (by rw[List.length_drop];omega)]
  ·rw[Nat.min_eq_right (by omega),List.drop_of_length_le (Nat.le_refl _),List.take_nil,List.drop_of_length_le (by omega)]
end L2
set_option maxHeartbeats 8000000
set_option maxHeartbeats 8000000
set_option maxHeartbeats 8000000
set_option maxHeartbeats 8000000
set_option maxHeartbeats 8000000
set_option maxHeartbeats 8000000
set_option maxHeartbeats 8000000
namespace L2
open PySem PySem.Spec PyProof.Rows
theorem fV {α β:Type} {R:α→β→Prop}:∀{l:List α} {m:List β},Paired R l m→l.length=m.length
 | _,_,.nil=>rfl
 | _,_,.cons _ t=>by rw[List.length_cons,List.length_cons,fV t]
theorem mZ {M:Model} {Γ:PySem.Ctx} {p:Pos} {t:Sem Fin} {fs:List Frame} {s:Shared} {e:End} {s':Shared} (h:Runs M Γ p t fs s e s'):s.toks≤s'.toks:=by
 induction h<;>first | assumption | exact Nat.le_refl _ | omega | (simp only[Shared.setGen] at *; omega) | (dsimp only at *; omega)
theorem zG {M:Model} {Γ:PySem.Ctx} {p:Pos} {g:Nat} {r:Resume} {s s':Shared} {res:GenResult} (h:Wakes M Γ p g r s res s'):s.toks≤s'.toks:=by
 unfold Wakes at h
 split at h
 ·exact h.elim
 ·split at h
  ·obtain⟨e₁,s₁,rn,_,_,rfl⟩:=h;have:=mZ rn;exact this
  ·obtain⟨_,rfl⟩:=h;exact Nat.le_refl _
  ·obtain⟨_,rfl⟩:=h;exact Nat.le_refl _
 ·obtain⟨e₁,s₁,rn,_,_,rfl⟩:=h;have:=mZ rn;exact this
 ·obtain⟨_,rfl⟩:=h;exact Nat.le_refl _
 ·obtain⟨_,rfl⟩:=h;exact Nat.le_refl _
theorem wp_toks {M:Model} {Γ:PySem.Ctx} {α:Type} (t:Sem α):∀(Q:α→Pos→Shared→Prop) (E:Value→Pos→Shared→Prop) (p:Pos) (s:Shared) (n:Nat),n≤s.toks→Sem.wp M Γ t Q E p s→Sem.wp M Γ t (fun a p' s'=>Q a p' s'∧n≤s'.toks) (fun e p' s'=>E e p' s'∧n≤s'.toks) p s:=by
 induction t with
 | pure a=>intro Q E p s n hn h;rw[Sem.wp] at h ⊢;exact⟨h,hn⟩
 | raise e=>intro Q E p s n hn h;rw[Sem.wp] at h ⊢;exact⟨h,hn⟩
 | unsupported _=>intro Q E p s n hn h;rw[Sem.wp] at h;exact h.elim
 | finish _=>intro Q E p s n hn h;rw[Sem.wp] at h;exact h.elim
 | register _ _ _=>intro Q E p s n hn h;rw[Sem.wp] at h;exact h.elim
 | yield _ _ _ _ _=>intro Q E p s n hn h;rw[Sem.wp] at h;exact h.elim
 | fork _ _ _=>intro Q E p s n hn h;rw[Sem.wp] at h;exact h.elim
 | await _ _ _ _ _ _=>intro Q E p s n hn h;rw[Sem.wp] at h;exact h.elim
 | load a _ k ih=>intro Q E p s n hn h;rw[Sem.wp] at h ⊢;obtain⟨o,ho,h⟩:=h;exact⟨o,ho,ih o _ _ _ _ _ hn h⟩
 | update a _ f k ih=>intro Q E p s n hn h;rw[Sem.wp] at h ⊢;exact⟨h.1,ih () _ _ _ _ _ hn h.2⟩
 | choose src m k ih=>intro Q E p s n hn h;rw[Sem.wp] at h ⊢;exact⟨h.1,ih _ _ _ _ _ _ hn h.2⟩
 | genState g k ih=>intro Q E p s n hn h;rw[Sem.wp] at h ⊢;obtain⟨st,e,h⟩:=h;exact⟨st,e,ih _ _ _ _ _ _ hn h⟩
 | fresh k ih=>intro Q E p s n hn h;rw[Sem.wp] at h ⊢;exact ih _ _ _ _ _ _ (Nat.le_succ_of_le hn) h
 | call c hh g l k ih=>
  intro Q E p s n hn h
  rw[Sem.wp] at h ⊢
  obtain⟨r,s',rn,h⟩:=h
  exact⟨r,s',rn,ih r _ _ _ _ _ (Nat.le_trans hn (mZ rn)) h⟩
 | resume g r l k ih=>
  intro Q E p s n hn h
  rw[Sem.wp] at h ⊢
  obtain⟨res,s',w,h⟩:=h
  exact⟨res,s',w,ih _ _ _ _ _ _ (Nat.le_trans hn (zG w)) h⟩
 | _=>rename_i ih;intro Q E p s n hn h;rw[Sem.wp] at h ⊢;exact ih _ _ _ _ _ _ hn h
theorem wpAny_toks {M:Model} {A:Around} {α:Type} {t:Sem α} {Q:α→Shared→Prop} {E:Value→Shared→Prop} {s:Shared} {n:Nat} (hn:n≤s.toks) (h:wpAny M A t Q E s):wpAny M A t (fun a s'=>Q a s'∧n≤s'.toks) (fun e s'=>E e s'∧n≤s'.toks) s:=
 fun Γ p hΓ=>wp_toks t _ _ p s n hn (h Γ p hΓ)
def L7 (X:Cx) (pins:List (Addr×Obj)) (σ:St) (Q:VK) (u:Value) (s':Shared):Prop:=EP X pins σ Q u s'∧1≤s'.toks
def Q8 (X:Cx) (pins:List (Addr×Obj)) (σ:St) (Q:List V→Hp→Prop) (us:List Value) (s':Shared):Prop:=AP X pins σ Q us s'∧1≤s'.toks
def L8 (X:Cx) (pins:List (Addr×Obj)) (D:Ends) (f:Flow) (s':Shared):Prop:=SP X pins D f s'∧1≤s'.toks
def r9 (X:Cx) (e:Expr) (t:TE):Prop:=
 ∀(pins:List (Addr×Obj)) (s:Shared) (σ:St) (H:Hp) (Q:VK),1≤s.toks→Inv X pins σ H s→t σ H Q→wpAny (model X.prog X.w) X.A (eval e X.env) (L7 X pins σ Q) X.xe s
def EH (X:Cx) (es:List Expr) (t:TA):Prop:=
 ∀(pos:Pos) (pins:List (Addr×Obj)) (s:Shared) (σ:St) (H:Hp) (Q:List V→Hp→Prop),1≤s.toks→Inv X pins σ H s→t σ H Q→wpAny (model X.prog X.w) X.A (spliced (backTo pos (starEach es X.env))) (Q8 X pins σ Q) X.xe s
def II (X:Cx) (st:Stmt) (t:TS):Prop:=
 ∀(pins:List (Addr×Obj)) (s:Shared) (σ:St) (H:Hp) (D:Ends),1≤s.toks→Inv X pins σ H s→t D σ H→wpAny (model X.prog X.w) X.A (exec st X.env) (L8 X pins D) X.xe s
def zH (X:Cx) (st:List Stmt) (t:TS):Prop:=
 ∀(pins:List (Addr×Obj)) (s:Shared) (σ:St) (H:Hp) (D:Ends),1≤s.toks→Inv X pins σ H s→t D σ H→wpAny (model X.prog X.w) X.A (execs st X.env) (SP X pins D) X.xe s
def L9 (X:Cx) (e:Expr) (t:TE):Prop:=
 ∀(pins:List (Addr×Obj)) (s:Shared) (σ:St) (H:Hp) (Q:VK),Inv X pins σ H s→t σ H Q→wpAny (model X.prog X.w) X.A (eval e X.env) (L7 X pins σ Q) X.xe s
def L' (X:Cx) (st:Stmt) (t:TS):Prop:=
 ∀(pins:List (Addr×Obj)) (s:Shared) (σ:St) (H:Hp) (D:Ends),Inv X pins σ H s→t D σ H→wpAny (model X.prog X.w) X.A (exec st X.env) (L8 X pins D) X.xe s
theorem lO {α:Type} {t:Sem α} {Q:α→Shared→Prop} {M:Model} {A:Around} {E:Value→Shared→Prop} {s:Shared} (hn:1≤s.toks) (h:wpAny M A t Q E s):wpAny M A t (fun a s'=>Q a s'∧1≤s'.toks) E s:=wpAny_mono (wpAny_toks hn h) (fun _ _ x=>x) fun _ _ x=>x.1
section
variable {X:Cx} {e a b:Expr} {es:List Expr} {te ta tb:TE} {t:TA} {ts us:TS} {pos:Pos} {st:Stmt} {rest:List Stmt}
theorem PE.one (h:PE X e te):r9 X e te:=fun pins s σ H Q hn I q=>lO hn (h pins s σ H Q I q)
theorem PA.one (h:PA X es t):EH X es t:=fun pos pins s σ H Q hn I q=>lO hn (h pos pins s σ H Q I q)
theorem PS.one (h:PS X st ts):II X st ts:=fun pins s σ H Q hn I q=>lO hn (h pins s σ H Q I q)
theorem gL.one (h:gL X rest ts):zH X rest ts:=fun pins s σ H Q _ I q=>h pins s σ H Q I q
theorem cm (ha:r9 X e te) (hr:EH X es t) (hs:starEach (e::es) X.env=(false,eval e X.env)::starEach es X.env:=by rfl):EH X (e::es) (tW te t):=by
 intro pos pins s σ H Q hn I h
 rw[hs]
 show wpAny _ _ (spliced ((false,eval e X.env)::backTo pos (starEach es X.env))) _ _ s
 refine Calls.spliced_cons (aG (ha pins s σ H _ hn I h) fun u s1 ⟨⟨x,H1,I1,r1,q1⟩,hn1⟩=>?_)
 exact aG (hr pos pins s1 σ H1 _ hn1 I1 q1) fun us s2 ⟨⟨xs,H2,I2,r2,q2⟩,hn2⟩=>⟨⟨x::xs,H2,I2,.cons r1 r2,q2⟩,hn2⟩
theorem qu (h:EH X es t):r9 X (.List es pos) (Hg t):=by
 intro pins s σ H Q hn I hq
 refine wpAny_List_spliced (aG (h pos pins s σ H _ hn I hq) fun us s1 ⟨⟨xs,H1,I1,r,z,q⟩,hn1⟩=>⟨by rw[←r.length];exact z,?_⟩)
 have hf:H1 s1.heap.objs.size=none:=I1.hok.fresh (Nat.le_refl _)
 refine⟨⟨.ref s1.heap.objs.size,upd H1 s1.heap.objs.size (.lst xs),I1.laid (t':=s1.toks) (fun b u e=>Heap.get?_push_of_some _ e) (Nat.le_refl _) ?_,rfl,q _ hf⟩,hn1⟩
 exact⟨z,us,0,r,Heap.get?_push_size _ rfl⟩
theorem BP {op:Operator} {r:R2} (ho:bW X (binaryOp op) r) (ha:r9 X a ta) (hb:r9 X b tb):r9 X (.BinOp a op b pos) (A2 r ta tb):=by
 intro pins s σ H Q hn I h
 refine wpAny_BinOp (aG (ha pins s σ H _ hn I h) fun v s1 ⟨⟨x,H1,I1,r1,q1⟩,hn1⟩=>aG (hb pins s1 σ H1 _ hn1 I1 q1) fun u s2 ⟨⟨y,H2,I2,r2,q2⟩,hn2⟩=>?_)
 exact lO hn2 (ho pins s2 σ H2 x y v u Q I2 r1 r2 q2)
theorem qv {i:Nat} {x:Str} {pos':Pos} (hN:X.N.Nodup) (hi:X.N[i]? =some x) (hx:Loc X.env.scope x) (he:r9 X e te) (hs:swapsWith e (some (.Name x pos')) pos.line X.env=pure false:=by rfl) (hf:X.fn x=true∨X.env.scope.names.lookup x=some .local:=by first | exact .inl rfl | exact .inr rfl | assumption):
  II X (.Assign [.Name x pos'] e pos) (oI te (eU i)):=by
 intro pins s σ H D hn I h
 refine wpAny_Assign_Name (aG (he pins s σ H _ hn I h) fun v s1 ⟨⟨y,H1,I1,r1,q1⟩,hn1⟩=>?_) hs
 exact lO hn1 (ig I1 hN hi hx r1 (fun s2 I2=>⟨_,H1,I2,q1⟩) hf)
theorem Gd {i:Nat} {x:Str} {pos':Pos} (hN:X.N.Nodup) (hi:X.N[i]? =some x) (hx:Loc X.env.scope x) (he:L9 X e te) (hs:swapsWith e (some (.Name x pos')) pos.line X.env=pure false:=by rfl) (hf:X.fn x=true∨X.env.scope.names.lookup x=some .local:=by first | exact .inl rfl | exact .inr rfl | assumption):
  L' X (.Assign [.Name x pos'] e pos) (oI te (eU i)):=by
 intro pins s σ H D I h
 refine wpAny_Assign_Name (aG (he pins s σ H _ I h) fun v s1 ⟨⟨y,H1,I1,r1,q1⟩,hn1⟩=>?_) hs
 exact lO hn1 (ig I1 hN hi hx r1 (fun s2 I2=>⟨_,H1,I2,q1⟩) hf)
theorem iO (h1:II X st ts) (h2:zH X rest us):zH X (st::rest) (oH ts us):=by
 intro pins s σ H D hn I h
 refine wpAny_execs_cons (aG (h1 pins s σ H {D with nx:=us D} hn I h) fun f s1 ⟨q,hn1⟩=>?_)
 cases f with
 | next=>
  obtain⟨σ',H',I',q⟩:=q
  exact h2 pins s1 σ' H' D hn1 I' q
 | ret v=>exact q
 | brk=>exact q
 | cont=>exact q
theorem BQ (h1:L' X st ts) (h2:zH X rest us):gL X (st::rest) (oH ts us):=by
 intro pins s σ H D I h
 refine wpAny_execs_cons (aG (h1 pins s σ H {D with nx:=us D} I h) fun f s1 ⟨q,hn1⟩=>?_)
 cases f with
 | next=>
  obtain⟨σ',H',I',q⟩:=q
  exact h2 pins s1 σ' H' D hn1 I' q
 | ret v=>exact q
 | brk=>exact q
 | cont=>exact q
theorem IJ {T:String} {name:Str} {id:String} {r:V→List V→Hp→VK→Prop} {o:Expr} {to:TE} {z:Str} {j:Nat} {p apos cpos:Pos} (pa:PlainAttrs T) (slot:Slot T name id) (hty:typeOf (.builtin id)=pure (.type "method_descriptor")) (hm:Eo X id r) (ho:PE X o to)
  (hbase:attributeBase o name X.env (eval o X.env)=eval o X.env:=by rfl)
  (hline:(apos.endLine == cpos.line)=true:=by rfl):
  L9 X (.Call (.Attribute o name apos) [.Constant (.str z) j p] [] cpos) (Hq X.K T r to (tW (tC (.str z)) qg)):=by
 intro pins s σ H Q I h
 refine wpAny_Call_method_late hbase rfl hline rfl (aG (ho pins s σ H _ I h) fun v s1 ⟨x,H1,I1,r1,ty,q1⟩=>?_)
 obtain⟨h1,h2⟩:=ux I1 r1 ty
 refine⟨T,id,pa,slot,hty,h1,h2,?_⟩
 show wpAny _ _ (callWith cpos (.builtin id) [v] (backTo cpos [(false,eval (.Constant (.str z) j p) X.env)]) _) _ _ _
 refine Calls.callWith_builtin rfl (Calls.evalArgs_plain ?_)
 refine Calls.spliced_cons (Calls.Constant_str (pos:=p) (k:=j) (Calls.spliced_nil ?_))
 exact lO (Nat.succ_le_succ (Nat.zero_le _)) (hm pins _ σ H1 x [.str z] v _ Q (I1.tok _) r1 (.cons ⟨_,rfl⟩ .nil) q1)
def KG (y z:Str) (to:TE):TE:=fun σ H Q=>to σ H fun x H1=>∃w:Str,x=.str w∧w.length≤1000∧Q (.str (Txt.replace w y z)) H1
theorem ki {o:Expr} {to:TE} {y z:Str} {j j2:Nat} {p p2 apos cpos:Pos} (hyz:(y == z)=false) (hz:z.length≤14) (ho:PE X o to)
  (hbase:attributeBase o "replace" X.env (eval o X.env)=eval o X.env:=by rfl)
  (hline:(apos.endLine == cpos.line)=true:=by rfl):
  r9 X (.Call (.Attribute o "replace" apos) [.Constant (.str y) j p,.Constant (.str z) j2 p2] [] cpos) (KG y z to):=by
 intro pins s σ H Q hn I h
 refine wpAny_Call_method_late hbase rfl hline rfl (aG (lO hn (ho pins s σ H _ I h)) fun v s1 ⟨⟨x,H1,I1,r1,w,ex,hw,q1⟩,hn1⟩=>?_)
 subst ex
 obtain⟨t,rfl⟩:=r1
 refine⟨"str","str.replace",PySem.F.plainAttrs_str,PySem.F.slot_str_replace,PySem.F.type_str_replace,typeIs_str _ _ _,fun _ e=>(nomatch e),?_⟩
 show wpAny _ _ (callWith cpos (.builtin "str.replace") [.str w t] (backTo cpos [(false,eval (.Constant (.str y) j p) X.env),(false,eval (.Constant (.str z) j2 p2) X.env)]) _) _ _ _
 refine Calls.callWith_builtin rfl (Calls.evalArgs_plain ?_)
 refine Calls.spliced_cons (Calls.Constant_str (pos:=p) (k:=j) (Calls.spliced_cons (Calls.Constant_str (pos:=p2) (k:=j2) (Calls.spliced_nil ?_))))
 refine lO (by show 1≤s1.toks+1+1;omega) ?_
 refine SC.replaceW ?_ ?_ ?_ hyz (by omega) hz fun t' k=>⟨.str _,H1,I1.tok _,⟨_,rfl⟩,q1⟩
 ·show(s1.toks:Nat)≠0;omega
 ·show(s1.toks+1:Nat)≠0;omega
 ·show(s1.toks:Nat)≠s1.toks+1;omega
end
structure qw (fs:List Addr) (e:Addr) (oe:Obj) (hd:Option Addr) (T:Addr) (h h':Heap):Prop where
 above:h.objs.size≤T
 keep:∀b o,b≠e→b ∉ fs→hd≠some b→h.get? b=some o→h'.get? b=some o
 slot:∀b o,b∈fs→b≠e→hd≠some b→h.get? b=some o→∃sl,h'.get? b=some {o with slots:=sl}
 exc:h'.get? e=some (oe.mapFields (·.setIfInBounds 1 (.ref T)))
 tb:∃oT ts x3,h'.get? T=some oT∧oT.data=.fields ts∧ts[3]? =some x3
section
variable {M:Model} {A:Around} {E:Value→Shared→Prop} {s:Shared} {base:Heap} {env env':Env} {outer:List Env} {L e:Addr} {oe:Obj} {vs:Array Value} {Q:Unit→Shared→Prop}
theorem u9 (h:env'.frame=env.frame):PySem.frameOf env'=PySem.frameOf env:=by unfold PySem.frameOf;rw[h]
theorem zI {head:Value} {had:Bool} (fr:A.frames=some (env::outer)) (ff:s.heap.FunFrames base (env::outer)) (fL:env.frame=some L) (fe:env'.frame=env.frame)
  (xe:s.heap.get? e=some oe) (xd:oe.data=.fields vs) (xs:1<vs.size) (k:∀h' T,qw (frs (env::outer)) e oe none T s.heap h'→Q () {s with heap:=h'}):
  wpAny M A (do
   let a ←frameOf env'
   let pl ←entryPlaceOf L had
   let b ←EntryCells.newEntry head a .none (rawInt L) .none pl
   setField (.ref e) 1 b) Q E s:=by
 have Ii:e ∉ frs (env::outer):=fun z=>by
  obtain⟨_,o,ho,nf⟩:=ff.mem z
  rw[xe] at ho
  cases ho
  exact nf vs xd
 rw[u9 fe]
 refine wpAny_bind (wpAny_frameOf_fun fr ff fL fun g so=>?_)
 refine wpAny_bind (wpAny_entryPlaceOf fun pl ip=>?_)
 unfold EntryCells.newEntry newFields
 refine wpAny_bind (wpAny_newObj_type ?_ (ip.sizeOk5 _ _ _ _ _))
 have ge:g.get? e=some oe:=(so.2.1 e Ii).trans xe
 generalize hN:([head,Value.ref L,.none,rawInt L,.none]++(if pl.isEmpty then List.replicate 6 Value.none else pl)).toArray=ar
 have a3:ar[3]? =some (rawInt L):=by rw[←hN];simp
 have g2:=Heap.get?_push_of_some (h:=g) {cls:=.type "traceback",dict:=none,data:=.fields ar} ge
 refine wpAny_setField g2 xd xs ?_
 have rT:g.objs.size≠e:=Nat.ne_of_gt (Heap.lt_size ge)
 have d3:=Obj.data_mapFields xd (·.setIfInBounds 1 (Value.ref g.objs.size))
 have g3:=Heap.get?_update_self (Obj.mapFields (·.setIfInBounds 1 (Value.ref g.objs.size))) g2 (Obj.isFreed_of_fields d3)
 have t3:=(Heap.get?_update_other (g.push {cls:=.type "traceback",dict:=none,data:=.fields ar}) (Obj.mapFields (·.setIfInBounds 1 (Value.ref g.objs.size))) (Ne.symm rT)).trans (Heap.get?_push_size g rfl)
 have keep:∀b o,b≠e→g.get? b=some o→((g.push {cls:=.type "traceback",dict:=none,data:=.fields ar}).update e (Obj.mapFields (·.setIfInBounds 1 (Value.ref g.objs.size)))).get? b=some o:=fun b o ne hb=>by
  rw[Heap.get?_update_other _ _ (Ne.symm ne)]
  exact Heap.get?_push_of_some _ hb
 refine k _ g.objs.size ⟨Nat.le_of_eq so.1.symm,fun b o ne nf _ hb=>keep b o ne ((so.2.1 b nf).trans hb),fun b o _ ne _ hb=>?_,g3,_,_,_,t3,rfl,a3⟩
 obtain⟨sl,q⟩:=so.2.2 b o hb
 exact⟨sl,keep b _ ne q⟩
theorem BR {T₀:Addr} {oT:Obj} {ts:Array Value} {x3:Value} (fr:A.frames=some (env::outer)) (ff:s.heap.FunFrames base (env::outer)) (fL:env.frame=some L) (fe:env'.frame=env.frame) (xe:s.heap.get? e=some oe) (xd:oe.data=.fields vs) (x1:vs[1]? =some (.ref T₀))
  (rT:T₀≠e) (xt:s.heap.get? T₀=some oT) (td:oT.data=.fields ts) (t3:ts[3]? =some x3) (k0:Q () s)
  (k:∀h' T,qw (frs (env::outer)) e oe (some T₀) T s.heap h'→Q () {s with heap:=h'}):wpAny M A (noteFrame (.ref e) env') Q E s:=by
 unfold noteFrame
 rw[fe]
 simp only[fL]
 refine wpAny_bind (wpAny_field xe xd x1 ?_)
 rw[if_pos (by simp)]
 refine wpAny_bind (wpAny_field xt td t3 ?_)
 by_cases c:(x3 == rawInt L)=true
 ·rw[if_pos c]
  exact wpAny_pure k0
 rw[if_neg c]
 refine wpAny_bind (wpAny_setField xt td (Array.getElem?_eq_some_iff.mp t3).1 ?_)
 have oth:∀b,b≠T₀→(s.heap.update T₀ (Obj.mapFields (·.setIfInBounds 3 Value.none))).get? b=s.heap.get? b:=fun b nb=>Heap.get?_update_other _ _ (Ne.symm nb)
 have Dx:∀b o,s.heap.get? b=some o→(∀ws,o.data≠.fields ws)→b≠T₀:=fun b o hb nf z=>by
  rw[z,xt] at hb
  cases hb
  exact nf ts td
 refine zI (s:={s with heap:=s.heap.update T₀ (Obj.mapFields (·.setIfInBounds 3 Value.none))}) fr (ff.of_keeps fun b o hb nf=>⟨o,(oth b (Dx b o hb nf)).trans hb,rfl⟩) fL fe ((oth e (Ne.symm rT)).trans xe) xd (Array.getElem?_eq_some_iff.mp x1).1 fun h' T p=>?_
 refine k h' T ⟨?_,fun b o ne nf nt hb=>p.keep b o ne nf (by simp) ((oth b fun z=>nt (by rw[z])).trans hb),fun b o hf ne nt hb=>p.slot b o hf ne (by simp) ((oth b fun z=>nt (by rw[z])).trans hb),p.exc,p.tb⟩
 have:=p.above
 simpa[Heap.update] using this
end
def iY (Fr:Addr→Prop) (a:Addr) (H:Hp) (h:Heap):Prop:=∃o vs T oT ts x3,h.get? a=some o∧o.data=.fields vs∧vs[1]? =some (.ref T)∧T≠a∧Fr T∧H T=none∧h.get? T=some oT∧oT.data=.fields ts∧ts[3]? =some x3
def Free (X:Cx) (pins:List (Addr×Obj)) (T:Addr):Prop:=X.s₀.heap.objs.size≤T∧T≠X.env.locals∧(∀x c,X.env.cells.lookup x=some c→c≠T)∧∀p∈X.pn++pins,p.1≠T
theorem jH.two {n:Nat} {a:Addr} {H:Hp} {h:Heap} {Fr:Addr→Prop} (x:jH n a H h) (k:∀T,n≤T→Fr T):iY Fr a H h:=by
 obtain⟨o,vs,T,oT,ts,e1,e2,e3,e4,e5,e6,e7,e8,e9⟩:=x
 exact⟨o,vs,T,oT,ts,_,e1,e2,e3,e4,k T e5,e6,e7,e8,e9⟩
theorem iY.mono {a:Addr} {H:Hp} {h:Heap} {Fr Fr':Addr→Prop} (x:iY Fr a H h) (k:∀T,Fr T→Fr' T):iY Fr' a H h:=by
 obtain⟨o,vs,T,oT,ts,x3,e1,e2,e3,e4,e5,r⟩:=x
 exact⟨o,vs,T,oT,ts,x3,e1,e2,e3,e4,k T e5,r⟩
section
variable {X:Cx} {pins:List (Addr×Obj)} {σ:St} {H:Hp} {s:Shared} {h':Heap} {a C T:Addr} {dx:Option Addr} {f:Bool} {oe:Obj} {hd:Option Addr} {Fr:Addr→Prop}
theorem Inv.Ge (I:Inv X pins σ H s) (p:qw (frs X.stack) a oe hd T s.heap h') (Ha:H a=some (xo f a C dx)) (ho:s.heap.get? a=some oe) (hn:∀b,hd=some b→H b=none)
  (hT:∀b,hd=some b→X.s₀.heap.objs.size≤b∧b≠X.env.locals∧(∀x c,X.env.cells.lookup x=some c→c≠b)∧∀q∈X.pn++pins,q.1≠b):
  Inv X pins σ (upd H a (xo false a C dx)) {s with heap:=h'}∧iX false a C dx h':=by
 obtain⟨o1,vs,e1,c1,d1,f1,z1,_⟩:=I.kR Ha
 obtain rfl:oe=o1:=Option.some.inj (ho.symm.trans e1)
 have new:iX false a C dx h':=⟨_,_,p.exc,by rw[Obj.cls_mapFields];exact c1,by rw[←d1];cases oe;rename_i dd sl;cases dd<;>rfl,Obj.data_mapFields f1 _,by simpa using z1,fun z=>by cases z⟩
 have nA:∀b,H b=none→b≠a:=fun b n z=>by rw[z,Ha] at n;cases n
 have nF:∀b u,H b=some u→b ∉ frs X.stack:=fun b u e z=>by rw[I.nJ b z] at e;cases e
 have nD:∀b u,H b=some u→hd≠some b:=fun b u e z=>by rw[hn b z] at e;cases e
 have kT:∀b u o,H b=some u→b≠a→s.heap.get? b=some o→h'.get? b=some o:=fun b u o e ne q=>p.keep b o ne (nF b u e) (nD b u e) q
 have ch:∀b,b ∉ hd.toList→hd≠some b:=fun b nb z=>nb (by rw[z];simp)
 refine⟨?_,new⟩
 have fr:∀b,b≠a→(upd H a (xo false a C dx)) b=H b:=fun b ne=>aF ne
 refine I.step (g':=s.gens) (d':=s.drawn) (t':=s.toks) (ch:=hd.toList) (fun b hb=>?_) (fun b o nl nf nc e n=>?_) (fun b o nl hf nc e n=>?_) (fun b o nc e n=>?_) (fun b o nc e=>?_) (fun b xs e=>?_) (fun b o u e=>?_) (fun b ps e=>?_) (fun m hm=>?_) ?_ I.bare
 ·have e:hd=some b:=by
   cases hd with
   | none=>simp at hb
   | some y=>simp at hb;rw[hb]
  exact⟨.inr (hT b e).1,(hT b e).2.1,(hT b e).2.2.1,(hT b e).2.2.2⟩
 ·exact p.keep b o (nA b n) (fun z=>(List.mem_cons.mp (I.kr b z)).elim nl nf) (ch b nc) e
 ·by_cases z:b∈frs X.stack
  ·exact p.slot b o z (nA b n) (ch b nc) e
  ·exact⟨o.slots,p.keep b o (nA b n) z (ch b nc) e⟩
 ·rw[fr b (nA b n)];exact n
 ·by_cases ne:b=a
  ·subst ne;exact⟨_,p.exc⟩
  ·by_cases z:b∈frs X.stack
   ·obtain⟨sl,q⟩:=p.slot b o z ne (ch b nc) e
    exact⟨_,q⟩
   ·exact⟨o,p.keep b o ne z (ch b nc) e⟩
 ·rw[fr b fun z=>by rw[z,Ha] at e;cases e];exact e
 ·rw[fr b fun z=>by rw[z,Ha] at e;cases e];exact e
 ·have ne:b≠a:=fun z=>by rw[z,Ha] at e;cases e
  exact⟨#[],by rw[fr b ne,e];simp⟩
 ·obtain⟨o,es,ep,q,r⟩:=hm
  have nl:=nA _ I.free
  have nd:hd≠some X.env.locals:=fun z=>(hT _ z).2.1 rfl
  by_cases z:X.env.locals∈frs X.stack
  ·obtain⟨sl,q'⟩:=p.slot _ o z nl nd q
   exact⟨_,es,ep,q',r⟩
  ·exact⟨o,es,ep,p.keep _ o nl z nd q,r⟩
 ·intro b u e
  by_cases ne:b=a
  ·subst ne
   rw[af] at e
   cases e
   exact pK new
  ·rw[fr b ne] at e
   refine(I.hok b u e).stay (fun c v hc q=>?_) (fun c q=>?_) fun c xs q=>?_
   ·rcases hc with z | z
    ·subst z;exact kT _ u v e ne q
    ·exact kT c _ v z (fun y=>by rw[y,Ha] at z;cases z) q
   ·rw[fr c fun y=>by rw[y,Ha] at q;cases q];exact q
   ·rw[fr c fun y=>by rw[y,Ha] at q;cases q];exact q
theorem pO {M:Model} {A:Around} {E:Value→Shared→Prop} {Q:Unit→Shared→Prop} {env':Env} (I:Inv X pins σ H s) (hA:A.frames=X.A.frames) (hh:Head X) (Ha:H a=some (xo false a C dx)) (fl:iY Fr a H s.heap) (fe:env'.frame=X.env.frame)
  (hF:∀T,Fr T→Free X pins T) (hN:∀T,s.heap.objs.size≤T→Fr T)
  (k:∀h',Inv X pins σ H {s with heap:=h'}→iY Fr a H h'→(∀b o,s.heap.get? b=some o→b≠a→b ∉ frs X.stack→¬Fr b→h'.get? b=some o)→Q () {s with heap:=h'}):wpAny M A (noteFrame (.ref a) env') Q E s:=by
 obtain⟨o1,vs,e1,c1,d1,f1,z1,LW⟩:=I.kR Ha
 have frm:A.frames=some (X.env::X.outer):=by rw[hA,I.ok.frames,hh.1]
 have EC:s.heap.FunFrames X.base (X.env::X.outer):=by rw[←hh.1];exact I.stack
 obtain⟨o,vs',T₀,oT,ts,x3,q1,q2,q3,q4,q5,q6,q7,q8,q9⟩:=id fl
 rw[e1] at q1
 cases q1
 rw[f1] at q2
 cases q2
 refine BR frm EC hh.2 fe e1 f1 q3 q4 q7 q8 q9 (k s.heap I fl fun b o e _ _ _=>e) fun h' T p=>?_
 rw[←hh.1] at p
 obtain⟨I',_⟩:=I.Ge p Ha e1 (fun b z=>by cases z;exact q6) fun b z=>by cases z;exact hF _ q5
 rw[lN Ha] at I'
 have ne:T≠a:=fun z=>absurd (Nat.lt_of_lt_of_le (z▸Heap.lt_size e1) p.above) (Nat.lt_irrefl _)
 obtain⟨oT',ts',x',t1,t2,t3⟩:=p.tb
 refine k h' I' ⟨_,_,T,oT',ts',x',p.exc,Obj.data_mapFields f1 _,by simp[z1],ne,hN T p.above,I.hok.fresh p.above,t1,t2,t3⟩ fun b o e nb nf nr=>?_
 exact p.keep b o nb nf (fun z=>nr (by cases z;exact q5)) e
theorem zJ {M:Model} {A:Around} {E:Value→Shared→Prop} {Q:Unit→Shared→Prop} {fo:Option Addr} (I:Inv X pins σ H s) (Ha:H a=some (xo false a C dx)) (fl:iY Fr a H s.heap) (hF:∀T,Fr T→Free X pins T)
  (k:∀h',Inv X pins σ H {s with heap:=h'}→iY Fr a H h'→Q () {s with heap:=h'}):wpAny M A (setFlight (.ref a) fo) Q E s:=by
 obtain⟨o,vs,T,oT,ts,x3,q1,q2,q3,q4,q5,q6,q7,q8,q9⟩:=fl
 have sz:3<ts.size:=(Array.getElem?_eq_some_iff.mp q9).1
 unfold setFlight
 refine wpAny_bind (wpAny_field q1 q2 q3 ?_)
 rw[if_pos (by simp)]
 refine wpAny_setField q7 q8 sz ?_
 have oth:∀b,b≠T→(s.heap.update T (Obj.mapFields (·.setIfInBounds 3 (fo.elim Value.none fun f=>rawInt f)))).get? b=s.heap.get? b:=fun b nb=>Heap.get?_update_other _ _ (Ne.symm nb)
 have hT:=hF T q5
 refine k _ (I.turned (it:=T) (t':=s.toks) (fun b o ne e=>(oth b ne).trans e) q6 hT.2.1 (.inr hT.1) hT.2.2.1 hT.2.2.2) ?_
 exact⟨o,vs,T,_,_,_,(oth a (Ne.symm q4)).trans q1,q2,q3,q4,q5,q6,Heap.get?_update_self _ q7 (Obj.isFreed_of_fields (Obj.data_mapFields q8 _)),Obj.data_mapFields q8 _,by simp[sz];rfl⟩
theorem wV {M:Model} {A:Around} {E:Value→Shared→Prop} {Q:Unit→Shared→Prop} {n:Nat} (I:Inv X pins σ H s) (Ha:H a=some (xo false a C dx)) (fl:iY Fr a H s.heap) (hF:∀T,Fr T→Free X pins T) (hn:∀T,Fr T→n≤T)
  (k:∀h',Inv X pins σ H {s with heap:=h'}→jH n a H h'→Q () {s with heap:=h'}):wpAny M A (setFlight (.ref a) none) Q E s:=by
 obtain⟨o,vs,T,oT,ts,x3,q1,q2,q3,q4,q5,q6,q7,q8,q9⟩:=fl
 have sz:3<ts.size:=(Array.getElem?_eq_some_iff.mp q9).1
 unfold setFlight
 refine wpAny_bind (wpAny_field q1 q2 q3 ?_)
 rw[if_pos (by simp)]
 refine wpAny_setField q7 q8 sz ?_
 have oth:∀b,b≠T→(s.heap.update T (Obj.mapFields (·.setIfInBounds 3 ((none:Option Addr).elim Value.none fun f=>rawInt f)))).get? b=s.heap.get? b:=fun b nb=>Heap.get?_update_other _ _ (Ne.symm nb)
 have hT:=hF T q5
 refine k _ (I.turned (it:=T) (t':=s.toks) (fun b o ne e=>(oth b ne).trans e) q6 hT.2.1 (.inr hT.1) hT.2.2.1 hT.2.2.2) ?_
 exact⟨o,vs,T,_,_,(oth a (Ne.symm q4)).trans q1,q2,q3,q4,hn T q5,q6,Heap.get?_update_self _ q7 (Obj.isFreed_of_fields (Obj.data_mapFields q8 _)),Obj.data_mapFields q8 _,by simp[sz]⟩
end
def Leaves (X:Cx) (E:XK):Prop:=∀(pins:List (Addr×Obj)) (σ:St) (H:Hp) (s:Shared) (a C:Addr) (dx:Option Addr),Inv X pins σ H s→H a=some (xo false a C dx)→iY (Free X pins) a H s.heap→E (.ref a) dx H→X.xe (.ref a) s
theorem m_ {P:Program} {w:World} {K:PySem.W.Frag} {mg:Str→Option Value} {base:Heap} {N:List Str} {qual:Str} {scope:Scope} {fa:Addr} {cd:Value} {A:Around} {outer:List Env} {s₀:Shared} {H₀:Hp} {E:XK}:Leaves (gg (cy P w) P w K mg base N qual scope fa cd A outer s₀ H₀ E) E:=by
 intro pins σ H s a C dx I Ha fl hE
 show wpAny _ _ (leaving _ _) _ _ s
 unfold leaving
 refine wpAny_bind (pO (Fr:=Free _ pins) I rfl ⟨rfl,rfl⟩ Ha fl rfl (fun _ h=>h) (fun T hT=>I.beyond hT) fun h1 I1 Q9 _=>?_)
 refine wV (n:=s₀.heap.objs.size) I1 Ha Q9 (fun _ h=>h) (fun T h=>h.1) fun h2 I2 IK=>?_
 exact⟨a,C,dx,H,rfl,I2.os,I2.bare,I2.base,I2.hok,Ha,IK,hE⟩
def sd (X:Cx) (C:Addr):Value→Shared→Prop:=fun x s'=>∃m,s'.heap.Ns C m∧∀h',Heap.SameBut C s'.heap h'→∀cenv:Env,cenv.locals=C→wpAny (model X.prog X.w) X.A (passOn "comprehension.variables-let-go" x cenv:Sem Value) (fun _ _=>False) X.xe {s' with heap:=h'}
abbrev cM (X:Cx) (own aZ:List Str) (scope:Scope) (C:Addr) (s₃:Shared) (H₃:Hp) (fp:List Addr) (xe:Value→Shared→Prop):Cx:=(fb X own aZ scope C s₃ H₃ fp).wish xe
section
variable {X:Cx} {scope:Scope} {own aZ:List Str} {bJ:List Nat} {elt tg iter:Expr} {ifs:List Expr} {pos:Pos} {g:TG} {tt:TT} {te:TE}
theorem wW {pins:List (Addr×Obj)} {σ:St} {H₃:Hp} {s₃:Shared} {fp:List Addr} {EX:XK} (I3:Inv X pins σ H₃ s₃) (jA:∀b∈fp,fA X pins H₃ b) (hh:Head X) (lv:Leaves X EX):
  Passes (cy X.prog X.w) (cM X own aZ scope s₃.heap.objs.size s₃ H₃ fp (notedBy (model X.prog X.w) X.A (compEnvC scope (dc X.env scope.names []) s₃.heap.objs.size X.env) (sd X s₃.heap.objs.size))) EX:=by
 intro yR σ' H s e s' I' c
 obtain⟨a,C,dx,H',rfl,I2,Ha,fl,hE⟩:=cy.after I' c
 have J:Inv X pins σ H' s':=I3.call' (ch:=fp) I2.os I2.base I2.hok I2.bare fun b hb=>by
  obtain⟨f0,f1,f2,f3,f4,f5⟩:=jA b hb
  exact⟨f3,f1,f4,f5⟩
 have Js:Inv X pins σ H s:=I3.call' (ch:=fp) I'.os I'.base I'.hok I'.bare fun b hb=>by
  obtain⟨f0,f1,f2,f3,f4,f5⟩:=jA b hb
  exact⟨f3,f1,f4,f5⟩
 obtain⟨m,hn,_⟩:=I2.loc
 have Ma:H' s₃.heap.objs.size=none:=I2.free
 obtain⟨g0,g1,g2,g3,g4,g5⟩:=I3.iV (H':=H') (Nat.le_refl _) Ma
 have Ra:s₃.heap.objs.size<s.heap.objs.size:=I'.lt
 have Nz:s₃.heap.objs.size<s'.heap.objs.size:=I2.lt
 have NA:s₃.heap.objs.size ∉ frs X.stack:=fun z=>by
  rcases List.mem_cons.mp (I3.kr _ z) with q | q
  ·exact g1 q
  ·exact g2 q
 let Fr:Addr→Prop:=fun T=>Free X pins T∧T≠s₃.heap.objs.size
 have hN:∀T,s'.heap.objs.size≤T→Fr T:=fun T hT=>⟨J.beyond hT,fun z=>by rw[z] at hT;exact absurd (Nat.lt_of_lt_of_le Nz hT) (Nat.lt_irrefl _)⟩
 have IK:iY Fr a H' s'.heap:=fl.two fun T hT=>⟨Js.beyond hT,fun z=>by rw[z] at hT;exact absurd (Nat.lt_of_lt_of_le Ra hT) (Nat.lt_irrefl _)⟩
 have aC:s₃.heap.objs.size≠a:=fun z=>by rw[←z,Ma] at Ha;cases Ha
 show wpAny _ _ (noteFrame (.ref a) _) _ _ s'
 refine pO (Fr:=Fr) J rfl hh Ha IK rfl (fun T h=>h.1) hN fun h1 J1 va kp=>?_
 have hn1:h1.Ns s₃.heap.objs.size m:=by
  obtain⟨o,es,ep,ho,r⟩:=hn
  exact⟨o,es,ep,kp _ o ho aC NA fun z=>z.2 rfl,r⟩
 refine⟨m,hn1,fun h2 sb cenv _=>?_⟩
 have J2:Inv X pins σ H' {s' with heap:=h2}:=Inv.turned (s:={s' with heap:=h1}) (h':=h2) (t':=s'.toks) (it:=s₃.heap.objs.size) J1 (fun b o hb e=>(sb.2 b hb).trans e) g0 g1 g3 g4 g5
 have IL:iY Fr a H' h2:=by
  obtain⟨o,vs,T,oT,ts,x3,q1,q2,q3,q4,q5,q6,q7,q8,q9⟩:=va
  exact⟨o,vs,T,oT,ts,x3,(sb.2 a (Ne.symm aC)).trans q1,q2,q3,q4,q5,q6,(sb.2 T q5.2).trans q7,q8,q9⟩
 unfold PySem.passOn
 obtain⟨o,vs,T,oT,ts,x3,q1,q2,q3,q4,q5,q6,q7,q8,q9⟩:=id IL
 refine wpAny_bind (wpAny_field q1 q2 q3 ?_)
 rw[if_neg (by simp)]
 refine wpAny_bind (zJ (Fr:=Fr) J2 Ha IL (fun T h=>h.1) fun h3 J3 Rb=>?_)
 exact wpAny_throw (lv pins σ H' _ a C dx J3 Ha (Rb.mono fun T h=>h.1) hE)
theorem kU {prog:Program} {w:World} {A:Around} {R:Result→Shared→Prop} {s:Shared} {scope:Scope} {it acc:Value} {env:Env} (I:Nat→Shared→Prop)
  (turn:∀n s,I n s→wpAny (model prog w) A (pyNext it) (fun r s₁=>match r with
   | none=>R (.ok .next) s₁
   | some v=>wpAny (model prog w) A (letOwnedTupleGo tg it v) (fun _ s₁'=>wpAny (model prog w) A (assign tg env v) (fun _ s₂=>
     wpAny (model prog w) A (forIn ifs true fun c r=>if r=true then do let ok ←isTrue c env (eval c env);pure (ForInStep.yield ok) else pure (ForInStep.yield r)) (fun ok s₃=>
      if ok=true then wpAny (model prog w) A (eval elt env) (fun x s₄=>
       wpAny (model prog w) A (call (.builtin "list.append") [acc,x]) (fun _ s₅=>∃m,m<n∧I m s₅) (notedBy (model prog w) A env fun x s'=>R (.error x) s') s₄) (notedBy (model prog w) A env fun x s'=>R (.error x) s') s₃
      else ∃m,m<n∧I m s₃) (notedBy (model prog w) A env fun x s'=>R (.error x) s') s₂) (notedBy (model prog w) A env fun x s'=>R (.error x) s') s₁') (notedBy (model prog w) A env fun x s'=>R (.error x) s') s₁) (notedBy (model prog w) A env fun x s'=>R (.error x) s') s)
  (n:Nat) (h:I n s):
  codeAny (model prog w) A (.compLoop (.ListComp elt [⟨tg,iter,ifs,0⟩] scope pos) 0 it acc env) R s:=by
 refine codeAny_loop rfl I (fun n s hI=>?_) n h
 show wpAny _ A ((compTurn (.ListComp elt [⟨tg,iter,ifs,0⟩] scope pos) 0 it acc env).onRaise (fun x=>do noteFrame x env;theTreesLotGoes x)) _ _ s
 refine wpAny_noted ?_
 rw[compTurn_list]
 refine wpAny_bind (wpAny_standAt (wpAny_bind (aG (turn n s hI) fun r s₁ h₁=>?_)))
 cases r with
 | none=>exact wpAny_pure h₁
 | some v=>
  refine wpAny_bind (aG h₁ fun _ s₁' h₁'=>?_)
  refine wpAny_bind (aG h₁' fun _ s₂ h₂=>wpAny_bind (aG h₂ fun ok s₃ h₃=>?_))
  cases ok with
  | false=>exact wpAny_pure ⟨rfl,h₃⟩
  | true=>
   exact wpAny_bind (wpAny_bind (aG h₃ fun x s₄ h₄=>wpAny_bind (aG h₄ fun _ s₅ h₅=>wpAny_pure (wpAny_pure ⟨rfl,h₅⟩))))
theorem oo {pins:List (Addr×Obj)} {σ:St} {H:Hp} {s:Shared} {J:It} {fp:List Addr} {it:Addr} {tn:Nat→Heap→Prop} {R:Addr→Hp→Prop} {RR:Value→Addr→Result→Shared→Prop} {E:Value→Shared→Prop} {EX:XK}
  (sc:aI X scope own aZ bJ) (hc:X.calm=true)
  (hg:∀C s₃ H₃ fp xe,PG (cM X own aZ scope C s₃ H₃ fp xe) tg g) (ht:∀C s₃ H₃ fp xe,kf (cM X own aZ scope C s₃ H₃ fp xe) ifs tt) (he:∀C s₃ H₃ fp xe,Passes (cy X.prog X.w) (cM X own aZ scope C s₃ H₃ fp xe) EX→PE (cM X own aZ scope C s₃ H₃ fp xe) elt te) (hh:Head X) (lv:Leaves X EX)
  (I:Inv X pins σ H s) (T:Turn X.prog X.w X.K tg J fp it tn) (st:tn 0 s.heap) (hfp:∀b∈fp,fA X pins H b)
  (h:∀D,H D=none→i6 J g tt te D (pC own bJ σ) (upd H D (.lst [])) (R D))
  (Mb:∀D C x s',sd X C x s'→RR (.ref D) C (.error x) s') (hRR:∀D C H' s' m,Inv X pins σ H' s'→s.heap.objs.size≤C→s'.heap.Ns C m→H' C=none→R D H'→RR (.ref D) C (.ok .next) s'):
  wpAny (model X.prog X.w) X.A (newList []) (fun acc s₃=>wpAny (model X.prog X.w) X.A (newFunctionEnv scope X.env.globals (dc X.env scope.names []) [] X.env.qual none .none (some X.env)) (fun cenv s₄=>
   codeAny (model X.prog X.w) X.A (.compStart (.ListComp elt [⟨tg,iter,ifs,0⟩] scope pos) 0 (.ref it) acc {cenv with scope:=relabel scope X.env}) (RR acc cenv.locals) s₄) E s₃) E s:=by
 refine wpAny_newObj_type (wpAny_newFunctionEnv sc.cell (by intro y hy;simp at hy) (fun h₁ hns₁ hsb₁=>?_) sc.kind)
 dsimp only at hns₁ hsb₁ ⊢
 have hD:=I.fresh
 have I3:Inv X pins σ (upd H s.heap.objs.size (.lst [])) {s with heap:=s.heap.push {cls:=.type "list",dict:=none,data:=.seq ([]:List Value).toArray}}:=I.uy (its:=[]) (t':=s.toks) .nil (Nat.zero_le _)
 have hsz:(s.heap.push {cls:=.type "list",dict:=none,data:=.seq ([]:List Value).toArray}).objs.size=s.heap.objs.size+1:=Heap.size_push ..
 generalize hs3:({s with heap:=s.heap.push {cls:=.type "list",dict:=none,data:=.seq ([]:List Value).toArray}}:Shared)=s₃ at I3
 have hh3:s.heap.push {cls:=.type "list",dict:=none,data:=.seq ([]:List Value).toArray}=s₃.heap:=by rw[←hs3]
 rw[hh3] at hns₁ hsb₁ hsz ⊢
 have hfl:∀b∈fp,b<s.heap.objs.size:=fun b hb=>by
  obtain⟨o,e,_⟩:=T.obj 0 _ st b hb
  exact Heap.lt_size e
 have jA:∀b∈fp,fA X pins (upd H s.heap.objs.size (.lst [])) b:=fun b hb=>by
  obtain⟨f0,f⟩:=hfp b hb
  exact⟨by rw[aF (Nat.ne_of_lt (hfl b hb))];exact f0,f⟩
 have Di:∀b∈fp,b<s₃.heap.objs.size:=fun b hb=>by rw[hsz];exact Nat.lt_succ_of_lt (hfl b hb)
 have k4:∀b o,s₃.heap.get? b=some o→h₁.get? b=some o:=fun b o e=>(hsb₁.2 b (Nat.ne_of_lt (Heap.lt_size e))).trans (Heap.get?_push_of_some _ e)
 have k3:∀b o,s.heap.get? b=some o→s₃.heap.get? b=some o:=fun b o e=>by rw[←hh3];exact Heap.get?_push_of_some _ e
 have hnone:(fun x:Str=>List.lookup x ([]:List (Str×Value)).reverse)=fun _=>none:=by funext x;rfl
 have zh:h₁.Ns s₃.heap.objs.size fun _=>none:=by
  have q:=hns₁
  first
   | exact q
   | (rw[hnone] at q;exact q)
 have I4:=I3.block (own:=own) (tk:=s.toks+([]:List (Str×Value)).length) sc jA Di k4 zh
 have uJ:tn 0 h₁:=T.keep _ _ _ st fun b hb o e=>k4 b o (k3 b o e)
 have I4:=I4.wish (notedBy (model X.prog X.w) X.A (compEnvC scope (dc X.env scope.names []) s₃.heap.objs.size X.env) (sd X s₃.heap.objs.size))
 have Pz:Passes (cy X.prog X.w) (cM X own aZ scope s₃.heap.objs.size s₃ (upd H s.heap.objs.size (.lst [])) fp (notedBy (model X.prog X.w) X.A (compEnvC scope (dc X.env scope.names []) s₃.heap.objs.size X.env) (sd X s₃.heap.objs.size))) EX:=wW I3 jA hh lv
 change Inv (cM X own aZ scope s₃.heap.objs.size s₃ (upd H s.heap.objs.size (.lst [])) fp (notedBy (model X.prog X.w) X.A (compEnvC scope (dc X.env scope.names []) s₃.heap.objs.size X.env) (sd X s₃.heap.objs.size))) [] _ _ _ at I4
 generalize hX:cM X own aZ scope s₃.heap.objs.size s₃ (upd H s.heap.objs.size (.lst [])) fp (notedBy (model X.prog X.w) X.A (compEnvC scope (dc X.env scope.names []) s₃.heap.objs.size X.env) (sd X s₃.heap.objs.size))=X' at I4 Pz
 have yd:X'.prog=X.prog:=by rw[←hX];rfl
 have ye:X'.w=X.w:=by rw[←hX];rfl
 have HE:X'.K=X.K:=by rw[←hX];rfl
 have Ey:X'.A=X.A:=by rw[←hX];rfl
 have Bj:X'.calm=true:=by rw[←hX];exact hc
 have HG:X'.xe=notedBy (model X.prog X.w) X.A (compEnvC scope (dc X.env scope.names []) s₃.heap.objs.size X.env) (sd X s₃.heap.objs.size):=by rw[←hX]
 have Ez:X'.env=compEnvC scope (dc X.env scope.names []) s₃.heap.objs.size X.env:=by rw[←hX];rfl
 have hg':PG X' tg g:=by rw[←hX];exact hg _ _ _ _ _
 have ht':kf X' ifs tt:=by rw[←hX];exact ht _ _ _ _ _
 have he':PE X' elt te:=by subst hX;exact he _ _ _ _ _ Pz
 have HH:∀{H':Hp} {s':Shared} {σ':St},Inv X' [] σ' H' s'→Inv X pins σ H' s'∧(∃m,s'.heap.Ns s₃.heap.objs.size m)∧H' s₃.heap.objs.size=none:=by
  intro H' s' σ' I'
  subst hX
  refine⟨I3.call' (ch:=fp) I'.os I'.base I'.hok I'.bare fun b hb=>?_,let ⟨m,hn,_⟩:=I'.loc;⟨m,hn⟩,I'.free⟩
  obtain⟨f0,f1,f2,f3,f4,f5⟩:=jA b hb
  exact⟨f3,f1,f4,f5⟩
 have stat:∀{H':Hp},(∀b∈fp,H' b=none)→∀b∈fp,fA X' [] H' b:=by
  intro H' hn b hb
  subst hX
  obtain⟨a1,a2⟩:=I4.ok.AU b hb
  exact⟨hn b hb,a1,I4.ok.oF b hb,.inl hb,a2,fun p hp=>by cases hp⟩
 obtain⟨W,⟨m0,w0⟩,turn⟩:=h s.heap.objs.size hD
 have loop:codeAny (model X.prog X.w) X.A (.compLoop (.ListComp elt [⟨tg,iter,ifs,0⟩] scope pos) 0 (.ref it) (.ref s.heap.objs.size) X'.env) (RR (.ref s.heap.objs.size) s₃.heap.objs.size)
   {s₃ with heap:=h₁,toks:=s.toks+([]:List (Str×Value)).length}:=by
  refine kU (fun n s'=>∃i σ' H',Inv X' [] σ' H' s'∧tn i s'.heap∧(∀b∈fp,H' b=none)∧W i n σ' H') ?_ m0 ⟨0,_,_,I4,uJ,fun b hb=>(jA b hb).1,w0⟩
  rintro n s5 ⟨i,σ5,H5,I5,o_,ui,w5⟩
  rw[←yd,←ye,←Ey]
  have hnb:∀x s',notedBy (model X.prog X.w) X.A (compEnvC scope (dc X.env scope.names []) s₃.heap.objs.size X.env) (sd X s₃.heap.objs.size) x s'→notedBy (model X'.prog X'.w) X'.A X'.env (fun x s'=>RR (.ref s.heap.objs.size) s₃.heap.objs.size (.error x) s') x s':=fun x s' h=>by
   rw[yd,ye,Ey,Ez]
   exact wpAny_mono h (fun _ s'' q=>Mb _ _ x s'' q) fun y s'' q=>Mb _ _ y s'' q
  have pF:∀{α:Type} {t:Sem α} {Q:α→Shared→Prop} {s9:Shared},wpAny (model X'.prog X'.w) X'.A t Q X'.xe s9→wpAny (model X'.prog X'.w) X'.A t Q (notedBy (model X'.prog X'.w) X'.A X'.env (fun x s'=>RR (.ref s.heap.objs.size) s₃.heap.objs.size (.error x) s')) s9:=fun h=>by rw[HG] at h;exact wpAny_mono h (fun _ _ q=>q) hnb
  have T':Turn X'.prog X'.w X'.K tg J fp it tn:=by rw[yd,ye,HE];exact T
  rcases turn i n σ5 H5 w5 with⟨stop,q⟩ | ⟨go,N,hN,step⟩
  ·refine aG (T'.done X' rfl rfl rfl Bj i [] s5 σ5 H5 _ I5 (stat ui) o_ stop) fun r s6 ⟨hr,I6⟩=>?_
   subst hr
   obtain⟨J1,⟨m,J2⟩,J3⟩:=HH I6
   exact hRR _ _ H5 s6 m J1 (by rw[hsz];exact Nat.le_succ _) J2 J3 q
  ·refine aG (T'.item X' rfl rfl rfl Bj i [] s5 σ5 H5 _ I5 (stat ui) o_ go) fun r s6 ⟨u,hr,h6⟩=>?_
   subst hr
   refine aG h6 fun _ s7 ⟨x,H7,I7,r7,y7,uK,HI⟩=>?_
   have HJ:=I7.pinned (stat HI) (T'.obj _ _ uK)
   have again:∀{s9:Shared} {σ9:St} {H9:Hp},Inv X' ([]++kD fp s7.heap) σ9 H9 s9→N σ9 H9→∃m,m<n∧∃i σ' H',Inv X' [] σ' H' s9∧tn i s9.heap∧(∀b∈fp,H' b=none)∧W i m σ' H':=fun {s9 σ9 H9} I9 n9=>by
    obtain⟨m',hm,w9⟩:=hN σ9 H9 n9
    refine⟨m',hm,i+1,σ9,H9,I9.ju,T'.keep _ _ _ uK fun b hb o e=>(I9.pin (b,o) (List.mem_append_right _ (List.mem_append_right _ (fT hb e)))).1,fun b hb=>?_,w9⟩
    obtain⟨o,e,d⟩:=T'.obj _ _ uK b hb
    exact(I9.pin (b,o) (List.mem_append_right _ (List.mem_append_right _ (fT hb e)))).2.1
   refine aG (pF (hg' _ s7 σ5 H7 x u _ HJ r7 (step x H7 y7))) fun _ s8 ⟨σ8,H8,I8,q8⟩=>?_
   refine aG (pF (ht' _ s8 σ8 H8 _ I8 q8)) fun b s9 ⟨H9,I9,q9⟩=>?_
   cases b with
   | false=>exact again I9 (by simpa using q9)
   | true=>
    rw[if_pos rfl] at q9
    refine aG (pF (he' _ s9 σ8 H9 _ I9 q9)) fun y fJ ⟨v,fE,HK,r10,EA⟩=>?_
    obtain⟨ys,e10,z10,n10⟩:=EA
    refine aG (pF (fH _ fJ σ8 fE (.ref s.heap.objs.size) [v] (.ref s.heap.objs.size) [y] (fun _ H'=>H'=upd fE s.heap.objs.size (.lst (ys++[v]))) HK rfl (.cons r10 .nil) ⟨_,ys,v,rfl,rfl,e10,z10,rfl⟩)) fun u kO ⟨v',oi,HL,_,HM⟩=>?_
    subst HM
    exact again HL n10
 rw[Ez] at loop
 have e4:({s with heap:=h₁,toks:=s.toks+([]:List (Str×Value)).length}:Shared)={s₃ with heap:=h₁,toks:=s.toks+([]:List (Str×Value)).length}:=by rw[←hs3]
 rw[e4]
 exact codeAny_compStart_list loop (T.self _ 0 _ _ _ uJ loop)
theorem DD {EX:XK} {wi:TI} (sc:aI X scope own aZ bJ) (hc:X.calm=true) (hh:Head X) (lv:Leaves X EX) (hi:PI X tg iter wi)
  (hg:∀C s₃ H₃ fp xe,PG (cM X own aZ scope C s₃ H₃ fp xe) tg g) (ht:∀C s₃ H₃ fp xe,kf (cM X own aZ scope C s₃ H₃ fp xe) ifs tt) (he:∀C s₃ H₃ fp xe,Passes (cy X.prog X.w) (cM X own aZ scope C s₃ H₃ fp xe) EX→PE (cM X own aZ scope C s₃ H₃ fp xe) elt te)
  (hs:∀x,foldedSetIterable iter X.env x=pure x:=by intro _;rfl):PE X (.ListComp elt [⟨tg,iter,ifs,0⟩] scope pos) (tZ own bJ wi g tt te):=by
 intro pins s σ H Q I h
 rw[eval_ListComp]
 refine wpAny_comprehension_free (use:=none) rfl hs (fD (sc.cells I.ok)) sc.kind sc.names (aG (hi pins s σ H _ I h) fun v s1 h1=>aG h1 fun itv s2 h2=>?_)
 obtain⟨it,fp,tn,J,H2,e,I2,T,st2,f2,q⟩:=h2
 subst e
 refine oo (RR:=fun acc C=>compPost (model X.prog X.w) X.A X.xe none (EP X pins σ Q) acc C) (R:=fun D H'=>Q (.ref D) H') (EX:=EX) sc hc hg ht he hh lv I2 T st2 f2 q (fun D C x s' hx=>hx) ?_
 intro D C H' s' m I' hC hn hf hq
 refine⟨m,hn,fun h' sb=>?_⟩
 obtain⟨f0,f1,f2,f3,f4,f5⟩:=I2.iV (H':=H') hC hf
 exact⟨.ref D,H',I'.turned (t':=s'.toks) (it:=C) (fun b o hb e=>(sb.2 b hb).trans e) f0 f1 f3 f4 f5,rfl,hq⟩
theorem oq {EX:XK} {wi:TI} {i:Nat} {y:Str} {py spos:Pos} (sc:aI X scope own aZ bJ) (hc:X.calm=true) (hh:Head X) (lv:Leaves X EX) (hi:PI X tg iter wi)
  (hg:∀C s₃ H₃ fp xe,PG (cM X own aZ scope C s₃ H₃ fp xe) tg g) (ht:∀C s₃ H₃ fp xe,kf (cM X own aZ scope C s₃ H₃ fp xe) ifs tt) (he:∀C s₃ H₃ fp xe,Passes (cy X.prog X.w) (cM X own aZ scope C s₃ H₃ fp xe) EX→PE (cM X own aZ scope C s₃ H₃ fp xe) elt te)
  (hN:X.N.Nodup) (hi':X.N[i]? =some y) (hx:X.env.scope.names.lookup y=some .local)
  (hsw:swapsWith (.ListComp elt [⟨tg,iter,ifs,0⟩] scope pos) (some (.Name y py)) spos.line X.env=pure true:=by rfl)
  (hs:∀x,foldedSetIterable iter X.env x=pure x:=by intro _;rfl):PS X (.Assign [.Name y py] (.ListComp elt [⟨tg,iter,ifs,0⟩] scope pos) spos) (oI (tZ own bJ wi g tt te) (eU i)):=by
 intro pins s σ H D I h
 rw[exec_Assign_Name_used _ _ _ _ hsw]
 refine wpAny_bind (wpAny_standAt (wpAny_bind ?_))
 show wpAny _ X.A (do let _ ←comprehension (.ListComp elt [⟨tg,iter,ifs,0⟩] scope pos) scope X.env _ (newList []) false (eval iter X.env) (some (assign (.Name y py) X.env))) _ _ s
 refine wpAny_bind (wpAny_mono (wpAny_comprehension_free (use:=some (assign (.Name y py) X.env)) (Q:=fun _ s'=>SP X pins D .next s') rfl hs (fD (sc.cells I.ok)) sc.kind sc.names
  (aG (hi pins s σ H _ I h) fun v s1 h1=>aG h1 fun itv s2 h2=>?_)) (fun _ s' hq=>wpAny_pure (wpAny_pure hq)) fun _ _ e=>e)
 obtain⟨it,fp,tn,J,H2,e,I2,T,st2,f2,q⟩:=h2
 subst e
 refine oo (RR:=fun acc C=>compPost (model X.prog X.w) X.A X.xe (some (assign (.Name y py) X.env)) (fun _ s'=>SP X pins D .next s') acc C) (R:=fun E H'=>D.nx (σ.set i (some (.ref E))) H') (EX:=EX) sc hc hg ht he hh lv I2 T st2 f2 q (fun D C x s' hx=>hx) ?_
 intro E C H' s' m I' hC hn hf hq
 show wpAny _ X.A (assign (.Name y py) X.env (.ref E)) _ _ _
 obtain⟨f0,f1,f2,f3,f4,f5⟩:=I2.iV (H':=H') hC hf
 refine wpAny_assign_Name (mO I' hN hi' (.inl hx) (v:=.ref E) (u:=.ref E) rfl (fun s3 I3 ⟨a,sb,ha⟩=>?_) (.inr hx))
 have HN:C≠a:=by
  rcases ha with z | z
  ·rw[z];exact f1
  ·exact(f4 y a z).symm
 refine⟨m,hn.sameBut sb HN,fun h' HP=>?_⟩
 exact⟨_,H',I3.turned (t':=s3.toks) (it:=C) (fun b o hb e=>(HP.2 b hb).trans e) f0 f1 f3 f4 f5,hq⟩
end
def IM (G:Ends) (j:Nat):Ends:={nx:=fun σ' H'=>G.nx (σ'.set j none) H',rt:=G.rt,bk:=fun σ' H'=>G.bk (σ'.set j none) H',ct:=fun σ' H'=>G.ct (σ'.set j none) H'}
section
variable {X:Cx} {pins:List (Addr×Obj)} {σ:St} {H:Hp} {s:Shared} {a C D:Addr} {bm mY:List Value} {od:Option Addr} {m:Nat} {n dn:Str} {pd ph:Pos} {b₀:Stmt} {suite:List Stmt} {rest:List ExceptHandler} {ts:TS} {j:Nat} {G:Ends}
theorem m5 (I3:Inv X pins σ H s) (EI:H a=some (xo false a C od)) (va:jH m a H s.heap) (EJ:∀T,m≤T→Free X pins T) (cC:XC X.K C bm) (hc:(Value.ref C::bm).contains (.ref D)=true)
  (hN:X.N.Nodup) (hD:Gl X dn) (yt:X.mg dn=some (.ref D)) (cD:XC X.K D mY) (hj:X.N[j]? =some n) (hn:X.env.scope.names.lookup n=some .local)
  (hs:∀a,gL (X.suite a) (b₀::suite) ts) (hdD:(dn == ("__debug__":Str))=false) (kk:ts (IM G j) (σ.set j (some (.ref a))) H):
  wpAny (model X.prog X.w) X.A (handleBy (.ref a) X.env (.ExceptHandler (some (.Name dn pd)) (some n) (b₀::suite) ph::rest)) (SP X pins G) X.xe s:=by
 refine wpAny_handleBy_cons (codeAny_handlers_test ?_) (by intro q;cases q)
 refine gM (X:=X.suite a) (I3.suite a) hD yt ?_ hdD
 obtain⟨o3,v3,q1,q2,_⟩:=I3.kR EI
 refine BD I3.gi cC cD q1 q2 ?_
 rw[hc]
 show codeAny _ _ _ _ _
 refine codeAny_handlers_suite_as ?_
 refine zz I3 EI va EJ fun h4 I4 IL=>?_
 refine ig (X:=X.suite a) (I4.suite a) hN hj (.inl hn) (v:=.ref a) rfl (fun s5 I5=>?_) (.inr hn)
 refine wpAny_mono (hs a pins s5 _ _ _ I5 kk) (fun Rc s6 z=>?_) fun _ _ z=>False.elim z
 have goes:∀{σ6:St} {H6:Hp} {QQ:Unit→Shared→Prop} {EE:Value→Shared→Prop},Inv (X.suite a) pins σ6 H6 s6→(∀s7,Inv X pins (σ6.set j none) H6 s7→QQ () s7)→wpAny (model X.prog X.w) X.A (do bindName X.env n .none;unbindBehindTheSuite X.env n ph) QQ EE s6:=by
  intro σ6 H6 QQ EE I6 q6
  have Mc:=I6.F_ I3.ok
  obtain⟨m,Md,Rf⟩:=id Mc.loc
  exact wpAny_nameGoes_keeps hn Md (by rw[I3.ok.kind];rfl) fun h7 v Rg Rh=>q6 _ (Mc.gone hN hj Md Rf Rg Rh)
 cases Rc with
 | next=>
  obtain⟨σ6,H6,I6,q6⟩:=z
  exact goes I6 fun s7 I7=>⟨_,H6,I7,q6⟩
 | brk=>
  obtain⟨σ6,H6,I6,q6⟩:=z
  exact goes I6 fun s7 I7=>⟨_,H6,I7,q6⟩
 | cont=>
  obtain⟨σ6,H6,I6,q6⟩:=z
  exact goes I6 fun s7 I7=>⟨_,H6,I7,q6⟩
 | ret u=>
  obtain⟨v,σ6,H6,I6,rv,q6⟩:=z
  exact goes I6 fun s7 I7=>⟨v,_,H6,I7,rv,q6⟩
theorem vb (I3:Inv X pins σ H s) (EI:H a=some (xo false a C od)) (cC:XC X.K C bm) (hc:(Value.ref C::bm).contains (.ref D)=false)
  (hD:Gl X dn) (yt:X.mg dn=some (.ref D)) (cD:XC X.K D mY) (hdD:(dn == ("__debug__":Str))=false) {nm:Option Str} {body:List Stmt}
  (k:wpAny (model X.prog X.w) X.A (handleBy (.ref a) X.env rest) (SP X pins G) X.xe s):
  wpAny (model X.prog X.w) X.A (handleBy (.ref a) X.env (.ExceptHandler (some (.Name dn pd)) nm body ph::rest)) (SP X pins G) X.xe s:=by
 refine wpAny_handleBy_cons (codeAny_handlers_test ?_) (by intro q;cases q)
 refine gM (X:=X.suite a) (I3.suite a) hD yt ?_ hdD
 obtain⟨o3,v3,q1,q2,_⟩:=I3.kR EI
 refine BD I3.gi cC cD q1 q2 ?_
 rw[hc]
 exact k
end
def KH (K:PySem.W.Frag) (D D2:Addr) (sp:Sp) (i j:Nat) (ta:TA) (ts EK:TS):TS:=fun G σ H=>ta σ H fun vs H1=>sp vs H1 (fun v H2=>G.nx (σ.set i (some v)) H2)
 fun ev od H2=>∃(a C:Addr) (bm:List Value),ev=.ref a∧H2 a=some (xo false a C od)∧XC K C bm∧
  (((Value.ref C::bm).contains (.ref D)=true∧ts (IM G j) (σ.set j (some (.ref a))) H2)∨
   ((Value.ref C::bm).contains (.ref D)=false∧(Value.ref C::bm).contains (.ref D2)=true∧EK (IM G j) (σ.set j (some (.ref a))) H2))
section
variable {X:Cx} {k:Nat} {D D2 f:Addr} {mY NB:List Value} {fd:FuncData} {ps:List Str} {sp:Sp} {x y n dn EL:Str} {px pf pc pa pd Ri ph Rj pos:Pos} {e:Expr} {es:List Expr} {t:TA} {i j:Nat} {b₀ b₂:Stmt} {suite BS:List Stmt} {ts EK:TS}
theorem Gf (F:bC X.prog X.w X.K X.mg X.base (cy X.prog X.w) k f fd ps sp) (hr:aO k X.A) (hg:Gl X y) (hm:X.mg y=some (.ref f)) (hk:PySem.W.keepIn X.K (.ref f)=true) (hb:Binds X.K fd ps []) (ha:PA X.AX (e::es) t)
  (hN:X.N.Nodup) (hi:X.N[i]? =some x) (hx:Loc X.env.scope x) (hh:Head X) (hD:Gl X dn) (yt:X.mg dn=some (.ref D)) (cD:XC X.K D mY) (hD2:Gl X EL) (NC:X.mg EL=some (.ref D2)) (Rk:XC X.K D2 NB) (hj:X.N[j]? =some n) (hn:X.env.scope.names.lookup n=some .local)
  (hs:∀a,gL (X.suite a) (b₀::suite) ts) (hs2:∀a,gL (X.suite a) (b₂::BS) EK) (hdb:(y == ("__debug__":Str))=false:=by decide) (hdD:(dn == ("__debug__":Str))=false:=by decide) (ND:(EL == ("__debug__":Str))=false:=by decide) (he:starEach (e::es) X.env=(false,eval e X.env)::starEach es X.env:=by rfl) (hpl:(backTo pc (starEach es X.env)).any (·.1)=false:=by rfl)
  (hsw:swapsWith (.Call (.Name y pf) (e::es) [] pc) (some (.Name x px)) pa.line X.env=pure false:=by rfl) (hfx:X.fn x=true∨X.env.scope.names.lookup x=some .local:=by first | exact .inl rfl | exact .inr rfl | assumption):
  PS X (.Try [.Assign [.Name x px] (.Call (.Name y pf) (e::es) [] pc) pa] [.ExceptHandler (some (.Name dn pd)) (some n) (b₀::suite) ph,.ExceptHandler (some (.Name EL Ri)) (some n) (b₂::BS) Rj] [] [] pos) (KH X.K D D2 sp i j t ts EK):=by
 intro pins s σ H G I h
 refine wpAny_Try_except (wpAny_execs_cons (wpAny_Assign_Name ?_ hsw))
 refine wpAny_Call_Name_kw (gM I hg hm ?_ hdb)
 have ha':=ha pc pins s σ H _ (I.wish _) h
 refine PySem.W.callWith_K (h₀:=X.base) I.ok.mod.n_ hk (wpAny_mono ha' (fun us s1 z=>?_) fun _ _ z=>False.elim z) he hpl
 obtain⟨vs,H1,I1,r,q⟩:=z
 have I1:=I1.gW
 refine⟨I1.gi,?_⟩
 have len:(us++([]:List Value)).length=ps.length:=by
  rw[List.append_nil,←r.length]
  exact F.len _ _ _ _ q
 have b2:=hb s1 us I1.gi len
 rw[List.append_nil] at b2
 refine wpAny_call (codeAny_mono (F.run X.A X.stack s1 H1 ⟨us,[]⟩ us vs _ _ hr I1.env0 b2 r q) fun res s2 c=>?_)
 cases res with
 | ok fl=>
  cases fl with
  | ret u=>
   obtain⟨v,H2,I2,rv,q2⟩:=I1.after c
   refine ig I2 hN hi hx rv (fun s3 I3=>wpAny_execs_nil ?_) hfx
   exact wpAny_execs_nil ⟨_,H2,I3,q2⟩
  | next=>exact False.elim c
  | brk=>exact False.elim c
  | cont=>exact False.elim c
 | error ev=>
  dsimp only[CR] at c
  obtain⟨a,C',od,H2,rfl,I2,Vf,fl,hE⟩:=cy.after I1 c
  obtain⟨a',C,bm,ea,Ha,cC,hc⟩:=hE
  cases ea
  have yu:=fun T hT=>I1.beyond (T:=T) hT
  refine rV I2 rfl hh Ha (.inr ⟨_,fl,yu⟩) fun h3 I3 va=>?_
  rw[lN Ha] at I3 va
  have EJ:∀T,_≤T→Free X pins T:=fun T hT=>I2.beyond (T:=T) hT
  rcases hc with⟨hc,kk⟩ | ⟨hc,hc2,kk⟩
  ·exact m5 I3 Ha va EJ cC hc hN hD yt cD hj hn hs hdD kk
  ·exact vb I3 Ha cC hc hD yt cD hdD (m5 I3 Ha va EJ cC hc2 hN hD2 NC Rk hj hn hs2 ND kk)
end
section
variable {X:Cx}
theorem m6:∀l:List (Str×Tok),Vals ((l.map (·.1)).map V.str) (strValues l)
 | []=>.nil
 | (x,t)::l=>.cons ⟨t,rfl⟩ (m6 l)
def IP:V→List V→Hp→VK→Prop:=fun x vs H Q=>∃z y:Str,x=.str z∧vs=[.str y]∧z.length≤1000000∧1≤y.length∧∀p,H p=none→Q (.ref p) (upd H p (.lst ((Txt.split z y).map V.str)))
theorem jJ:rC X "str.split" IP:=by
 intro pins s σ H x vs v us Q I rx rv h
 obtain⟨z,y,rfl,rfl,hz,hy1,q⟩:=h
 obtain⟨t,rfl⟩:=rx
 obtain⟨u,rfl,ru⟩:=rv.one
 obtain⟨t2,rfl⟩:=ru
 have hy:(y.length == 0)=false:=by rw[beq_eq_false_iff_ne];omega
 have ho:=StrLaws.occ_length_le z y 0 z.length (z.length+1)
 have hn:(Builtin.Str.partsBetween z (Builtin.Str.occurrences z y 0 z.length (z.length+1)) y.length).length≤sizeLine:=by
  rw[len_partsBetween,sizeLine_eq];omega
 have hx:z.length≤sizeLine:=by rw[sizeLine_eq];omega
 have fin:∀(l:List (Str×Tok)) (tk:Nat),l.map (·.1)=Txt.split z y→(Txt.split z y).length≤sizeLine→EP X pins σ Q (.ref s.heap.objs.size) {s with heap:=s.heap.push {cls:=.type "list",data:=.seq (strValues l).toArray},toks:=tk}:=fun l tk e hl=>by
  refine⟨.ref s.heap.objs.size,_,I.uy (its:=strValues l) (t':=tk) (m6 l) (by rw[List.length_map,e];exact hl),rfl,?_⟩
  rw[e]
  exact q _ I.fresh
 cases h1:(decide (z.length<y.length)||decide (Builtin.Str.strKind z<Builtin.Str.strKind y))
 ·cases hf:(Builtin.Str.occurrences z y 0 z.length (z.length+1)).isEmpty
  ·have es:Txt.split z y=Builtin.Str.partsBetween z (Builtin.Str.occurrences z y 0 z.length (z.length+1)) y.length:=(if_neg (ne_true_of_eq_false h1)).trans (if_neg (ne_true_of_eq_false hf))
   refine call_meets PySem.F.slot_str_split (typeIs_str _ _ _) PySem.F.entry_str_split (PySem.F.args_str_split_2 _ _) (meets_str_split_sep z y t t2 h1 hy hf hx hn) ?_
   show EP X pins σ Q _ {s with toks:=_,heap:=s.heap.push {cls:=.type "list",data:=.seq (strsFrom s.toks (Builtin.Str.partsBetween z (Builtin.Str.occurrences z y 0 z.length (z.length+1)) y.length)).toArray}}
   rw[strsFrom_eq]
   exact fin (numbered s.toks _) _ ((numbered_texts _ _).trans es.symm) (by rw[es];exact hn)
  ·have es:Txt.split z y=[z]:=(if_neg (ne_true_of_eq_false h1)).trans (if_pos hf)
   exact call_meets PySem.F.slot_str_split (typeIs_str _ _ _) PySem.F.entry_str_split (PySem.F.args_str_split_2 _ _) (meets_str_split_not_found z y t t2 h1 hy hf) (fin [(z,t)] s.toks es.symm (by rw[es];show 1≤sizeLine;decide))
 ·have es:Txt.split z y=[z]:=if_pos h1
  exact call_meets PySem.F.slot_str_split (typeIs_str _ _ _) PySem.F.entry_str_split (PySem.F.args_str_split_2 _ _) (meets_str_split_cannot_occur z y t t2 h1) (fin [(z,t)] s.toks es.symm (by rw[es];show 1≤sizeLine;decide))
def IQ:V→List V→Hp→VK→Prop:=fun x vs H Q=>∃z:Str,x=.str z∧vs=[]∧(∀c∈z.cps.toList,c<128)∧z.length≤1000∧Q (.str ⟨z.cps.map lo1⟩) H
theorem DE:rC X "str.lower" IQ:=by
 intro pins s σ H x vs v us Q I rx rv h
 obtain⟨z,rfl,rfl,ha,hz,q⟩:=h
 obtain⟨t,rfl⟩:=rx
 cases rv
 refine SC.lower ?_ ?_
 ·rw[lower_ascii ha]
  show Builtin.Str.tooLong (z.cps.map lo1).size=false
  rw[Array.size_map]
  show decide _=false
  exact decide_eq_false (by rw[sizeLine_eq];show ¬z.length>_;omega)
 ·rw[lower_ascii ha]
  exact⟨.str _,H,I.tok _,⟨_,rfl⟩,q⟩
theorem se:cZ X (.type "int") (fun xs H Q=>∃(z:Str) (n:Int),xs=[.str z]∧PySem.intText? z=some n∧z.length≤640∧Q (.int n) H):=by
 intro pins s σ H xs us Q I r h
 obtain⟨z,n,rfl,hn,hl,q⟩:=h
 obtain⟨u,rfl,t,rfl⟩:=vals1 r
 exact PySem.W.KIN.call_text hn hl ⟨.int n,H,I.tok _,⟨_,rfl⟩,q⟩
abbrev TJ:=St→Hp→Str→VK→Prop
def PJ (X:Cx) (es:List Expr) (t:TJ):Prop:=
 ∀(pins:List (Addr×Obj)) (s:Shared) (σ:St) (H:Hp) (out:Str) (Q:VK),Inv X pins σ H s→t σ H out Q→wpAny (model X.prog X.w) X.A (joinParts out (evalEach es X.env)) (EP X pins σ Q) X.xe s
def NF:TJ:=fun _ H out Q=>out.length≤1000000∧Q (.str out) H
def NG (a:Str) (t:TJ):TJ:=fun σ H out Q=>(out++a).length≤1000000∧t σ H (out++a) Q
def NH (te:TE) (t:TJ):TJ:=fun σ H out Q=>te σ H fun v H1=>(∃i:Int,v=.int i∧i.natAbs.log2<1920∧(out++Str.ofString (toString i)).length≤1000000∧t σ H1 (out++Str.ofString (toString i)) Q)∨
 ∃y:Str,v=.str y∧(out++y).length≤1000000∧t σ H1 (out++y) Q
theorem BU:PJ X [] NF:=fun _ _ _ H out Q I h=>joinParts_nil ⟨.str out,H,I.tok _,⟨_,rfl⟩,h.2⟩ (by rw[sizeLine_eq];have:=h.1;omega)
theorem BV {a:Str} {j:Nat} {p:Pos} {es:List Expr} {t:TJ} (h:PJ X es t):PJ X (.Constant (.str a) j p::es) (NG a t):=by
 intro pins s σ H out Q I hq
 refine joinParts_cons (Calls.Constant_str ⟨by rw[sizeLine_eq];have:=hq.1;omega,?_⟩)
 exact h pins _ σ H _ Q (I.tok _) hq.2
theorem BW {e:Expr} {te:TE} {p:Pos} {es:List Expr} {t:TJ} (he:PE X e te) (h:PJ X es t):PJ X (.FormattedValue e (-1) none p::es) (NH te t):=by
 intro pins s σ H out Q I hq
 refine joinParts_cons (FormattedValue_plain (aG (he pins s σ H _ I hq) fun u s1 ⟨v,H1,I1,rv,q⟩=>?_))
 rcases q with⟨i,rfl,hi,hl,q⟩ | ⟨y,rfl,hl,q⟩
 ·obtain⟨t,rfl⟩:=rv
  exact formatField_int_small hi ⟨by rw[sizeLine_eq];omega,h pins _ σ H1 _ Q (I1.tok _) q⟩
 ·obtain⟨t,rfl⟩:=rv
  have hy:y.length≤sizeLine:=by rw[sizeLine_eq];rw[strLen_append] at hl;omega
  exact formatField_str (fun t' tk=>⟨by rw[sizeLine_eq];omega,h pins _ σ H1 _ Q (I1.tok tk) q⟩) hy
def tJ (t:TJ):TE:=fun σ H Q=>t σ H Str.empty Q
theorem yv {a b:Expr} {es:List Expr} {t:TJ} {pos:Pos} (h:PJ X (a::b::es) t):PE X (.JoinedStr (a::b::es) pos) (tJ t):=fun pins s σ H Q I hq=>JoinedStr_many (h pins s σ H _ Q I hq)
def Gg:V→List V→Hp→VK→Prop:=fun x vs H Q=>∃(d:Addr) (kvs:List (Key×V)),x=.ref d∧vs=[]∧H d=some (.dK kvs)∧Q .non (upd H d (.dK []))
theorem BX:rC X "dict.clear" Gg:=by
 intro pins s σ H x vs v us Q I rx rv h
 obtain⟨d,kvs,rfl,rfl,hd,q⟩:=h
 cases rx
 cases rv
 obtain⟨z1,l1,ws,r1,d1⟩:=nM I.hok hd
 refine call_meetsIn PySem.F.slot_dict_clear d1.typeIs PySem.F.entry_dict_clear (PySem.F.args_dict_clear_1 _) (meets_dict_clear (bq X.prog X.w) d) ⟨ws,d1,by rw[←r1.length];exact z1,fun h' hm sb=>?_⟩
 refine⟨.non,_,I.write (x:=d) (e:=d) (o:=.dK []) (h':=h') (t':=s.toks) (by rw[hd];trivial) (.inl rfl) (fun b o nb e=>(sb.2 b nb).trans e) ?_ ⟨Nat.zero_le _,l1,[],.nil,hm⟩,rfl,q⟩
 obtain⟨o,_,_,e,_⟩:=hm
 exact⟨o,e⟩
end
theorem tail_range (m:Nat):(List.range m).map (fun k=>m-k)=((List.range m).map (1+ ·)).reverse:=by
 apply List.ext_getElem
 ·simp
 ·intro i h1 h2
  simp at h1 h2
  rw[List.getElem_map,List.getElem_reverse,List.getElem_map]
  simp
  omega
theorem pP (m:Nat):sliceRange ((m:Nat):Int) 0 (-1)=(List.range m).map fun k=>m-k:=by
 unfold sliceRange
 have h1:¬((-1:Int)>0):=by decide
 by_cases h:(m:Int)>0
 ·have e:((m:Int)-0- -1-1) / (- -1)=(m:Int):=by
   rw[show(- -1:Int)=1 by decide,Int.ediv_one]
   omega
  simp only[h1,if_false,h,if_true,e,Int.toNat_natCast]
  apply List.map_congr_left
  intro k hk
  omega
 ·have e:m=0:=by omega
  subst e
  simp
theorem BZ (items:Array Value) (hz:1≤items.size):slicePick items none (some 0) (some (-1))=(items.toList.drop 1).reverse.toArray:=by
 unfold slicePick
 have hb:sliceBounds none (some 0) (some (-1)) items.size=(((items.size-1:Nat):Int),0, -1):=by
  unfold sliceBounds
  simp
  omega
 rw[hb]
 show((sliceRange (((items.size-1:Nat):Int)) 0 (-1)).filterMap (items[·]?)).toArray=_
 rw[pP,tail_range,List.filterMap_reverse,pick_run,List.take_of_length_le (by rw[List.length_drop,Array.length_toList];omega)]
section
variable {X:Cx} {e:Expr} {lo hi:Option Expr} {st:Expr} {te:TE} {tl th tk:TO} {p2 pos:Pos}
def IT (K:PySem.W.Frag) (x:V) (l u k:Option Int):Hp→VK→Prop:=fun H Q=>∃a xs,l=none∧u=some 0∧k=some (-1)∧x=.ref a∧cF K H a xs∧1≤xs.length∧∀p,H p=none→Q (.ref p) (upd H p (.lst (xs.drop 1).reverse))
def IU (K:PySem.W.Frag) (te:TE) (tl th tk:TO):TE:=fun σ H Q=>te σ H fun x H1=>tl σ H1 fun l H2=>th σ H2 fun u H3=>tk σ H3 fun k H4=>IT K x l u k H4 Q
theorem DF (K:PySem.W.Frag) (he:PE X e te) (hl:PO X lo tl) (hu:PO X hi th) (hk:PO X (some st) tk) (hK:X.K=K:=by rfl):PE X (.Subscript e (.Slice lo hi (some st) p2) pos) (IU K te tl th tk):=by
 subst hK
 intro pins s σ H Q I h
 refine Subscript_ (aG (he pins s σ H _ I h) fun v s1 ⟨x,H1,I1,r1,q1⟩=>?_)
 refine wpAny_Slice (aG (hl pins s1 σ H1 _ I1 q1) fun vl s2 ⟨l,H2,I2,pl,q2⟩=>aG (hu pins s2 σ H2 _ I2 q2) fun vu s3 ⟨u,H3,I3,pu,q3⟩=>aG (hk pins s3 σ H3 _ I3 q3) fun vk s4 ⟨k,H4,I4,pk,q4⟩=>?_)
 obtain⟨a,xs,rfl,rfl,rfl,rfl,hx,h1,q⟩:=q4
 cases pl
 cases pk with
 | int i t=>
  cases pu with
  | int i' t'=>
   cases r1
   have I5:Inv X pins σ H4 {s4 with heap:=s4.heap.push {cls:=.type "slice",data:=.fields #[.none,.int 0 t',.int (-1) t]}}:=I4.kept (t':=s4.toks) fun b ob q=>Heap.get?_push_of_some _ q
   obtain⟨its,r,ht,hz⟩:=I5.list hx
   have hlen:its.toArray.size=xs.length:=by rw[List.size_toArray];exact r.length.symm
   show wpAny (model X.prog X.w) X.A (subscriptTail e (.Slice lo hi (some st) p2) (.ref a) (.ref s4.heap.objs.size)) (EP X pins σ Q) X.xe {s4 with heap:=s4.heap.push {cls:=.type "slice",data:=.fields #[.none,.int 0 t',.int (-1) t]}}
   refine tail_any (ops:=[.ref a,.ref s4.heap.objs.size]) ht.isList.typeIs list_getitem_lookup ?_ (by with_unfolding_all rfl)
   refine wpAny_getItem_list_slice (lo:=none) (hi:=some 0) (st:=some (-1)) ht.isList (Heap.IsSliceOf.new ..) .none (.int _ _) (.int _ _) (by decide) ?_ (by rw[hlen];exact hz)
   rw[BZ _ (by rw[hlen];exact h1)]
   refine⟨.ref _,_,I5.laid (o:=.lst (xs.drop 1).reverse) (t':=s4.toks) (fun _ _ q=>Heap.get?_push_of_some _ q) (Nat.le_refl _) ?_,rfl,q _ (I5.hok.fresh (Nat.le_refl _))⟩
   exact⟨by rw[List.length_reverse,List.length_drop];omega,_,0,qp (Vals.drop 1 r),Heap.get?_push_size _ rfl⟩
end
theorem DG {z:Str} {g:TG} {tt:TT} {te:TE} {D:Addr} {σ:St} {H:Hp} {R:Hp→Prop} (Pv:Nat→St→Hp→Prop) (h0:Pv 0 σ H)
  (hs:∀i c σ H,z.cps[i]? =some c→Pv i σ H→g (.str ⟨#[c]⟩) σ H fun σ2 H2=>tt σ2 H2 fun b H3=>if b=true then te σ2 H3 fun y H4=>∃ys,H4 D=some (.lst ys)∧ys.length<sizeLine∧Pv (i+1) σ2 (upd H4 D (.lst (ys++[y]))) else Pv (i+1) σ2 H3)
  (hd:∀σ H,Pv z.cps.size σ H→R H):i6 (Its z) g tt te D σ H R:=by
 refine⟨fun i m σ H=>m=z.cps.size-i∧i≤z.cps.size∧Pv i σ H,⟨z.cps.size,by simp,Nat.zero_le _,h0⟩,?_⟩
 rintro i m σ H ⟨rfl,hi,p⟩
 by_cases hlt:i<z.cps.size
 ·refine .inr ⟨hlt,Pv (i+1),fun σ' H' p'=>⟨z.cps.size-(i+1),by omega,rfl,hlt,p'⟩,fun x H' y=>?_⟩
  obtain⟨rfl,c,hc,rfl⟩:=y
  exact hs i c σ _ hc p
 ·have e:i=z.cps.size:=by omega
  subst e
  exact .inl ⟨Nat.le_refl _,hd σ H p⟩
def m7 (l:List Nat) (lo hi:Option Int):List Nat:=(l.drop (HT.aM l.length 0 lo)).take (HT.aM l.length l.length hi-HT.aM l.length 0 lo)
theorem EM (v:Int) (n:Nat):max 0 (min (if v<0 then v+(n:Int) else v) (n:Int))=((HT.aM n 0 (some v):Nat):Int):=by
 show _=(((if v<0 then(v+(n:Int)).toNat else min v.toNat n):Nat):Int)
 split<;>omega
theorem dS (x:Str) (lo hi:Option Int):(Txt.slice x lo hi).cps.toList=m7 x.cps.toList lo hi:=by
 have hx:x.cps.toList.length=x.length:=by simp[Str.length]
 have h2:HT.aM x.length x.length hi≤x.length:=HT.uo _ _ (Nat.le_refl _) _
 have h1:HT.aM x.length 0 lo≤x.length:=HT.uo _ _ (Nat.zero_le _) _
 have ei:Builtin.Str.strSliceIndices lo hi 1 x.length=(List.range (HT.aM x.length x.length hi-HT.aM x.length 0 lo)).map (fun k=>HT.aM x.length 0 lo+k):=by
  have e1:∀o:Option Int,(match o with | none=>(0:Int) | some i=>max 0 (min (if i<0 then i+(x.length:Int) else i) (x.length:Int)))=((HT.aM x.length 0 o:Nat):Int):=fun o=>by
   cases o with
   | none=>rfl
   | some v=>exact EM v x.length
  have e2:∀o:Option Int,(match o with | none=>(x.length:Int) | some i=>max 0 (min (if i<0 then i+(x.length:Int) else i) (x.length:Int)))=((HT.aM x.length x.length o:Nat):Int):=fun o=>by
   cases o with
   | none=>rfl
   | some v=>exact EM v x.length
  have e3:Builtin.Str.strSliceIndices lo hi 1 x.length=sliceRange ((HT.aM x.length 0 lo:Nat):Int) ((HT.aM x.length x.length hi:Nat):Int) 1:=by
   rw[←e1 lo,←e2 hi]
   unfold Builtin.Str.strSliceIndices
   simp only[show(1:Int)>0 from by decide,if_true]
   cases lo<;>cases hi<;>rfl
  rw[e3]
  unfold sliceRange
  simp only[show(1:Int)>0 from by decide,if_true]
  split
  ·rename_i hlt
   have e4:(((HT.aM x.length x.length hi:Nat):Int)-((HT.aM x.length 0 lo:Nat):Int)+1-1) / 1=((HT.aM x.length x.length hi-HT.aM x.length 0 lo:Nat):Int):=by rw[Int.ediv_one];omega
   rw[e4,Int.toNat_natCast]
   refine List.map_congr_left fun k _=>?_
   omega
  ·rename_i hlt
   have:HT.aM x.length x.length hi-HT.aM x.length 0 lo=0:=by omega
   rw[this]
   rfl
 unfold Txt.slice
 split
 ·rename_i hw
  rw[Bool.and_eq_true] at hw
  have hl:=beq_iff_eq.mp hw.2
  rw[ei,List.length_map,List.length_range] at hl
  unfold m7
  rw[hx]
  have z1:HT.aM x.length 0 lo=0∨x.length=0:=by omega
  have z2:x.cps.toList.drop (HT.aM x.length 0 lo)=x.cps.toList:=by
   rcases z1 with z | z
   ·rw[z,List.drop_zero]
   ·have:x.cps.toList=[]:=List.length_eq_zero_iff.mp (by rw[hx];exact z)
    rw[this];simp
  rw[z2,List.take_of_length_le (by rw[hx];omega)]
 ·show(((Builtin.Str.strSliceIndices lo hi 1 x.length).filterMap (x.cps[·]?)).toArray).toList=_
  rw[ei]
  unfold m7
  rw[hx]
  have:=StrLaws.picks x.cps.toList (HT.aM x.length x.length hi-HT.aM x.length 0 lo) (HT.aM x.length 0 lo)
  by_cases c:HT.aM x.length 0 lo≤HT.aM x.length x.length hi
  ·have:=this (by rw[hx];omega)
   simpa using this
  ·have z:HT.aM x.length x.length hi-HT.aM x.length 0 lo=0:=by omega
   rw[z];simp
theorem yw (x:Str) (c:Nat):(!(Builtin.Str.occurrences x ⟨#[c]⟩ 0 x.length 1).isEmpty)=decide (c∈x.cps.toList):=StrLaws.found_one x c
def oO (P:Program) (w:World) (A:Around) (s:Shared) (y x:Value) (b:Bool):Prop:=∀(E:Value→Shared→Prop) (Q:Bool→Shared→Prop),Q b s→wpAny (model P w) A (eqBool y x) Q E s
theorem oO.of {P:Program} {w:World} {A:Around} {s:Shared} {y x:Value} {b:Bool} (h:SeqAt.EqAt A s y x b):oO P w A s y x b:=fun E Q q=>h P w E Q q
section
variable {prog:Program} {w:World} {A:Around} {E:Value→Shared→Prop} {s:Shared}
theorem tD {a b:Addr} {xs ys:Array Value} {P:Fin→Shared→Prop} (ha:s.heap.IsTuple a xs) (hb:s.heap.IsTuple b ys) (hl:xs.size=ys.size) (he:∀(j:Nat) x y,xs.toList[j]? =some x→ys.toList[j]? =some y→oO prog w A s x y true)
  (h:P (.done (.ret (.bool true))) s):wpAny (model prog w) A (Builtin.«tuple.__eq__» ⟨[.ref a,.ref b],[]⟩) P E s:=by
 have hTb:=hb.typeIs
 obtain⟨oa,hoa,_,na,hda⟩:=ha
 obtain⟨ob,hob,_,nb,hdb⟩:=hb
 show wpAny _ _ (isInstance (.ref b) (.type "tuple") >>= _) _ _ s
 refine wpAny_bind (wpAny_isInstance hTb isSubtype_tuple_tuple ?_)
 simp only[Bool.not_true,Bool.false_eq_true,if_false]
 refine wpAny_bind (wpAny_tupleItemsOf hoa hda ?_)
 refine wpAny_bind (wpAny_tupleItemsOf hob hdb ?_)
 refine wpAny_bind ?_
 refine wpAny_forIn_list _ (fun rest r s'=>r.1=none∧s'=s∧∃i,rest=(List.zip xs.toList ys.toList).drop i) _ ?_ ?_ _ _ ⟨rfl,rfl,0,rfl⟩
 ·rintro⟨u,v⟩ rest r s' ⟨hr,rfl,i,hz⟩
  have hz':(List.zip xs.toList ys.toList)[i]? =some (u,v):=by
   have:=congrArg (fun l=>l[0]?) hz
   simpa[List.getElem?_drop] using this.symm
  rw[List.getElem?_zip_eq_some] at hz'
  refine wpAny_bind (he i u v hz'.1 hz'.2 _ _ ?_)
  simp only[Bool.not_true,Bool.false_eq_true,if_false]
  refine wpAny_pure ⟨rfl,rfl,i+1,?_⟩
  have:=congrArg List.tail hz
  simpa using this
 ·rintro⟨r1,r2⟩ s' ⟨hr,rfl,i,hz⟩
  simp only at hr
  subst hr
  refine wpAny_pure ?_
  show P (.done (.ret (Builtin.Tuple.tupleCompareSizes .Eq xs.size ys.size))) s'
  rw[hl]
  simpa[Builtin.Tuple.tupleCompareSizes] using h
theorem tE {a b:Addr} {xs ys:Array Value} {P:Fin→Shared→Prop} (ha:s.heap.IsTuple a xs) (hb:s.heap.IsTuple b ys) (hl:xs.size=ys.size) (he:∀(j:Nat) x y,xs.toList[j]? =some x→ys.toList[j]? =some y→oO prog w A s x y true)
  (h:P (.done (.ret (.bool false))) s):wpAny (model prog w) A (Builtin.«tuple.__ne__» ⟨[.ref a,.ref b],[]⟩) P E s:=by
 have hTb:=hb.typeIs
 obtain⟨oa,hoa,_,na,hda⟩:=ha
 obtain⟨ob,hob,_,nb,hdb⟩:=hb
 show wpAny _ _ (isInstance (.ref b) (.type "tuple") >>= _) _ _ s
 refine wpAny_bind (wpAny_isInstance hTb isSubtype_tuple_tuple ?_)
 simp only[Bool.not_true,Bool.false_eq_true,if_false]
 refine wpAny_bind (wpAny_tupleItemsOf hoa hda ?_)
 refine wpAny_bind (wpAny_tupleItemsOf hob hdb ?_)
 refine wpAny_bind ?_
 refine wpAny_forIn_list _ (fun rest r s'=>r.1=none∧s'=s∧∃i,rest=(List.zip xs.toList ys.toList).drop i) _ ?_ ?_ _ _ ⟨rfl,rfl,0,rfl⟩
 ·rintro⟨u,v⟩ rest r s' ⟨hr,rfl,i,hz⟩
  have hz':(List.zip xs.toList ys.toList)[i]? =some (u,v):=by
   have:=congrArg (fun l=>l[0]?) hz
   simpa[List.getElem?_drop] using this.symm
  rw[List.getElem?_zip_eq_some] at hz'
  refine wpAny_bind (he i u v hz'.1 hz'.2 _ _ ?_)
  simp only[Bool.not_true,Bool.false_eq_true,if_false]
  refine wpAny_pure ⟨rfl,rfl,i+1,?_⟩
  have:=congrArg List.tail hz
  simpa using this
 ·rintro⟨r1,r2⟩ s' ⟨hr,rfl,i,hz⟩
  simp only at hr
  subst hr
  refine wpAny_pure ?_
  show P (.done (.ret (Builtin.Tuple.tupleCompareSizes .NotEq xs.size ys.size))) s'
  rw[hl]
  simpa[Builtin.Tuple.tupleCompareSizes] using h
end
def t7 (K:PySem.W.Frag) (H:Hp) (k1 k2:List (Key×V)):Prop:=k1.length=k2.length∧∀p∈k1,∃v' d,cH k2 p.1=some v'∧au K H p.2 d∧au K H v' d∧d.dep≤30
section
variable {X:Cx} {pins:List (Addr×Obj)} {σ:St} {H:Hp} {s:Shared}
theorem B_ {A:Around} {us:List (Key×Value)} {k2:List (Key×V)} (I:Inv X pins σ H s) (hA:A.units+30<cLine) (r2:KV k2 us):∀{k1:List (Key×V)} {vs:List (Key×Value)},KV k1 vs→(∀p∈k1,∃v' d,cH k2 p.1=some v'∧au X.K H p.2 d∧au X.K H v' d∧d.dep≤30)→PySem.W.KeqHits A s us vs true:=by
 intro k1
 induction k1 with
 | nil=>intro vs r _;cases r;exact .nil
 | cons p ps ih=>
  intro vs r hm
  cases r with
  | @cons _ q _ qs h t=>
   obtain⟨k,u⟩:=q
   obtain⟨v',d,e1,d1,d2,dd⟩:=hm p List.mem_cons_self
   have k1:p.1=k:=h.1
   have rr:=r2.val p.1
   rw[e1] at rr
   obtain⟨u',eu,ru⟩:=ic.some_of rr
   rw[k1] at eu
   have he:=jD I d A d p.2 v' u u' (by omega) d1 d2 h.2 ru
   rw[Dt.beq_refl] at he
   have:=PySem.W.KeqHits.hit (e:=true) (b:=true) eu he (ih t fun p hp=>hm p (List.mem_cons_of_mem _ hp))
   exact this
theorem B0 {A:Around} {D1 D2:Addr} {k1 k2:List (Key×V)} (I:Inv X pins σ H s) (h1:H D1=some (.dK k1)) (h2:H D2=some (.dK k2)) (hs:t7 X.K H k1 k2) (hA:A.units+40<cLine):oO X.prog X.w A s (.ref D1) (.ref D2) true:=by
 intro E Q q
 by_cases c:D1=D2
 ·subst c
  exact SeqAt.EqAt.same _ _ _ E Q q
 obtain⟨z1,l1,vs,r1,d1⟩:=nM I.hok h1
 obtain⟨z2,l2,us,r2,d2⟩:=nM I.hok h2
 unfold eqBool
 refine wpAny_holding ?_
 refine wpAny_ite_split (fun hab=>absurd (by have:=eq_of_beq hab;injection this) c) (fun _=>?_)
 refine wpAny_bind ?_
 show wpAny _ _ (compareOp .Eq (.ref D1) (.ref D2)) _ _ _
 refine PySem.W.keq_eq l1 l2 d1 d2 (by omega) (fun _=>B_ I (by show A.units+1+30<cLine;omega) r2 r1 hs.2) (wpAny_truthy_bool ?_)
 rw[←r1.length,←r2.length,hs.1,beq_self_eq_true]
 exact q
def Me (K:PySem.W.Frag) (b:Bool):R2:=fun x y H Q=>∃(a c D1 D2:Addr) (n:Int) (k1 k2:List (Key×V)),x=.ref a∧y=.ref c∧H a=some (.tup [.int n,.ref D1])∧H c=some (.tup [.int n,.ref D2])∧H D1=some (.dK k1)∧H D2=some (.dK k2)∧t7 K H k1 k2∧Q (.bl b) H
theorem pair_items {n:Int} {D1 D2:Addr} {u1 u2:List Value} {k1 k2:List (Key×V)} {A:Around} (I:Inv X pins σ H s) (r1:Vals [.int n,.ref D1] u1) (r2:Vals [.int n,.ref D2] u2) (h1:H D1=some (.dK k1)) (h2:H D2=some (.dK k2)) (hs:t7 X.K H k1 k2) (hA:A.units+40<cLine):
  ∀(j:Nat) x y,u1[j]? =some x→u2[j]? =some y→oO X.prog X.w A s x y true:=by
 obtain⟨a,b,rfl,⟨t,rfl⟩,rb⟩:=r1.two
 obtain⟨c,d,rfl,⟨t',rfl⟩,rd⟩:=r2.two
 cases rb
 cases rd
 intro j x y e1 e2
 match j with
 | 0=>
  cases e1;cases e2
  have:=SeqAt.EqAt.int_int (A:=A) (s:=s) n t n t'
  rw[beq_self_eq_true] at this
  exact oO.of this
 | 1=>cases e1;cases e2;exact B0 I h1 h2 hs hA
 | j+2=>cases e1
theorem Gh (K:PySem.W.Frag) (hu:X.A.units+64<cLine) (hK:X.K=K:=by rfl):bW X (compareOp .Eq) (Me K true):=by
 subst hK
 intro pins s σ H x y v u Q I rx ry h
 obtain⟨a,c,D1,D2,n,k1,k2,rfl,rfl,ha,hc,h1,h2,hs,q⟩:=h
 cases rx
 cases ry
 obtain⟨i1,r1,p1,_⟩:=I.tuple (.of ha)
 obtain⟨i2,r2,p2,_⟩:=I.tuple (.of hc)
 have t1:s.heap.IsTuple a i1.toArray:=p1
 have t2:s.heap.IsTuple c i2.toArray:=p2
 refine wpAny_richCompare_same_room (op:=.Eq) t1.typeIs t2.typeIs PySem.F.slot_tuple_eq (wpAny_call_entry PySem.F.slot_tuple_eq t1.typeIs PySem.F.entry_tuple_eq ?_ (PySem.F.args_tuple_eq_2 _ _)) (by omega)
 refine tD t1 t2 (by rw[List.size_toArray,List.size_toArray,←r1.length,←r2.length];rfl) (pair_items I r1 r2 h1 h2 hs (by show X.A.units+1+40<cLine;omega)) ⟨_,rfl,fun z=>(nomatch z),.bl true,H,I,rfl,q⟩
theorem Gi (K:PySem.W.Frag) (hu:X.A.units+64<cLine) (hK:X.K=K:=by rfl):bW X (compareOp .NotEq) (Me K false):=by
 subst hK
 intro pins s σ H x y v u Q I rx ry h
 obtain⟨a,c,D1,D2,n,k1,k2,rfl,rfl,ha,hc,h1,h2,hs,q⟩:=h
 cases rx
 cases ry
 obtain⟨i1,r1,p1,_⟩:=I.tuple (.of ha)
 obtain⟨i2,r2,p2,_⟩:=I.tuple (.of hc)
 have t1:s.heap.IsTuple a i1.toArray:=p1
 have t2:s.heap.IsTuple c i2.toArray:=p2
 refine wpAny_richCompare_same_room (op:=.NotEq) t1.typeIs t2.typeIs PySem.F.slot_tuple_ne (wpAny_call_entry PySem.F.slot_tuple_ne t1.typeIs PySem.F.entry_tuple_ne ?_ (PySem.F.args_tuple_ne_2 _ _)) (by omega)
 refine tE t1 t2 (by rw[List.size_toArray,List.size_toArray,←r1.length,←r2.length];rfl) (pair_items I r1 r2 h1 h2 hs (by show X.A.units+1+40<cLine;omega)) ⟨_,rfl,fun z=>(nomatch z),.bl false,H,I,rfl,q⟩
end
theorem ja {P:Program} {w:World} {K:PySem.W.Frag} {mg:Str→Option Value} {base:Heap} {N:List Str} {qual:Str} {scope:Scope} {fa:Addr} {cd:Value} {A:Around} {outer:List Env} {s₀:Shared} {H₀:Hp} {E:XK}:Passes (cy P w) (gg (cy P w) P w K mg base N qual scope fa cd A outer s₀ H₀ E) E:=
 BB fun a C dx H Ha h=>by rw[lN Ha];exact h
theorem vd {P:Program} {w:World} {X:Cx}:Passes (cy P w) X (fun _ _ _=>False):=fun _ _ _ _ _ _ _ ⟨_,_,_,_,_,_,_,_,_,_,_,h⟩=>h.elim
theorem jK (a b:Str):(a++b).cps.toList=a.cps.toList++b.cps.toList:=by
 show(a.cps++b.cps).toList=_
 rw[Array.toList_append]
theorem B2 {a b:Str} (h:a.cps.toList=b.cps.toList):a=b:=ft h
theorem dJ (a:Str):a.cps.toList.length=a.length:=by simp[Str.length]
def jn (c:Nat):List (List Nat)→List Nat
 | []=>[]
 | [x]=>x
 | x::y::r=>x++c::jn c (y::r)
theorem jl {c:Nat} {x:List Nat} {r:List (List Nat)} (h:r≠[]):jn c (x::r)=x++c::jn c r:=by
 cases r with
 | nil=>exact absurd rfl h
 | cons y r=>rfl
theorem df (c:Nat):∀l:List Str,(Str.join ⟨#[c]⟩ l).cps.toList=jn c (l.map fun x=>x.cps.toList)
 | []=>rfl
 | [x]=>rfl
 | x::y::r=>by
  have ih:=df c (y::r)
  show(x++⟨#[c]⟩++Str.join ⟨#[c]⟩ (y::r)).cps.toList=_
  rw[jK,jK,ih]
  show(x.cps.toList++[c])++_=x.cps.toList++c::_
  rw[List.append_assoc]
  rfl
theorem pQ {c:Nat}:∀{x y r s:List Nat},c ∉ x→c ∉ y→x++c::r=y++c::s→x=y∧r=s
 | [],[],r,s,_,_,h=>⟨rfl,(List.cons.inj h).2⟩
 | [],b::y,r,s,_,hy,h=>absurd (by rw[(List.cons.inj h).1];exact List.mem_cons_self) hy
 | a::x,[],r,s,hx,_,h=>absurd (by rw[←(List.cons.inj h).1];exact List.mem_cons_self) hx
 | a::x,b::y,r,s,hx,hy,h=>by
  obtain⟨h1,h2⟩:=List.cons.inj h
  obtain⟨e1,e2⟩:=pQ (fun z=>hx (List.mem_cons_of_mem _ z)) (fun z=>hy (List.mem_cons_of_mem _ z)) h2
  exact⟨by rw[h1,e1],e2⟩
theorem B3 {c:Nat}:∀{xs ys:List (List Nat)},xs≠[]→ys≠[]→(∀x∈xs,c ∉ x)→(∀y∈ys,c ∉ y)→jn c xs=jn c ys→xs=ys
 | [],_,h,_,_,_,_=>absurd rfl h
 | _::_,[],_,h,_,_,_=>absurd rfl h
 | [x],[y],_,_,_,_,h=>by rw[show x=y from h]
 | [x],y::y2::ys,_,_,hx,_,h=>by
  have h':x=y++c::jn c (y2::ys):=h
  exact absurd (by rw[h'];simp) (hx x List.mem_cons_self)
 | x::x2::xs,[y],_,_,_,hy,h=>by
  have h':x++c::jn c (x2::xs)=y:=h
  exact absurd (by rw[←h'];simp) (hy y List.mem_cons_self)
 | x::x2::xs,y::y2::ys,_,_,hx,hy,h=>by
  obtain⟨e1,e2⟩:=pQ (hx x List.mem_cons_self) (hy y List.mem_cons_self) (show x++c::jn c (x2::xs)=y++c::jn c (y2::ys) from h)
  rw[e1,B3 (by simp) (by simp) (fun z hz=>hx z (List.mem_cons_of_mem _ hz)) (fun z hz=>hy z (List.mem_cons_of_mem _ hz)) e2]
def spl (c:Nat) (x:Str):List Str:=Txt.split x ⟨#[c]⟩
theorem nh (c:Nat) (x:Str):spl c x≠[]:=by
 unfold spl Txt.split
 split
 ·simp
 ·split
  ·simp
  ·rw[StrLaws.partsBetween_eq]
   obtain⟨p,r,e⟩:=StrLaws.partsFrom_ne x (⟨#[c]⟩:Str).length 0 (Builtin.Str.occurrences x ⟨#[c]⟩ 0 x.length (x.length+1))
   rw[e];simp
theorem ve (c:Nat) (x:Str):∀p∈spl c x,c ∉ p.cps.toList:=StrLaws.split_free x c
theorem eX (c:Nat) (x:Str):jn c ((spl c x).map fun x=>x.cps.toList)=x.cps.toList:=by
 rw[←df,spl,StrLaws.join_split]
theorem mF:∀{l m:List Str},(l.map fun x=>x.cps.toList)=(m.map fun x=>x.cps.toList)→l=m
 | [],[],_=>rfl
 | [],_::_,h=>by cases h
 | _::_,[],h=>by cases h
 | x::l,y::m,h=>by
  rw[List.map_cons,List.map_cons] at h
  obtain⟨h1,h2⟩:=List.cons.inj h
  rw[B2 h1,mF h2]
theorem fK {c:Nat} {x:Str} {l:List Str} (hl:l≠[]) (hf:∀p∈l,c ∉ p.cps.toList) (e:x.cps.toList=jn c (l.map fun x=>x.cps.toList)):spl c x=l:=by
 refine mF (B3 (c:=c) ?_ ?_ ?_ ?_ ((eX c x).trans e))
 ·simpa using nh c x
 ·simpa using hl
 ·intro p hp
  obtain⟨q,hq,rfl⟩:=List.mem_map.mp hp
  exact ve c x q hq
 ·intro p hp
  obtain⟨q,hq,rfl⟩:=List.mem_map.mp hp
  exact hf q hq
theorem jL (c:Nat):∀{xs ys:List (List Nat)},xs≠[]→ys≠[]→jn c (xs++ys)=jn c xs++c::jn c ys
 | [],_,h,_=>absurd rfl h
 | [x],ys,_,h=>jl h
 | x::x2::xs,ys,_,h=>by
  show x++c::jn c ((x2::xs)++ys)=(x++c::jn c (x2::xs))++_
  rw[jL c (by simp) h,List.append_assoc]
  rfl
end L2
namespace My
open PySem L2
def top (i:Nat):Stmt:=PySem.Challenge.pw_figurejudge_k85_worlds_written_and_read.main.body.getD i (.Pass ⟨0,0,0,0⟩)
abbrev dU:Stmt:=top 7
abbrev fW:Stmt:=top 8
abbrev eI:Stmt:=top 9
abbrev dq:Stmt:=top 16
abbrev fu:Stmt:=top 17
abbrev dy:Stmt:=top 18
abbrev fv:Stmt:=top 19
abbrev dW:Stmt:=top 20
abbrev di:Stmt:=top 21
abbrev cW:Stmt:=top 22
abbrev dX:Stmt:=top 24
abbrev eY:Stmt:=top 25
abbrev dr:Stmt:=top 26
abbrev il:Stmt:=top 28
abbrev iq:Stmt:=top 29
abbrev dM:Stmt:=top 30
abbrev fX:Stmt:=top 31
abbrev gP:Stmt:=top 32
abbrev fM:Stmt:=top 33
abbrev dz:Stmt:=top 34
abbrev gQ:Stmt:=top 35
abbrev iu:Stmt:=top 36
abbrev fY:Stmt:=top 37
abbrev jb:Stmt:=top 38
set_option genInjectivity false in
set_option genSizeOf false in
structure fc where
 iG:Addr
 jM:FuncData
 jc:Addr
 kj:FuncData
 fN:Addr
 gB:FuncData
 g_:Addr
 iZ:FuncData
 gm:Addr
 g6:FuncData
 fg:Addr
 fZ:FuncData
 gq:Addr
 g7:FuncData
 gu:Addr
 g8:FuncData
 g9:Addr
 iH:FuncData
 eJ:Addr
 fh:FuncData
 iI:Addr
 jN:FuncData
 jd:Addr
 km:FuncData
 hJ:Addr
 i_:FuncData
 lP:Addr
 nj:FuncData
 lQ:Addr
 nq:FuncData
 jY:Addr
 lT:FuncData
 nR:Addr
 oP:FuncData
 jZ:Addr
 lU:FuncData
 j_:Addr
 lV:FuncData
 gC:Addr
 iw:FuncData
 j0:Addr
 lW:FuncData
 jO:Addr
 j1:FuncData
 je:Addr
 kn:FuncData
 zK:Addr
 B4:FuncData
structure Txt (K:PySem.W.Frag) (mg:Str→Option Value) (a:fc):Prop where
 wX:cV K "are_rooms" "are_rooms" dU a.iG a.jM
 wY:mg "are_rooms"=some (.ref a.iG)
 wZ:PySem.W.keepIn K (.ref a.iG)=true
 w_:Binds K a.jM ["leads","many"] []
 zL:cV K "is_right" "is_right" fW a.jc a.kj
 zM:mg "is_right"=some (.ref a.jc)
 zN:PySem.W.keepIn K (.ref a.jc)=true
 zO:Binds K a.kj ["base","row"] []
 vf:cV K "look_world" "look_world" eI a.fN a.gB
 vg:mg "look_world"=some (.ref a.fN)
 vh:PySem.W.keepIn K (.ref a.fN)=true
 vi:Binds K a.gB ["world"] []
 vj:cV K "is_made_of" "is_made_of" dq a.g_ a.iZ
 vm:mg "is_made_of"=some (.ref a.g_)
 vn:PySem.W.keepIn K (.ref a.g_)=true
 vo:Binds K a.iZ ["some","signs"] []
 w4:cV K "read_name" "read_name" fu a.gm a.g6
 w6:mg "read_name"=some (.ref a.gm)
 w8:PySem.W.keepIn K (.ref a.gm)=true
 xa:Binds K a.g6 ["some","signs"] []
 tF:cV K "read_figure" "read_figure" dy a.fg a.fZ
 mG:mg "read_figure"=some (.ref a.fg)
 mH:PySem.W.keepIn K (.ref a.fg)=true
 mI:Binds K a.fZ ["some"] []
 xb:cV K "read_base" "read_base" fv a.gq a.g7
 xc:mg "read_base"=some (.ref a.gq)
 xf:PySem.W.keepIn K (.ref a.gq)=true
 xg:Binds K a.g7 ["some"] []
 xh:cV K "read_room" "read_room" dW a.gu a.g8
 xi:mg "read_room"=some (.ref a.gu)
 xj:PySem.W.keepIn K (.ref a.gu)=true
 xk:Binds K a.g8 ["base","some"] []
 zP:cV K "read_row" "read_row" di a.g9 a.iH
 zQ:mg "read_row"=some (.ref a.g9)
 zR:PySem.W.keepIn K (.ref a.g9)=true
 zS:Binds K a.iH ["base","some"] []
 vp:cV K "read_world" "read_world" cW a.eJ a.fh
 hU:mg "read_world"=some (.ref a.eJ)
 hV:PySem.W.keepIn K (.ref a.eJ)=true
 hZ:Binds K a.fh ["text"] []
 xl:cV K "show_room" "show_room" dX a.iI a.jN
 xm:mg "show_room"=some (.ref a.iI)
 xp:PySem.W.keepIn K (.ref a.iI)=true
 xq:Binds K a.jN ["sign","leads"] []
 zT:cV K "show_row" "show_row" eY a.jd a.km
 zU:mg "show_row"=some (.ref a.jd)
 zW:PySem.W.keepIn K (.ref a.jd)=true
 zX:Binds K a.km ["name","row"] []
 vq:cV K "show_world" "show_world" dr a.hJ a.i_
 vt:mg "show_world"=some (.ref a.hJ)
 vv:PySem.W.keepIn K (.ref a.hJ)=true
 vw:Binds K a.i_ ["world"] []
 DH:cV K "_law_deck" "_law_deck" il a.lP a.nj
 DI:mg "_law_deck"=some (.ref a.lP)
 DJ:PySem.W.keepIn K (.ref a.lP)=true
 DK:Binds K a.nj ["_law_script","_law_many"] []
 DL:cV K "_law_next" "_law_next" iq a.lQ a.nq
 bu:mg "_law_next"=some (.ref a.lQ)
 bw:PySem.W.keepIn K (.ref a.lQ)=true
 bz:Binds K a.nq ["_law_deck_here","_law_many"] []
 B5:cV K "_law_names" "_law_names" dM a.jY a.lT
 B6:mg "_law_names"=some (.ref a.jY)
 B7:PySem.W.keepIn K (.ref a.jY)=true
 B8:Binds K a.lT ["_law_deck_here","_law_many","_law_great"] []
 Gj:cV K "_law_row" "_law_row" fX a.nR a.oP
 Gk:mg "_law_row"=some (.ref a.nR)
 Gm:PySem.W.keepIn K (.ref a.nR)=true
 Gn:Binds K a.oP ["_law_deck_here","_law_base"] []
 B9:cV K "_law_world" "_law_world" gP a.jZ a.lU
 B':mg "_law_world"=some (.ref a.jZ)
 Ca:PySem.W.keepIn K (.ref a.jZ)=true
 Cb:Binds K a.lU ["_law_deck_here"] []
 Cc:cV K "_law_lines" "_law_lines" fM a.j_ a.lV
 sf:mg "_law_lines"=some (.ref a.j_)
 sh:PySem.W.keepIn K (.ref a.j_)=true
 si:Binds K a.lV ["_law_world_here"] []
 tG:cV K "_law_wrong_row" "_law_wrong_row" dz a.gC a.iw
 tH:mg "_law_wrong_row"=some (.ref a.gC)
 tI:PySem.W.keepIn K (.ref a.gC)=true
 tK:Binds K a.iw ["_law_deck_here","_law_line"] []
 Cd:cV K "_law_wrong" "_law_wrong" gQ a.j0 a.lW
 Ce:mg "_law_wrong"=some (.ref a.j0)
 Cf:PySem.W.keepIn K (.ref a.j0)=true
 Cg:Binds K a.lW ["_law_deck_here","_law_lines_here"] []
 DM:cV K "_law_read" "_law_read" iu a.jO a.j1
 lX:mg "_law_read"=some (.ref a.jO)
 lY:PySem.W.keepIn K (.ref a.jO)=true
 lZ:Binds K a.j1 ["_law_text"] []
 zY:cV K "_law_no_row" "_law_no_row" fY a.je a.kn
 zZ:mg "_law_no_row"=some (.ref a.je)
 z_:PySem.W.keepIn K (.ref a.je)=true
 Aa:Binds K a.kn ["_law_deck_here","_law_world_here","_law_name"] []
 KI:cV K "law" "law" jb a.zK a.B4
 U2:mg "law"=some (.ref a.zK)
 IV:mg "ValueError"=none
 EN:mg "all"=none
 xr:mg "enumerate"=none
 jP:mg "sorted"=none
 pR:mg "int"=none
 ix:mg "tuple"=none
 fz:mg "range"=none
 IW:mg "list"=none
 Ci:mg "dict"=none
 bT:mg "len"=none
 EO:mg "min"=none
 t8:mg "str"=none
 ER:mg "zip"=none
 KJ:mg "set"=none
 cI:mg "isinstance"=none
 Gp:∃t,mg "GREAT"=some (.str "ABCDEFGHIJKLMNOPQRSTUVWXYZ" t)
 Cj:∃t,mg "FIGURES"=some (.str "0123456789" t)
 qx:∃t,mg "LONGEST_NAME"=some (.int 3 t)
 vx:∃t,mg "MOST_ROOMS"=some (.int 8 t)
 xu:∃t,mg "MOST_ROWS"=some (.int 4 t)
def bA (H:Hp) (d:Addr):Prop:=∃ms:List Int,H d=some (.lst (ms.map V.int))
theorem bA.same {H H':Hp} {d:Addr} (h:bA H d) (s:Same H H'):bA H' d:=let ⟨ms,a⟩:=h;⟨ms,s _ _ a⟩
theorem bA.kb {H H':Hp} {d e:Addr} (h:bA H d) (s:KB e H H') (n:d≠e):bA H' d:=let ⟨ms,a⟩:=h;⟨ms,s _ _ a n⟩
theorem bA.is {H:Hp} {d:Addr} (h:bA H d):∃xs,H d=some (.lst xs):=let ⟨ms,a⟩:=h;⟨_,a⟩
theorem bA.ne {H:Hp} {d e:Addr} (h:bA H d) (n:H e=none):d≠e:=let ⟨ms,a⟩:=h;aH a n
def Gq (K:PySem.W.Frag):Sp:=fun vs H Q _=>∃(a:Addr) (ns:List Int),vs=[.ref a,.int 500]∧cF K H a (ns.map V.int)∧ns.length≤63∧
 ∀(D:Addr) (H':Hp),H D=none→Same H H'→bA H' D→Q (.ref D) H'
def Gr:Sp:=fun vs H Q _=>∃(d:Addr) (m:Int),vs=[.ref d,.int m]∧bA H d∧0<m∧∀(r:Int) (H':Hp),0≤r→r<m→KB d H H'→bA H' d→Q (.int r) H'
section
variable {P:Program} {w:World} {K:PySem.W.Frag} {mg:Str→Option Value} {base:Heap}
theorem Ck:bj ["_law_deck_here","_law_many"] ["_law_deck_here","_law_many"] (aj iq):=⟨rfl,rfl,rfl,by decide+kernel,rfl,by decide+kernel,by decide+kernel⟩
theorem fO {a:fc} (T:Txt K mg a):bC P w K mg base dE 1 a.lQ a.nq ["_law_deck_here","_law_many"] Gr:=by
 refine T.DL.ok Ck (fun vs H Q E h=>?_) (fun cdv A outer s H vs Q E hr h=>?_)
 ·obtain⟨d,m,rfl,_⟩:=h
  rfl
 ·obtain⟨d,m,rfl,⟨ms,hd⟩,hm,k⟩:=h
  refine⟨_,(ai (bM (aL dZ (aE (aQ K) (by rfl) T.bT bK (ae (pv 0) ag)) ah (aR _))
   (aq (aW ah))
   bh)
  (aq (aW (ao cq (pb PySem.F.plainAttrs_list PySem.F.slot_list_pop PySem.F.type_list_pop Hr (pv 0)) (pv 1))))),?_⟩
  refine⟨_,rfl,_,ms.length,rfl,.inl ⟨_,.of hd,by rw[List.length_map]⟩,rfl,_,rfl,?_⟩
  refine cN (fun hl=>?_) (fun hl=>?_)
  ·exact k 0 H (Int.le_refl _) hm (KB.refl d H) ⟨ms,hd⟩
  ·have hl':0<ms.length:=by
    by_cases z:ms.length=0
    ·exact absurd (dI (show((ms.length:Nat):Int)=0 by omega)) hl
    ·omega
   obtain⟨x,hx⟩:∃x,ms[ms.length-1]? =some x:=⟨_,List.getElem?_eq_getElem (by omega)⟩
   refine⟨_,rfl,.inl ⟨rfl,_,.of hd⟩,d,_,V.int x,rfl,rfl,hd,?_,_,rfl,_,_,rfl,rfl,cpos hm,?_⟩
   ·rw[List.length_map,List.getElem?_map,hx];rfl
   ·exact k _ _ (Int.emod_nonneg _ (by omega)) (Int.emod_lt_of_pos _ hm) KB.write ⟨ms.dropLast,by rw[af,List.map_dropLast]⟩
theorem bX:bj ["_law_script","_law_many","_law_deck_here","_law_k","_law_cell","_law_j","_law_number"] ["_law_script","_law_many"] (aj il):=⟨rfl,rfl,rfl,by decide+kernel,rfl,by decide+kernel,by decide+kernel⟩
theorem Gs (ms:List Int) (n:Nat):fG (ms.map V.int) none (some (n:Int))=(ms.take n).map V.int:=by
 unfold fG
 rw[show HT.aM (ms.map V.int).length 0 none=0 from rfl,HT.kG]
 rw[List.drop_zero,List.length_map,Nat.sub_zero,←List.map_take]
 congr 1
 by_cases h:n≤ms.length
 ·rw[Nat.min_eq_left h]
 ·rw[Nat.min_eq_right (by omega),List.take_of_length_le (Nat.le_refl _),List.take_of_length_le (by omega)]
theorem Cm {a:fc} (T:Txt K mg a):bC P w K mg base dE 1 a.lP a.nj ["_law_script","_law_many"] (Gq K):=by
 refine T.DH.ok bX (fun vs H Q E h=>?_) (fun cdv A outer s H vs Q E hr h=>?_)
 ·obtain⟨a,ns,rfl,_⟩:=h
  rfl
 ·obtain⟨sa,ns,rfl,hS,hns,k⟩:=h
  refine⟨_,(ai (aA (i:=2) bX.nd rfl (Or.inl rfl) (bo ag))
  (ai (gX PassesOwn.never rfl (dC rfl T.fz (ae (aE (q_ rfl) (by rfl) T.EO Bk (ae ah (ae (aE (aQ K) (by rfl) T.bT bK (ae (pv 0) ag)) ag))) ag)) (aS (i:=3) bX.nd rfl (Or.inl rfl))
   (ai (aA (i:=4) bX.nd rfl (Or.inl rfl) (aK (aU K) (pv 0) (pv 3) (fun _ _=>rfl)))
   (aq (bM (aL Ke (pv 4) (ao Hb ah ah) (aR _))
    (aq (gX PassesOwn.never rfl (dC rfl T.fz (ae ah ag)) (aS (i:=5) bX.nd rfl (Or.inl rfl))
     (aq (bM (aL nL (pv 4) ah (aR _))
      (ai (eh (cP PySem.F.plainAttrs_list PySem.F.slot_list_append PySem.F.type_list_append fH (pv 2) (ae (ao cq (pv 4) ah) ag)))
      (aq (aA (i:=4) bX.nd rfl (Or.inl rfl) (ao oM (pv 4) ah))))
      bh))))
    (ai (aA (i:=6) bX.nd rfl (Or.inl rfl) (ao cq (ao cp (ao cp (ao fF (ao cq (pv 4) ah) ah) (ao fF ah (pv 3))) ah) ah))
    (ai (aA (i:=6) bX.nd rfl (Or.inl rfl) (ao cq (ao cp (ao fF (pv 6) (ao cp (ao oM (pv 6) ah) ah)) (ao fF ah (pv 3))) ah))
    (aq (eh (cP PySem.F.plainAttrs_list PySem.F.slot_list_extend PySem.F.type_list_extend Bc (pv 2) (ae (bo (ae (ao cq (pv 6) ah) (ae (ao cq (ao cq (ao fF (pv 6) ah) ah) ah) ag))) ag))))))))))
  (ai (gX PassesOwn.never rfl (A_ rfl T.fz (ae (aE (aQ K) (by rfl) T.bT bK (ae (pv 2) ag)) (ae (pv 1) ag))) (aS (i:=3) bX.nd rfl (Or.inl rfl))
   (ai (aA (i:=6) bX.nd rfl (Or.inl rfl) ah)
   (ai (bM (aL nL (aE (aQ K) (by rfl) T.bT bK (ae (pv 0) ag)) ah (aR _))
    (aq (aA (i:=6) bX.nd rfl (Or.inl rfl) (ao cq (aK (aU K) (pv 0) (ao cq (pv 3) (aE (q_ rfl) (by rfl) T.EO Bk (ae ah (ae (aE (aQ K) (by rfl) T.bT bK (ae (pv 0) ag)) ag)))) (fun _ _=>rfl)) ah)))
    bh)
   (ai (aA (i:=6) bX.nd rfl (Or.inl rfl) (ao cq (ao cp (ao cp (ao fF (pv 6) ah) (ao fF ah (pv 3))) ah) ah))
   (ai (aA (i:=6) bX.nd rfl (Or.inl rfl) (ao cq (ao cp (ao fF (pv 6) (ao cp (ao oM (pv 6) ah) ah)) (ao fF ah (pv 3))) ah))
   (aq (eh (cP PySem.F.plainAttrs_list PySem.F.slot_list_append PySem.F.type_list_append fH (pv 2) (ae (ao cq (ao cq (ao fF (pv 6) ah) ah) ah) ag)))))))))
  (ai (aA (i:=2) bX.nd rfl (Or.inl rfl) (br (ck K) (pv 2) bG (bF (pv 1))))
  (ai (eh (pb PySem.F.plainAttrs_list PySem.F.slot_list_reverse PySem.F.type_list_reverse y' (pv 2)))
  (aq (aW (pv 2)))))))),?_⟩
  refine⟨by decide,fun d hd=>?_⟩
  have s0:Same H (upd H d (.lst [])):=Same.new hd
  have DN:∀{H':Hp},Same H H'→Dc K (.ref sa) H' ns.length:=fun s=>.inl ⟨_,s.seq hS,by rw[List.length_map]⟩
  have Rm:∀x:Int,0≤x % 2147483629∧x % 2147483629<2147483629:=fun x=>⟨Int.emod_nonneg _ (by decide),Int.emod_lt_of_pos _ (by decide)⟩
  have IX:∀x y:Int,yV (x % 2147483629) y:=fun x y=>.inl (by have:=Rm x;constructor<;>omega)
  refine⟨_,rfl,_,ns.length,rfl,DN s0,63,(ns.length:Int),rfl,_,rfl,by split<;>omega,by split<;>omega,
   iM (fun i σ H'=>∃(ms:List Int) (v3 v4 v5 v6:Option V),σ=[some (.ref sa),some (.int 500),some (.ref d),v3,v4,v5,v6]∧Same H H'∧H' d=some (.lst (ms.map V.int))∧ms.length≤60*i)
    ⟨[],none,none,none,none,rfl,s0,af,by simp⟩ ?_ ?_⟩
  ·rintro i σ H1 hi ⟨ms,v3,v4,v5,v6,rfl,s1,e1,hl⟩
   have hi':i<ns.length:=by split at hi<;>omega
   have U3:i<63:=by split at hi<;>omega
   obtain⟨c,hc⟩:∃c,ns[i]? =some c:=⟨_,List.getElem?_eq_getElem hi'⟩
   refine⟨_,rfl,_,rfl,sa,_,_,V.int c,rfl,rfl,s1.seq hS,?_,?_⟩
   ·rw[show(0:Int)+(i:Int)=(i:Int) by omega]
    exact aB (by rw[List.getElem?_map,hc];rfl)
   refine⟨_,rfl,_,_,rfl,rfl,⟨by decide,by decide,by decide⟩,_,_,rfl,rfl,_,rfl,?_⟩
   refine cN (fun _=>?_) (fun _=>?_)
   ·refine⟨(60:Int),rfl,by decide,by decide,iM (fun j σ H2=>∃(ms:List Int) (c:Int) (v5 v6:Option V),σ=[some (.ref sa),some (.int 500),some (.ref d),some (.int (0+(i:Int))),some (.int c),v5,v6]∧Same H H2∧H2 d=some (.lst (ms.map V.int))∧ms.length≤60*i+j)
     ⟨ms,c,v5,v6,rfl,s1,e1,hl⟩ ?_ ?_⟩
    ·rintro j σ H2 hj ⟨ms,c,v5,v6,rfl,s2,e2,hl2⟩
     have hj':j<60:=hj
     refine⟨_,rfl,_,_,rfl,rfl,_,rfl,?_⟩
     refine cN (fun _=>?_) (fun _=>?_)
     ·refine⟨_,rfl,.inl ⟨rfl,_,.of e2⟩,_,rfl,_,_,rfl,rfl,cpos (by decide),d,_,_,rfl,rfl,e2,?_,?_⟩
      ·rw[List.length_map];exact Nat.lt_of_lt_of_le (show ms.length<10000 by omega) (by decide)
      refine⟨_,rfl,_,_,rfl,rfl,⟨by decide,by decide⟩,ms++[c % 720720],c / 720720,_,_,rfl,s2.kbn hd KB.write,?_,?_⟩
      ·rw[af,List.map_append];rfl
      ·rw[List.length_append];show ms.length+1≤_;omega
     ·exact⟨ms,c,_,_,rfl,s2,e2,by omega⟩
    ·rintro σ H2 ⟨ms,c,v5,v6,rfl,s2,e2,hl2⟩
     have hl2':ms.length≤60*i+60:=hl2
     exact⟨ms,_,_,_,_,rfl,s2,e2,by omega⟩
   ·refine⟨_,rfl,_,_,rfl,rfl,cpos (by decide),_,_,rfl,rfl,.inr (by decide),_,rfl,_,_,rfl,rfl,.inl (by decide),_,_,rfl,rfl,_,_,rfl,rfl,_,_,rfl,rfl,cpos (by decide),?_⟩
    refine⟨_,rfl,_,rfl,_,_,rfl,rfl,⟨by decide,by decide⟩,_,_,rfl,rfl,_,_,rfl,rfl,IX _ _,_,rfl,_,_,rfl,rfl,.inl (by decide),_,_,rfl,rfl,_,_,rfl,rfl,cpos (by decide),?_⟩
    refine⟨_,rfl,.inl ⟨rfl,_,.of e1⟩,_,rfl,_,_,rfl,rfl,cpos (by decide),_,rfl,_,_,rfl,rfl,.inr (by decide),_,_,rfl,rfl,cpos (by decide),_,_,rfl,rfl,cpos (by decide),by show 2≤sizeLine;decide,fun L hL=>?_⟩
    have Rn:d≠L:=aH e1 hL
    refine⟨d,L,_,_,rfl,rfl,by rw[aF Rn];exact e1,af,?_,?_⟩
    ·rw[List.length_map];exact Nat.le_trans (show ms.length+2≤10000 by omega) (by decide)
    refine⟨ms++[?x1,?x2],_,_,_,_,rfl,(s1.trans (Same.new hL)).kbn hd KB.write,?eq,?len⟩
    case eq=>rw[af,List.map_append];rfl
    case len=>rw[List.length_append];show ms.length+2≤_;omega
  ·rintro σ H1 ⟨ms,v3,v4,v5,v6,rfl,s1,e1,hl⟩
   have hl':ms.length≤3780:=by split at hl<;>omega
   refine⟨_,rfl,_,ms.length,rfl,.inl ⟨_,.of e1,by rw[List.length_map]⟩,_,rfl,(ms.length:Int),500,rfl,by omega,iM (fun j σ H'=>∃(vy:List Int) (v3 v4 v5 v6:Option V),σ=[some (.ref sa),some (.int 500),some (.ref d),v3,v4,v5,v6]∧Same H H'∧H' d=some (.lst (vy.map V.int))∧vy.length=ms.length+j)
    ⟨ms,v3,v4,v5,v6,rfl,s1,e1,rfl⟩ ?_ ?_⟩
   ·rintro j σ H2 hj ⟨vy,v3,v4,v5,v6,rfl,s2,e2,hl2⟩
    dsimp only[eU]
    refine Bo ?_
    refine uM (t:=ud _ _ _) (u:=oH _ _) (fun σ H'=>∃(x:Int),σ=[some (.ref sa),some (.int 500),some (.ref d),some (.int ((ms.length:Int)+(j:Int))),v4,v5,some (.int x)]∧H'=H2) ?_ (fun rest=>?_)
    ·rintro σ H3 ⟨x,rfl,rfl⟩
     refine⟨_,rfl,_,_,rfl,rfl,.inr (by decide),_,rfl,_,_,rfl,rfl,.inl (by decide),_,_,rfl,rfl,_,_,rfl,rfl,_,_,rfl,rfl,cpos (by decide),?_⟩
     refine⟨_,rfl,_,rfl,_,_,rfl,rfl,⟨by decide,by decide⟩,_,_,rfl,rfl,_,_,rfl,rfl,IX _ _,_,rfl,_,_,rfl,rfl,.inl (by decide),_,_,rfl,rfl,_,_,rfl,rfl,cpos (by decide),?_⟩
     refine⟨_,rfl,.inl ⟨rfl,_,.of e2⟩,_,rfl,_,_,rfl,rfl,.inr (by decide),_,_,rfl,rfl,cpos (by decide),_,_,rfl,rfl,cpos (by decide),d,_,_,rfl,rfl,e2,?_,?_⟩
     ·rw[List.length_map];exact Nat.lt_of_lt_of_le (show vy.length<10000 by omega) (by decide)
     refine⟨vy++[?y1],_,_,_,_,rfl,s2.kbn hd KB.write,?eq2,?len2⟩
     case eq2=>rw[af,List.map_append];rfl
     case len2=>rw[List.length_append,hl2];rfl
    ·refine⟨_,rfl,_,ns.length,rfl,DN s2,_,_,rfl,rfl,_,rfl,?_⟩
     refine cN (fun hp=>?_) (fun _=>rest _ _ ⟨11,rfl,rfl⟩)
     have hp':0<ns.length:=by have:=of_decide_eq_true hp;omega
     refine⟨_,rfl,_,rfl,_,rfl,_,ns.length,rfl,DN s2,63,(ns.length:Int),rfl,_,_,rfl,rfl,cpos (by split<;>omega),?_⟩
     obtain⟨q,hq1,hq2⟩:∃q:Nat,((ms.length:Int)+(j:Int)) % (if(ns.length:Int)<63 then(ns.length:Int) else 63)=(q:Int)∧q<ns.length:=by
      refine⟨(((ms.length:Int)+(j:Int)) % (if(ns.length:Int)<63 then(ns.length:Int) else 63)).toNat,?_,?_⟩
      ·have:=Int.emod_nonneg ((ms.length:Int)+(j:Int)) (show(if(ns.length:Int)<63 then(ns.length:Int) else 63)≠0 by split<;>omega)
       omega
      ·have:=Int.emod_nonneg ((ms.length:Int)+(j:Int)) (show(if(ns.length:Int)<63 then(ns.length:Int) else 63)≠0 by split<;>omega)
       have h2:=Int.emod_lt_of_pos ((ms.length:Int)+(j:Int)) (show(0:Int)<(if(ns.length:Int)<63 then(ns.length:Int) else 63) by split<;>omega)
       split at h2<;>split<;>omega
     obtain⟨c,hc⟩:∃c,ns[q]? =some c:=⟨_,List.getElem?_eq_getElem hq2⟩
     refine⟨sa,_,_,V.int c,rfl,rfl,s2.seq hS,?_,_,_,rfl,rfl,cpos (by decide),rest _ _ ⟨_,rfl,rfl⟩⟩
     rw[hq1]
     exact aB (by rw[List.getElem?_map,hc];rfl)
   ·rintro σ H2 ⟨vy,v3,v4,v5,v6,rfl,s2,e2,hl2⟩
    refine⟨_,rfl,_,rfl,_,rfl,d,_,rfl,.of e2,fun D hD=>?_⟩
    rw[show(some (500:Int))=some ((500:Nat):Int) from rfl,Gs]
    refine⟨_,rfl,.inl ⟨rfl,_,.of af⟩,D,_,rfl,rfl,af,?_⟩
    exact⟨_,rfl,k D _ (s2.free hD) ((s2.trans (Same.new hD)).kbn (s2.free hD) KB.write) ⟨(vy.take 500).reverse,by rw[af,List.map_reverse]⟩⟩
def abc (g:Bool):Str:=if g then "ABCDEFGHIJKLMNOPQRSTUVWXYZ" else "abcdefghijklmnopqrstuvwxyz"
theorem qy (g:Bool):(abc g).cps.toList.length=26:=by cases g<;>decide+kernel
theorem vz (g:Bool):(abc g).length≤sizeLine:=by
 have:(abc g).length=26:=by cases g<;>decide+kernel
 rw[this];decide
theorem Cn (g:Bool) (r:Int) (h0:0≤r) (h1:r<26):∃c,kH (abc g).cps.toList r=some c:=by
 obtain⟨n,hn⟩:∃n:Nat,r=(n:Int):=⟨r.toNat,by omega⟩
 subst hn
 exact⟨_,aB (List.getElem?_eq_getElem (by rw[qy];omega))⟩
theorem vA (a y:PySem.Str):(a++y).cps.toList=a.cps.toList++y.cps.toList:=by
 show(a.cps++y.cps).toList=_
 rw[Array.toList_append]
def gJ (g:Bool) (x:Int):Nat:=(abc g).cps.toList.getD x.toNat 0
theorem yx {g:Bool} {x:Int} {c:Nat} (h0:0≤x) (h1:x<26) (h:kH (abc g).cps.toList x=some c):c=gJ g x:=by
 obtain⟨n,rfl⟩:∃n:Nat,x=(n:Int):=⟨x.toNat,by omega⟩
 have e:kH (abc g).cps.toList (n:Int)=(abc g).cps.toList[n]? :=by
  have:=List.getElem?_eq_getElem (l:=(abc g).cps.toList) (i:=n) (by rw[qy];omega)
  rw[aB this,this]
 rw[e] at h
 unfold gJ
 rw[Int.toNat_natCast,List.getD_eq_getElem?_getD,h]
 rfl
theorem DP {g:Bool} {x y:Int} (x0:0≤x) (x1:x<26) (y0:0≤y) (y1:y<26) (h:gJ g x=gJ g y):x=y:=by
 have key:∀g:Bool,∀i j:Fin 26,(abc g).cps.toList.getD i.val 0=(abc g).cps.toList.getD j.val 0→i=j:=by decide+kernel
 have:=key g ⟨x.toNat,by omega⟩ ⟨y.toNat,by omega⟩ h
 have e:x.toNat=y.toNat:=Fin.mk.inj this
 omega
def ot (rs:List Int) (pl:Int) (i j:Nat):Int:=(rs.getD j 0+(i:Int)*(if(j:Int)=pl then 1 else 0)) % 26
theorem kW (rs:List Int) (pl:Int) (i j:Nat):0≤ot rs pl i j∧ot rs pl i j<26:=⟨Int.emod_nonneg _ (by decide),Int.emod_lt_of_pos _ (by decide)⟩
def cw (g:Bool) (rs:List Int) (pl:Int) (i:Nat):List Nat:=(List.range rs.length).map fun j=>gJ g (ot rs pl i j)
theorem nu (g:Bool) (rs:List Int) (pl:Int) (i:Nat):(cw g rs pl i).length=rs.length:=by simp[cw]
theorem t9 {g:Bool} {rs:List Int} {pl:Int} {i j:Nat} (h:j<rs.length):(cw g rs pl i)[j]? =some (gJ g (ot rs pl i j)):=by
 unfold cw
 rw[List.getElem?_map,List.getElem?_range h]
 rfl
theorem vB {g:Bool} {rs:List Int} {pl:Int} {i k:Nat} (p0:0≤pl) (p1:pl<rs.length) (hi:i<26) (hk:k<26) (h:cw g rs pl i=cw g rs pl k):i=k:=by
 have hp:pl.toNat<rs.length:=by omega
 have e1:=t9 (g:=g) (pl:=pl) (i:=i) hp
 rw[h,t9 hp] at e1
 have e2:=DP (kW rs pl k _).1 (kW rs pl k _).2 (kW rs pl i _).1 (kW rs pl i _).2 (Option.some.inj e1)
 unfold ot at e2
 rw[if_pos (by omega)] at e2
 omega
theorem DQ {g:Bool} {rs:List Int} {pl:Int} {i k j:Nat} (h:(j:Int)≠pl) (hj:j<rs.length):(cw g rs pl i)[j]? =(cw g rs pl k)[j]? :=by
 rw[t9 hj,t9 hj]
 unfold ot
 rw[if_neg h,Int.mul_zero,Int.mul_zero]
def jQ:List (List Nat):=[("not":Str).cps.toList,("and":Str).cps.toList,("or":Str).cps.toList]
def fw (g:Bool) (rs:List Int) (pl lo:Int) (i:Nat):List Nat:=
 if cw g rs pl i∈jQ then(cw g rs pl i).dropLast else if lo=1∧i % 2=1∧rs.length<3 then cw g rs pl i++[gJ g 16] else cw g rs pl i
theorem IY {g:Bool} {rs:List Int} {pl lo:Int} {i k:Nat} (l0:0<rs.length) (p0:0≤pl) (p1:pl<rs.length) (hi:i<26) (hk:k<26) (h:fw g rs pl lo i=fw g rs pl lo k):i=k:=by
 have li:=nu g rs pl i
 have lk:=nu g rs pl k
 unfold fw at h
 by_cases ni:cw g rs pl i∈jQ
 ·rw[if_pos ni] at h
  by_cases nk:cw g rs pl k∈jQ
  ·rw[if_pos nk] at h
   refine vB (g:=g) p0 p1 hi hk ?_
   unfold jQ at ni nk
   simp only[List.mem_cons,List.not_mem_nil,or_false] at ni nk
   have at_:∀j:Nat,(j:Int)≠pl→j<rs.length→(cw g rs pl i)[j]? =(cw g rs pl k)[j]? :=fun j a b=>DQ a b
   rcases ni with a | a | a<;>rcases nk with b | b | b<;>first | (rw[a,b];done) | skip
   all_goals (exfalso;rw[a,b] at at_;rw[a] at li;rw[b] at lk)
   ·have l3:rs.length=3:=by rw[←li];decide
    have h0:=at_ 0
    have h1:=at_ 1
    by_cases z:pl=0
    ·exact absurd (h1 (by omega) (by omega)) (by decide)
    ·exact absurd (h0 (by omega) (by omega)) (by decide)
   ·rw[←lk] at li;exact absurd li (by decide)
   ·have l3:rs.length=3:=by rw[←li];decide
    have h0:=at_ 0
    have h1:=at_ 1
    by_cases z:pl=0
    ·exact absurd (h1 (by omega) (by omega)) (by decide)
    ·exact absurd (h0 (by omega) (by omega)) (by decide)
   ·rw[←lk] at li;exact absurd li (by decide)
   ·rw[←lk] at li;exact absurd li (by decide)
   ·rw[←lk] at li;exact absurd li (by decide)
  ·rw[if_neg nk] at h
   have:=congrArg List.length h
   rw[List.length_dropLast,li] at this
   split at this
   ·rw[List.length_append,lk] at this;simp at this<;>omega
   ·rw[lk] at this;omega
 ·rw[if_neg ni] at h
  by_cases nk:cw g rs pl k∈jQ
  ·rw[if_pos nk] at h
   have:=congrArg List.length h
   rw[List.length_dropLast,lk] at this
   split at this
   ·rw[List.length_append,li] at this;simp at this<;>omega
   ·rw[li] at this;omega
  ·rw[if_neg nk] at h
   split at h<;>split at h
   ·exact vB p0 p1 hi hk (List.append_cancel_right h)
   ·have:=congrArg List.length h;rw[List.length_append,li,lk] at this;simp at this
   ·have:=congrArg List.length h;rw[List.length_append,li,lk] at this;simp at this
   ·exact vB p0 p1 hi hk h
theorem Ab:∀l:List Nat,(Txt.join ("":Str) (l.map fun c=>(⟨#[c]⟩:Str))).cps.toList=l:=by
 intro l
 unfold Txt.join
 rw[StrLaws.glued_eq_join]
 induction l with
 | nil=>rfl
 | cons c l ih=>
  cases l with
  | nil=>rfl
  | cons c2 l=>
   rw[List.map_cons,List.map_cons] at*
   show((⟨#[c]⟩:Str)++("":Str)++Str.join "" ((⟨#[c2]⟩:Str)::l.map fun c=>(⟨#[c]⟩:Str))).cps.toList=_
   rw[vA,vA,ih]
   rfl
theorem vC {α:Type} {l:List α}:l.Nodup↔∀i j:Nat,i<j→j<l.length→l[i]? ≠l[j]? :=by
 unfold List.Nodup
 rw[List.pairwise_iff_getElem]
 constructor
 ·intro h i j hij hj e
  rw[List.getElem?_eq_getElem (by omega),List.getElem?_eq_getElem hj] at e
  exact h i j (by omega) hj hij (Option.some.inj e)
 ·intro h i j hi hj hij e
  exact h i j hij hj (by rw[List.getElem?_eq_getElem hi,List.getElem?_eq_getElem hj,e])
theorem Co {α:Type} {l:List α} (h:l.Nodup) {y:α} (hy:y ∉ l) (q:Nat):(l.set q y).Nodup:=by
 rw[vC] at h ⊢
 intro i j hij hj
 rw[List.length_set] at hj
 intro e
 rw[List.getElem?_set,List.getElem?_set] at e
 have hm:∀t,t<l.length→l[t]? ≠some y:=fun t _ z=>hy (List.mem_of_getElem? z)
 by_cases a:q=i<;>by_cases b:q=j
 ·omega
 ·rw[if_pos a,if_neg b,if_pos (by omega)] at e;exact hm j hj e.symm
 ·rw[if_neg a,if_pos b,if_pos (by omega)] at e;exact hm i (by omega) e
 ·rw[if_neg a,if_neg b] at e;exact h i j hij hj e
def j3 (g:Bool) (rs:List Int) (pl lo:Int) (i:Nat):Str:=⟨(fw g rs pl lo i).toArray⟩
theorem DR {g:Bool} {rs:List Int} {pl lo:Int} (l0:0<rs.length) (p0:0≤pl) (p1:pl<rs.length) (m:Nat) (hm:m≤26):((List.range m).map (j3 g rs pl lo)).Nodup:=by
 rw[vC]
 intro i j hij hj e
 rw[List.length_map,List.length_range] at hj
 rw[List.getElem?_map,List.getElem?_map,List.getElem?_range (by omega),List.getElem?_range hj] at e
 have e1:j3 g rs pl lo i=j3 g rs pl lo j:=Option.some.inj e
 have e2:fw g rs pl lo i=fw g rs pl lo j:=by
  have:=congrArg (fun z:Str=>z.cps.toList) e1
  simpa[j3] using this
 have:=IY l0 p0 p1 (by omega) (by omega) e2
 omega
theorem gR {x y:Str} (h:x.cps.toList=y.cps.toList):x=y:=by
 obtain⟨a⟩:=x
 obtain⟨b⟩:=y
 have:a=b:=Array.toList_inj.mp h
 rw[this]
theorem jR (z:Str):∀l:List Str,inV (.str z) (l.map V.str)=decide (z∈l)
 | []=>by simp[inV]
 | x::l=>by
  have ih:=jR z l
  unfold inV at ih ⊢
  rw[List.map_cons,List.any_cons,ih]
  show((x == z)||_)=_
  by_cases e:x=z
  ·subst e;simp
  ·have e':¬z=x:=fun q=>e q.symm
   simp[e,e']
theorem nS {z:Str} {l:List Nat} (e:z.cps.toList=l):z∈(["not","and","or"]:List Str)↔l∈jQ:=by
 unfold jQ
 subst e
 simp only[List.mem_cons,List.not_mem_nil,or_false]
 constructor
 ·rintro(rfl | rfl | rfl)
  ·exact .inl rfl
  ·exact .inr (.inl rfl)
  ·exact .inr (.inr rfl)
 ·rintro(h | h | h)
  ·exact .inl (gR h)
  ·exact .inr (.inl (gR h))
  ·exact .inr (.inr (gR h))
theorem Ac {z:Str} (h:z∈(["not","and","or"]:List Str)):(Txt.slice z none (some (-1))).cps.toList=z.cps.toList.dropLast:=by
 simp only[List.mem_cons,List.not_mem_nil,or_false] at h
 rcases h with rfl | rfl | rfl<;>decide+kernel
theorem IZ {g:Bool} {rs:List Int} {pl lo:Int} {i:Nat} {z:Str} (e:z.cps.toList=cw g rs pl i) (h:z∈(["not","and","or"]:List Str)):Txt.slice z none (some (-1))=j3 g rs pl lo i:=by
 refine gR ?_
 rw[Ac h,e]
 show _=(fw g rs pl lo i).toArray.toList
 unfold fw
 rw[if_pos ((nS e).mp h)]
theorem I_ {g:Bool} {rs:List Int} {pl lo:Int} {i:Nat} {z:Str} {c:Nat} (e:z.cps.toList=cw g rs pl i) (h:z ∉ (["not","and","or"]:List Str)) (hc:c=gJ g 16) (h1:lo=1) (h2:i % 2=1) (h3:z.length<3):z++(⟨#[c]⟩:Str)=j3 g rs pl lo i:=by
 refine gR ?_
 rw[vA,e]
 show _=(fw g rs pl lo i).toArray.toList
 unfold fw
 have l:rs.length<3:=by rw[←nu g rs pl i,←e];exact h3
 rw[if_neg (fun q=>h ((nS e).mpr q)),if_pos ⟨h1,h2,l⟩,hc]
theorem qz {g:Bool} {rs:List Int} {pl lo:Int} {i:Nat} {z:Str} (e:z.cps.toList=cw g rs pl i) (h:z ∉ (["not","and","or"]:List Str)) (h1:¬(lo=1∧i % 2=1∧z.length<3)):z=j3 g rs pl lo i:=by
 refine gR ?_
 rw[e]
 show _=(fw g rs pl lo i).toArray.toList
 unfold fw
 have l:rs.length=z.length:=by rw[←nu g rs pl i,←e];rfl
 rw[if_neg (fun q=>h ((nS e).mpr q)),if_neg (by rw[l];exact h1)]
def seven:List Str:=["ora","orb","ort","orz","orr","oro","ors"]
theorem drop_one {n:Str}:∀(cs:List Str),cs.Nodup→cs.length≤(cs.filter fun c=> !decide (n=c)).length+1
 | [],_=>by simp
 | c::cs,h=>by
  rw[List.nodup_cons] at h
  by_cases e:n=c
  ·subst e
   have:(cs.filter fun c=> !decide (n=c))=cs:=by
    rw[List.filter_eq_self]
    intro x hx
    have:n≠x:=fun z=>h.1 (z▸hx)
    simp[this]
   simp[this]
  ·have:=drop_one (n:=n) cs h.2
   simp[e]
   omega
theorem enough:∀(ns cs:List Str),cs.Nodup→cs.length≤(cs.filter fun c=> !(inV (.str c) (ns.map V.str))).length+ns.length
 | [],cs,_=>by
  have:(cs.filter fun c=> !(inV (.str c) (([]:List Str).map V.str)))=cs:=by
   rw[List.filter_eq_self];intro x hx;rfl
  rw[this];simp
 | n::ns,cs,h=>by
  have h1:=enough ns cs h
  have h2:=drop_one (n:=n) (cs.filter fun c=> !(inV (.str c) (ns.map V.str))) (h.sublist List.filter_sublist)
  have e:(cs.filter fun c=> !(inV (.str c) ((n::ns).map V.str)))=(cs.filter fun c=> !(inV (.str c) (ns.map V.str))).filter fun c=> !decide (n=c):=by
   rw[List.filter_filter]
   congr 1
   funext c
   unfold inV
   rw[List.map_cons,List.any_cons]
   show(!((n == c)||_))=_
   rw[Bool.not_or]
   congr 1
   first | done | (by_cases z:n=c<;>simp[z])
  rw[e,List.length_cons]
  omega
def md (g:Bool) (x:Str):Prop:=1≤x.length∧x.length≤3∧(∀c∈x.cps.toList,c∈(abc g).cps.toList)∧x ∉ (["not","and","or"]:List Str)
theorem vD {g:Bool} {x:Int} (x0:0≤x) (x1:x<26):gJ g x∈(abc g).cps.toList:=by
 unfold gJ
 rw[List.getD_eq_getElem?_getD,List.getElem?_eq_getElem (by rw[qy];omega)]
 exact List.getElem_mem _
theorem vE {g:Bool} {rs:List Int} {pl:Int} {i:Nat}:∀c∈cw g rs pl i,c∈(abc g).cps.toList:=by
 intro c hc
 unfold cw at hc
 obtain⟨j,_,rfl⟩:=List.mem_map.mp hc
 exact vD (kW rs pl i j).1 (kW rs pl i j).2
theorem KL {g:Bool} {rs:List Int} {pl lo:Int} {i:Nat} (l0:0<rs.length) (l3:rs.length≤3):md g (j3 g rs pl lo i):=by
 have ec:(j3 g rs pl lo i).cps.toList=fw g rs pl lo i:=by unfold j3;simp
 have el:(j3 g rs pl lo i).length=(fw g rs pl lo i).length:=by rw[←ec];simp[Str.length]
 have li:=nu g rs pl i
 have hn:(j3 g rs pl lo i∈(["not","and","or"]:List Str))↔fw g rs pl lo i∈jQ:=nS ec
 unfold md
 rw[hn,ec,el]
 unfold fw
 split
 ·rename_i ni
  refine⟨?_,?_,fun c hc=>vE c ((List.dropLast_sublist _).subset hc),?_⟩
  ·unfold jQ at ni
   simp only[List.mem_cons,List.not_mem_nil,or_false] at ni
   rcases ni with a | a | a<;>(rw[a];decide)
  ·rw[List.length_dropLast,li];omega
  ·unfold jQ at ni
   simp only[List.mem_cons,List.not_mem_nil,or_false] at ni
   rcases ni with a | a | a<;>(rw[a];decide)
 ·rename_i ni
  split
  ·rename_i h
   refine⟨by rw[List.length_append];simp,by rw[List.length_append,li];simp;omega,fun c hc=>?_,fun z=>?_⟩
   ·rcases List.mem_append.mp hc with q | q
    ·exact vE c q
    ·rw[List.mem_singleton.mp q];exact vD (by decide) (by decide)
   ·have e:=congrArg (fun l:List Nat=>l.getLast?) (rfl:cw g rs pl i++[gJ g 16]=cw g rs pl i++[gJ g 16])
    have h1:∀l∈jQ,l.getLast? ≠some (gJ g 16):=by cases g<;>decide
    exact h1 _ z (by simp)
  ·exact⟨by rw[li];omega,by rw[li];omega,vE,ni⟩
theorem DS:∀y∈seven,md false y:=by
 unfold md seven
 decide+kernel
def Gu:Sp:=fun vs H Q _=>∃(d:Addr) (m:Nat) (g:Bool),vs=[.ref d,.int m,.bl g]∧bA H d∧m≤6∧
 ∀(N:Addr) (ss:List Str) (H':Hp),H N=none→KB d H H'→bA H' d→H' N=some (.lst (ss.map V.str))→ss.length=m→ss.Nodup→(∀x∈ss,md g x)→Q (.ref N) H'
theorem cJ:bj ["_law_deck_here","_law_many","_law_great","_law_letters","_law_base","_law_place","_law_longer","_law_names_here","_law_k","_law_word","_law_some"] ["_law_deck_here","_law_many","_law_great"] (aj dM):=⟨rfl,rfl,rfl,by decide+kernel,rfl,by decide+kernel,by decide+kernel⟩
theorem Ad {a:fc} (T:Txt K mg a):bC P w K mg base dE 2 a.jY a.lT ["_law_deck_here","_law_many","_law_great"] Gu:=by
 have aV:=fO (P:=P) (w:=w) (base:=base) T
 refine T.B5.ok cJ (fun vs H Q E h=>?_) (fun cdv A outer s H vs Q E hr h=>?_)
 ·obtain⟨d,m,g,rfl,_⟩:=h
  rfl
 ·obtain⟨d,m,g,rfl,hd,hm,k⟩:=h
  have aN:aO 1 _:=hr
  refine⟨_,(ai (aA (i:=3) cJ.nd rfl (Or.inr rfl) (aK (aU K) (bo (ae ay (ae ay ag))) (bE mR (by rfl) T.pR mV (ae (pv 2) ag)) (fun _ _=>rfl)))
  (ai (aA (i:=4) cJ.nd rfl (Or.inr rfl) (fk (aI.mk' (esc:=aj dM) (N:=["_law_deck_here","_law_many","_law_great","_law_letters","_law_base","_law_place","_law_longer","_law_names_here","_law_k","_law_word","_law_some"]) (own:=["_law_k"]) (aZ:=["_law_deck_here"]) (bJ:=[0]) rfl rfl (by decide+kernel)) rfl (dC rfl T.fz (ae (ao cp ah (aD aV aN rfl T.bu T.bw T.bz .nil bf (ae (pv 0) (ae ah ag)))) ag)) (fun _ _ _ _=>(aS (i:=0) (show List.Nodup (["_law_k","_law_deck_here"]:List Str) by decide+kernel) rfl (Or.inl rfl))) (fun _ _ _ _=>bU) (fun _ _ _ _=>(aD aV aN rfl T.bu T.bw T.bz .nil bf (ae (pv 1) (ae ah ag))))))
  (ai (aA (i:=5) cJ.nd rfl (Or.inr rfl) (aD aV aN rfl T.bu T.bw T.bz .nil bf (ae (pv 0) (ae (aE (aQ K) (by rfl) T.bT bK (ae (pv 4) ag)) ag))))
  (ai (aA (i:=6) cJ.nd rfl (Or.inl rfl) (aD aV aN rfl T.bu T.bw T.bz .nil bf (ae (pv 0) (ae ah ag))))
  (ai (aA (i:=7) cJ.nd rfl (Or.inr rfl) (bo ag))
  (ai (gX PassesOwn.never rfl (dC rfl T.fz (ae (pv 1) ag)) (aS (i:=8) cJ.nd rfl (Or.inr rfl))
   (ai (aA (i:=9) cJ.nd rfl (Or.inl rfl) (cP PySem.F.plainAttrs_str PySem.F.slot_str_join PySem.F.type_str_join (de K) ay (ae (fk (aI.mk' (esc:=aj dM) (N:=["_law_deck_here","_law_many","_law_great","_law_letters","_law_base","_law_place","_law_longer","_law_names_here","_law_k","_law_word","_law_some"]) (own:=["_law_j"]) (aZ:=["_law_letters","_law_base","_law_k","_law_place"]) (bJ:=[3,4,8,5]) rfl rfl (by decide+kernel)) rfl (dC rfl T.fz (ae (aE (aQ K) (by rfl) T.bT bK (ae (pv 4) ag)) ag)) (fun _ _ _ _=>(aS (i:=0) (show List.Nodup (["_law_j","_law_letters","_law_base","_law_k","_law_place"]:List Str) by decide+kernel) rfl (Or.inl rfl))) (fun _ _ _ _=>bU) (fun _ _ _ _=>(aK uq (pv 1) (ao cq (ao cp (aK (aU K) (pv 2) (pv 0) (fun _ _=>rfl)) (ao fF (pv 3) (bE mR (by rfl) T.pR mV (ae (jk dZ (pv 0) (pv 4) (aR _)) ag)))) ah) (fun _ _=>rfl)))) ag)))
   (ai (bM (aL (Bm K) (pv 9) (bo (ae ay (ae ay (ae ay ag)))) (by with_unfolding_all rfl))
    (aq (aA (i:=9) cJ.nd rfl (Or.inl rfl) (br jE (pv 9) bG (bF (o5 mQ ah)))))
    (aq (bM (PW.pt (ky (aL dZ (pv 6) ah (aR _)) (ky (aL dZ (ao cq (pv 8) ah) ah (aR _)) (nK (aL o6 (aE (aQ K) (by rfl) T.bT bK (ae (pv 9) ag)) ah (aR _))))))
     (aq (aA (i:=9) cJ.nd rfl (Or.inl rfl) (ao bb (pv 9) (aK uq (pv 3) ah (fun _ _=>rfl)))))
     bh)))
   (aq (eh (cP PySem.F.plainAttrs_list PySem.F.slot_list_append PySem.F.type_list_append fH (pv 7) (ae (pv 9) ag)))))))
  (ai (bM (PW.pt (ky (aL nL (pv 1) ah (aR _)) (ky (kz (lG (pv 2) (fun _=>rfl))) (nK (aL dZ (aD aV aN rfl T.bu T.bw T.bz .nil bf (ae (pv 0) (ae ah ag))) ah (aR _))))))
   (ai (fU (i:=10) (aI.mk' (esc:=aj dM) (N:=["_law_deck_here","_law_many","_law_great","_law_letters","_law_base","_law_place","_law_longer","_law_names_here","_law_k","_law_word","_law_some"]) (own:=["_law_word"]) (aZ:=["_law_names_here"]) (bJ:=[7]) rfl rfl (by decide+kernel)) rfl (eE (bo (ae ay (ae ay (ae ay (ae ay (ae ay (ae ay (ae ay ag))))))))) (fun _ _ _ _=>(aS (i:=0) (show List.Nodup (["_law_word","_law_names_here"]:List Str) by decide+kernel) rfl (Or.inl rfl))) (fun _ _ _ _=>(uI (aL (rJ K) (pv 0) (pv 1) (by with_unfolding_all rfl)))) (fun _ _ _ _=>(pv 0)) cJ.nd rfl rfl)
   (aq (mP (aK (aU K) (pv 10) ah (fun _ _=>rfl)) (uf (pv 7) (aD aV aN rfl T.bu T.bw T.bz .nil bf (ae (pv 0) (ae (pv 1) ag))) set_list))))
   bh)
  (aq (aW (pv 7)))))))))),?_⟩
  refine⟨by show 2≤sizeLine;decide,fun L hL=>⟨_,rfl,.inr ⟨g,rfl,L,_,_,.str (abc g),rfl,rfl,.of af,by cases g<;>rfl,?_⟩⟩⟩
  have s1:=Same.new (o:=.lst [.str "abcdefghijklmnopqrstuvwxyz",.str "ABCDEFGHIJKLMNOPQRSTUVWXYZ"]) hL
  have d1:=hd.same s1
  refine⟨_,rfl,d,3,rfl,d1,by decide,fun t H2 t0 t1 k2 d2=>⟨_,_,rfl,rfl,_,rfl,by omega,by omega,fun B hB=>?_⟩⟩
  have pS:B≠d:=(d2.ne hB).symm
  refine gZ (fun i σ H'=>∃(rs:List Int) (v:Option V),σ=[v,some (.ref d)]∧KB d H2 H'∧bA H' d∧H' B=some (.lst (rs.map V.int))∧rs.length=i)
   ⟨[],none,rfl,(Same.new hB).kb,d2.same (Same.new hB),af,rfl⟩ ?_ ?_
  ·rintro i σ H3 hi ⟨rs,v,rfl,k3,d3,e3,lr⟩
   refine⟨_,rfl,d,26,rfl,d3,by decide,fun r H4 r0 r1 k4 d4=>?_⟩
   refine⟨rs.map V.int,k4 _ _ e3 pS,?_,rs++[r],_,rfl,?_,d4.kb KB.write pS.symm,?_,?_⟩
   ·rw[List.length_map];exact Nat.lt_of_lt_of_le (show rs.length<100 by omega) (by decide)
   ·intro b o e n
    rw[aF (aH e hB)]
    exact k4 b o (k3 b o e n) n
   ·rw[af,List.map_append];rfl
   ·rw[List.length_append,lr];rfl
  rintro σ H3 ⟨rs,v,rfl,k3,d3,e3,lr⟩
  have I0:0<rs.length∧rs.length≤3:=by omega
  refine⟨_,rfl,_,rfl,_,rs.length,rfl,.inl ⟨_,.of e3,by rw[List.length_map]⟩,d,(rs.length:Int),rfl,d3,by omega,fun pl H4 p0 p1 k4 d4=>?_⟩
  have e4:=k4 _ _ e3 pS
  refine⟨_,rfl,d,2,rfl,d4,by decide,fun lo H5 l0 l1 k5 d5=>?_⟩
  have e5:=k5 _ _ e4 pS
  refine⟨by decide,fun N hN=>?_⟩
  have vF:N≠d:=(d5.ne hN).symm
  have Mf:B≠N:=aH e5 hN
  have Ja:KB d H H5:=(((s1.kb).trans k2).trans k3).trans (k4.trans k5)
  have Jb:H N=none:=by
   cases z:H N with
   | none=>rfl
   | some o=>
    have:=Ja N o z vF
    rw[hN] at this;cases this
  refine⟨_,rfl,m,rfl,by omega,by omega,iM (n:=(m:Int).toNat) (fun i σ H'=>∃(ss:List Str) (v8 v9:Option V),σ=[some (.ref d),some (.int m),some (.bl g),some (.str (abc g)),some (.ref B),some (.int pl),some (.int lo),some (.ref N),v8,v9,none]∧KB d H H'∧bA H' d∧H' B=some (.lst (rs.map V.int))∧H' N=some (.lst (ss.map V.str))∧ss.length=i∧ss=(List.range i).map (j3 g rs pl lo))
   ⟨[],none,none,rfl,Ja.trans (Same.new hN).kb,d5.same (Same.new hN),by rw[aF Mf];exact e5,af,rfl,rfl⟩ ?_ ?_⟩
  ·rintro i σ H6 hi ⟨ss,v8,v9,rfl,k6,d6,e6,n6,ls,ess⟩
   rw[Int.toNat_natCast] at hi
   refine⟨rfl,_,rfl,_,rs.length,rfl,.inl ⟨_,.of e6,by rw[List.length_map]⟩,_,rfl,by omega,by omega,fun C hC=>?_⟩
   refine gZ (fun j σ H'=>∃(ys:List Str) (v:Option V),σ=[v,some (.str (abc g)),some (.ref B),some (.int (0+(i:Int))),some (.int pl)]∧Same H6 H'∧H' C=some (.lst (ys.map V.str))∧ys.length=j∧(ys.map (·.length)).sum=j∧ys=(List.range j).map fun t=>(⟨#[gJ g (ot rs pl i t)]⟩:Str))
    ⟨[],none,rfl,Same.new hC,af,rfl,rfl,rfl⟩ ?_ ?_
   ·rintro j σ H7 hj ⟨ys,v,rfl,s7,e7,ly,ES,eys⟩
    rw[Int.toNat_natCast] at hj
    obtain⟨q,hq⟩:∃q,rs[j]? =some q:=⟨_,List.getElem?_eq_getElem hj⟩
    refine⟨_,rfl,_,rfl,_,rfl,B,_,_,V.int q,rfl,rfl,.of (s7 _ _ e6),?_,_,rfl,_,rfl,_,rfl,rfl,.inr ⟨_,rfl,_,_,rfl,rfl,.inl (by constructor<;>omega),_,_,rfl,rfl,_,_,rfl,rfl,cpos (by decide),?_⟩⟩
    ·rw[show(0:Int)+(j:Int)=(j:Int) by omega]
     exact aB (by rw[List.getElem?_map,hq];rfl)
    generalize hx:(q+(0+(i:Int))*(if decide (V.int (0+(j:Int))=V.int pl) then 1 else 0)) % 26=x
    have x0:0≤x:=by rw[←hx];exact Int.emod_nonneg _ (by decide)
    have x1:x<26:=by rw[←hx];exact Int.emod_lt_of_pos _ (by decide)
    obtain⟨c,hc⟩:=Cn g x x0 x1
    refine⟨abc g,x,c,rfl,by rw[←hx],vz g,hc,ys.map V.str,e7,?_,ys++[⟨#[c]⟩],_,rfl,s7.kbn hC KB.write,?_,?_,?_,?_⟩
    ·rw[List.length_map];exact Nat.lt_of_lt_of_le (show ys.length<100 by omega) (by decide)
    ·rw[af,List.map_append];rfl
    ·rw[List.length_append,ly];rfl
    ·rw[List.map_append,List.sum_append,ES];rfl
    ·have ex:x=ot rs pl i j:=by
      rw[←hx]
      unfold ot
      rw[List.getD_eq_getElem?_getD,hq]
      have e1:(0:Int)+(i:Int)=(i:Int):=by omega
      have e2:(if decide (V.int (0+(j:Int))=V.int pl)=true then(1:Int) else 0)=if(j:Int)=pl then 1 else 0:=by
       by_cases z:(j:Int)=pl
       ·rw[dI (by omega),if_pos z];rfl
       ·rw[uO (by omega),if_neg z];rfl
      rw[e1,e2]
      rfl
     rw[yx x0 x1 hc,ex,List.range_succ,List.map_append,eys]
     rfl
   rintro σ H7 ⟨ys,v,rfl,s7,e7,ly,ES,eys⟩
   rw[Int.toNat_natCast] at ly ES eys
   refine⟨"",C,ys,rfl,rfl,.of e7,?_,fun z hz Ro=>?_⟩
   ·rw[ES,ly]
    have:(Str.length ("":Str))=0:=rfl
    rw[this];omega
   have U4:z.length≤sizeLine:=hz
   have zc:z.cps.toList=cw g rs pl i:=by
    rw[Ro,eys,show((List.range rs.length).map fun t=>(⟨#[gJ g (ot rs pl i t)]⟩:Str))=(cw g rs pl i).map fun c=>(⟨#[c]⟩:Str) by unfold cw;rw[List.map_map];rfl]
    exact Ab _
   dsimp only[eU]
   have k7:KB d H H7:=k6.trans s7.kb
   refine uM (t:=ud _ _ _) (u:=Ej _) (fun σ H'=>∃z:Str,σ=[some (.ref d),some (.int m),some (.bl g),some (.str (abc g)),some (.ref B),some (.int pl),some (.int lo),some (.ref N),some (.int (0+(i:Int))),some (.str z),none]∧Same H7 H'∧z=j3 g rs pl lo i) ?_ (fun rest=>?_)
   ·rintro σ H8 ⟨z,rfl,s8,ez⟩
    have n8:=s8 _ _ (s7 _ _ n6)
    refine⟨_,rfl,.inl ⟨rfl,_,.of n8⟩,_,rfl,N,_,_,rfl,rfl,n8,?_,?_⟩
    ·rw[List.length_map];exact Nat.lt_of_lt_of_le (show ss.length<100 by omega) (by decide)
    refine⟨ss++[z],_,_,rfl,?_,((d6.same s7).same s8).kb KB.write vF.symm,?_,?_,?_,by rw[List.range_succ,List.map_append,ess,ez];rfl⟩
    ·intro b o e n
     rw[aF (aH e Jb)]
     exact s8 _ _ (k7 b o e n)
    ·rw[aF Mf];exact s8 _ _ (s7 _ _ e6)
    ·rw[af,List.map_append];rfl
    ·rw[List.length_append,ls];rfl
   ·refine⟨_,rfl,by show 3≤sizeLine;decide,fun W hW=>⟨W,_,rfl,.inl (.of af),rfl,rfl,_,rfl,?_⟩⟩
    have sW:=Same.new (o:=.lst [.str "not",.str "and",.str "or"]) hW
    rw[show inV (V.str z) [V.str "not",V.str "and",V.str "or"]=decide (z∈(["not","and","or"]:List Str)) from jR z ["not","and","or"]]
    refine cN (fun hn=>?_) (fun hn=>?_)
    ·exact⟨_,rfl,_,rfl,_,rfl,z,rfl,hz,rest _ _ ⟨_,rfl,sW,IZ zc (of_decide_eq_true hn)⟩⟩
    ·have hn':z ∉ (["not","and","or"]:List Str):=fun q=>hn (decide_eq_true q)
     refine⟨_,rfl,rfl,_,rfl,?_⟩
     refine cN (fun h1=>?_) (fun h1=>bZ (rest _ _ ⟨z,rfl,sW,qz zc hn' fun q=>h1 (dI q.1)⟩))
     have h1':lo=1:=V.int.inj (of_decide_eq_true h1)
     refine⟨_,rfl,_,_,rfl,rfl,cpos (by decide),rfl,_,rfl,?_⟩
     refine cN (fun h2=>?_) (fun h2=>bZ (rest _ _ ⟨z,rfl,sW,qz zc hn' fun q=>h2 (dI (by have:=q.2.1;omega))⟩))
     have h2':i % 2=1:=by
      have:(0+(i:Int)) % 2=1:=V.int.inj (of_decide_eq_true h2)
      omega
     refine⟨_,rfl,_,z.length,rfl,⟨hz,rfl⟩,_,_,rfl,rfl,_,rfl,?_⟩
     refine cN (fun hl=>?_) (fun hl=>rest _ _ ⟨z,rfl,sW,qz zc hn' fun q=>hl (decide_eq_true (by have:=q.2.2;omega))⟩)
     have hl':z.length<3:=by have:=of_decide_eq_true hl;omega
     obtain⟨c,hc⟩:=Cn g 16 (by decide) (by decide)
     refine⟨_,rfl,_,rfl,abc g,16,c,rfl,rfl,vz g,hc,z,⟨#[c]⟩,rfl,rfl,?_,rest _ _ ⟨_,rfl,sW,I_ zc hn' (yx (by decide) (by decide) hc) h1' h2' hl'⟩⟩
     show z.length+1≤sizeLine
     exact Nat.le_trans (show z.length+1≤10 by omega) (by decide)
  ·rintro σ H6 ⟨ss,v8,v9,rfl,k6,d6,e6,n6,ls,ess⟩
   rw[Int.toNat_natCast] at ls ess
   have nd:ss.Nodup:=by rw[ess];exact DR I0.1 p0 p1 m (by omega)
   have nk:∀x∈ss,md g x:=by
    intro x hx
    rw[ess] at hx
    obtain⟨t,_,rfl⟩:=List.mem_map.mp hx
    exact KL I0.1 I0.2
   have fin:∀(σ:St) (H':Hp),(∃(ss:List Str) (v8 v9 v10:Option V),σ=[some (.ref d),some (.int m),some (.bl g),some (.str (abc g)),some (.ref B),some (.int pl),some (.int lo),some (.ref N),v8,v9,v10]∧KB d H H'∧bA H' d∧H' N=some (.lst (ss.map V.str))∧ss.length=m∧ss.Nodup∧∀x∈ss,md g x)→
     ∃v,σ[7]? =some (some v)∧Q v H':=by
    rintro σ H' ⟨ss,v8,v9,v10,rfl,k7,d7,n7,l7,u7,w7⟩
    exact⟨_,rfl,k N ss H' Jb k7 d7 n7 l7 u7 w7⟩
   refine⟨_,rfl,_,_,rfl,rfl,_,rfl,?_⟩
   refine cN (fun hm0=>?_) (fun _=>bZ (fin _ _ ⟨ss,_,_,_,rfl,k6,d6,n6,ls,nd,nk⟩))
   have U5:0<m:=by have:=of_decide_eq_true hm0;omega
   refine⟨_,rfl,g,rfl,?_⟩
   refine cN (fun hgf=>?_) (fun _=>bZ (fin _ _ ⟨ss,_,_,_,rfl,k6,d6,n6,ls,nd,nk⟩))
   refine⟨_,rfl,d,6,rfl,d6,by decide,fun r H7 r0 r1 k7 d7=>⟨rfl,_,rfl,?_⟩⟩
   have n7:=k7 _ _ n6 vF
   have Mg:=k6.trans k7
   refine cN (fun _=>?_) (fun _=>fin _ _ ⟨ss,_,_,_,rfl,Mg,d7,n7,ls,nd,nk⟩)
   refine⟨by show 7≤sizeLine;decide,fun S hS=>⟨S,rfl,⟨_,.of af⟩,fun C hC=>?_⟩⟩
   have Vg:N≠S:=aH n7 hS
   have ET:=(Same.new (o:=.lst [.str "ora",.str "orb",.str "ort",.str "orz",.str "orr",.str "oro",.str "ors"]) hS) _ _ n7
   have Rp:S≠C:=aH af hC
   refine eK (xs:=seven.map V.str) (fun i σ H'=>∃v:Option V,σ=[v,some (.ref N)]∧KB C (upd H7 S (.lst [.str "ora",.str "orb",.str "ort",.str "orz",.str "orr",.str "oro",.str "ors"])) H'∧H' C=some (.lst (((seven.take i).filter fun c=> !(inV (.str c) (ss.map V.str))).map V.str)))
    ⟨none,rfl,(Same.new hC).kb,af⟩ (fun i σ H' _ ⟨_,_,h,_⟩=>.of (h _ _ af Rp)) ?_ ?_
   ·rintro i x σ H8 hx ⟨v,rfl,k8,e8⟩
    obtain⟨c,rfl,hc⟩:=gN hx
    have Jc:N≠C:=aH ET hC
    refine⟨_,rfl,_,rfl,N,_,rfl,.inl (.of (k8 _ _ ET Jc)),rfl,?_,_,rfl,?_⟩
    ·rw[List.all_map];exact List.all_eq_true.mpr fun _ _=>rfl
    have et:seven.take (i+1)=seven.take i++[c]:=by rw[List.take_add_one,hc];rfl
    refine cN (fun hin=>?_) (fun hin=>?_)
    ·refine⟨_,rfl,_,e8,?_,_,rfl,k8.trans KB.write,?_⟩
     ·rw[List.length_map]
      refine Nat.lt_of_le_of_lt (List.length_filter_le _ _) ?_
      rw[List.length_take]
      exact Nat.lt_of_le_of_lt (Nat.min_le_right _ _) (by decide)
     ·rw[af,et,List.filter_append,List.map_append]
      have DT:(!(inV (.str c) (ss.map V.str)))=true:=hin
      simp[DT]
    ·refine⟨_,rfl,k8,?_⟩
     have DT:(!(inV (.str c) (ss.map V.str)))=false:=by
      cases z:(!(inV (.str c) (ss.map V.str))) with
      | false=>rfl
      | true=>exact absurd z hin
     rw[e8,et,List.filter_append]
     simp[DT]
   rintro σ H8 ⟨v,rfl,k8,e8⟩
   have Jc:N≠C:=aH ET hC
   have n8:=k8 _ _ ET Jc
   have hlen:=enough ss seven (by decide+kernel)
   have h7:seven.length=7:=rfl
   rw[show seven.take (seven.map V.str).length=seven from rfl] at e8
   obtain⟨y,ys,hy⟩:∃y ys,(seven.filter fun c=> !(inV (.str c) (ss.map V.str)))=y::ys:=by
    cases z:(seven.filter fun c=> !(inV (.str c) (ss.map V.str))) with
    | nil=>rw[z] at hlen;simp at hlen;omega
    | cons y ys=>exact⟨y,ys,rfl⟩
   rw[hy] at e8
   refine⟨_,rfl,C,_,0,.str y,rfl,rfl,.of e8,aB (j:=0) rfl,?_⟩
   have Jd:C≠d:=by
    obtain⟨xd,Rq⟩:=(d7.same (Same.new (o:=.lst [.str "ora",.str "orb",.str "ort",.str "orz",.str "orr",.str "oro",.str "ors"]) hS)).is
    exact(aH Rq hC).symm
   have d8:bA H8 d:=(d7.same (Same.new (o:=.lst [.str "ora",.str "orb",.str "ort",.str "orz",.str "orr",.str "oro",.str "ors"]) hS)).kb k8 Jd.symm
   refine⟨_,rfl,_,rfl,_,rfl,d,m,rfl,d8,by omega,fun r' H9 Vh r1' k9 d9=>?_⟩
   have n9:=k9 _ _ n8 vF
   obtain⟨q,hq⟩:∃q:Nat,r'=(q:Int):=⟨r'.toNat,by omega⟩
   subst hq
   refine⟨N,_,_,q,rfl,rfl,n9,?_,?_⟩
   ·unfold oh;rw[if_pos (by omega),List.length_map,if_pos (by omega)];rfl
   have Rt:y ∉ ss:=by
    have:y∈seven.filter fun c=> !(inV (.str c) (ss.map V.str)):=by rw[hy];exact List.mem_cons_self
    have:=(List.mem_filter.mp this).2
    rw[jR] at this
    intro z
    rw[decide_eq_true z] at this
    cases this
   have hg':g=false:=by cases g<;>first | rfl | exact absurd hgf (by decide)
   have hys:y∈seven:=(List.mem_filter.mp (by rw[hy];exact List.mem_cons_self:y∈seven.filter fun c=> !(inV (.str c) (ss.map V.str)))).1
   refine fin _ _ ⟨ss.set q y,_,_,_,rfl,?_,d9.kb KB.write vF.symm,?_,?_,Co nd Rt q,fun x hx=>?_⟩
   ·intro b o e n
    have n1:b≠N:=aH e Jb
    rw[aF n1]
    have e7:=Mg b o e n
    have n2:b≠S:=aH e7 hS
    have Mh:=(Same.new (o:=.lst [.str "ora",.str "orb",.str "ort",.str "orz",.str "orr",.str "oro",.str "ors"]) hS) _ _ e7
    exact k9 _ _ (k8 _ _ Mh (aH Mh hC)) n
   ·rw[af,List.map_set]
   ·rw[List.length_set,ls]
   ·rcases List.mem_or_eq_of_mem_set hx with z | z
    ·exact nk x z
    ·rw[z,hg'];exact DS y hys
theorem Gv {σ:St} {H:Hp} {Q:Option Int→Hp→Prop} (h:Q none H):qh σ H Q:=h
theorem Gw {D:Ends} {σ:St} {H:Hp} (h:D.nx σ H):Ei D σ H:=h
theorem Gx {K:PySem.W.Frag} {H:Hp} {a b:Addr} {xs ys:List V} {Q:VK} (ea:H a=some (.tup xs)) (eb:H b=some (.tup ys)) (hy:ys≠[]) (hl:xs.length+ys.length≤sizeLine) (h:∀u H',Same H H'→H' u=some (.tup (xs++ys))→Q (.ref u) H'):zi K (.ref a) (.ref b) H Q:=by
 refine⟨a,b,xs,ys,rfl,rfl,.of ea,.of eb,hy,hl,fun z=>h b H (Same.refl _) ?_,fun _ p hp=>h p _ (Same.new hp) af⟩
 rw[z]
 exact eb
def av (ds:List Nat):List Int:=ds.map fun(d:Nat)=>(d:Int)
theorem jS (ds:List Nat) (i:Nat):(av ds)[i]? =ds[i]?.map fun(d:Nat)=>(d:Int):=by simp[av]
theorem aY (ds:List Nat):(av ds).length=ds.length:=by simp[av]
theorem iP (xs ys:List Nat):av (xs++ys)=av xs++av ys:=by simp[av]
theorem ny {α:Type} {xs:List α} {i:Int} {j:Nat} {v:α} (e:i=(j:Int)) (h:xs[j]? =some v):kH xs i=some v:=by rw[e];exact aB h
def dj (H:Hp) (r:Addr) (sg:List Nat) (mv:List (List Nat)):Prop:=∃(sa ma:Addr) (ps:List Addr),H r=some (.tup [.ref sa,.ref ma])∧H sa=some (.tup ((av sg).map V.int))∧H ma=some (.tup (ps.map V.ref))∧cb H ps (mv.map av)
theorem dj.keep {H H':Hp} {r:Addr} {sg:List Nat} {mv:List (List Nat)} (h:dj H r sg mv) (k:bQ H H'):dj H' r sg mv:=by
 obtain⟨sa,ma,ps,h1,h2,h3,h4⟩:=h
 exact⟨sa,ma,ps,k _ _ h1,k _ _ h2,k _ _ h3,h4.keep k⟩
structure Right (b:Nat) (sg:List Nat) (mv:List (List Nat)):Prop where
 len:mv.length=sg.length
 small:sg.length≤1000
 two:2≤b∧b≤4
 lead:∀l∈mv,l.length=b∧∀x∈l,x<sg.length
 like:∀(i:Nat) (l:List Nat),mv[i]? =some l→sg.getD (l.getD 0 0) 0=sg.getD i 0
theorem item_at {α:Type} {xs:List α} {i:Nat} (d:α) (h:i<xs.length):xs[i]? =some (xs.getD i d):=by rw[List.getD_eq_getElem?_getD,List.getElem?_eq_getElem h];rfl
theorem me {ds:List Nat} {i:Nat} (h:i<ds.length):((av ds).map V.int)[i]? =some (.int (ds.getD i 0:Nat)):=by
 rw[List.getElem?_map,jS,item_at 0 h];rfl
theorem Gy {kvs:List (Key×V)} {k:Key} {v:V} {p:Key×V} (h:p∈putK kvs k v):p=(k,v)∨p∈kvs:=by
 unfold putK at h
 by_cases c:(kvs.any fun kv=>decide (kv.1=k))=true
 ·rw[if_pos c] at h
  obtain⟨q,hq,e⟩:=List.mem_map.mp h
  by_cases z:q.1=k
  ·rw[if_pos z,z] at e
   exact .inl e.symm
  ·rw[if_neg z] at e
   exact .inr (e▸hq)
 ·rw[if_neg c] at h
  rcases List.mem_append.mp h with h | h
  ·exact .inr h
  ·exact .inl (by simpa using h)
theorem pT {H:Hp} {D:Addr} {kvs:List (Key×V)} {x:Str} {v:V} (h:Rd H D (.dK kvs)) (e:cH kvs (Sum.inr x)=some v):zf H D (.str x) (some v):=.inl ⟨kvs,Sum.inr x,h,rfl,e.symm⟩
def Je:Sp:=fun vs H Q _=>∃(d:Addr) (b:Nat),vs=[.ref d,.int b]∧bA H d∧2≤b∧b≤4∧∀(r:Addr) (sg:List Nat) (mv:List (List Nat)) (H':Hp),KB d H H'→bA H' d→dj H' r sg mv→Right b sg mv→0<sg.length→sg.length≤8→(∀x∈sg,x<10)→Q (.ref r) H'
theorem iy:bj ["_law_deck_here","_law_base","_law_many","_law_signs","_law_moves","_law_room","_law_like"] ["_law_deck_here","_law_base"] (aj fX):=⟨rfl,rfl,rfl,by decide+kernel,rfl,by decide+kernel,by decide+kernel⟩
theorem DU {a:fc} (T:Txt K mg a):bC P w K mg base dE 2 a.nR a.oP ["_law_deck_here","_law_base"] Je:=by
 have aV:=fO (P:=P) (w:=w) (base:=base) T
 refine T.Gj.ok iy (fun vs H Q E h=>?_) (fun cdv A outer s H vs Q E hr h=>?_)
 ·obtain⟨d,b,rfl,_⟩:=h
  rfl
 ·obtain⟨d,b,rfl,d0,b2,b4,k⟩:=h
  have aN:aO 1 _:=hr
  refine⟨_,(ai (aA (i:=2) iy.nd rfl (Or.inr rfl) (ao cp ah (aD aV aN rfl T.bu T.bw T.bz .nil bf (ae (pv 0) (ae ah ag)))))
  (ai (aA (i:=3) iy.nd rfl (Or.inr rfl) (fk (aI.mk' (esc:=aj fX) (N:=["_law_deck_here","_law_base","_law_many","_law_signs","_law_moves","_law_room","_law_like"]) (own:=["_law_k"]) (aZ:=["_law_deck_here"]) (bJ:=[0]) rfl rfl (by decide+kernel)) rfl (dC rfl T.fz (ae (pv 2) ag)) (fun _ _ _ _=>(aS (i:=0) (show List.Nodup (["_law_k","_law_deck_here"]:List Str) by decide+kernel) rfl (Or.inl rfl))) (fun _ _ _ _=>bU) (fun _ _ _ _=>(aD aV aN rfl T.bu T.bw T.bz .nil bf (ae (pv 1) (ae (aK (aU K) (bo (ae ah (ae ah ag))) (aD aV aN rfl T.bu T.bw T.bz .nil bf (ae (pv 1) (ae ah ag))) (fun _ _=>rfl)) ag))))))
  (ai (aA (i:=4) iy.nd rfl (Or.inl rfl) (bo ag))
  (ai (gX PassesOwn.never rfl (dC rfl T.fz (ae (pv 2) ag)) (aS (i:=5) iy.nd rfl (Or.inr rfl))
   (ai (fU (i:=6) (aI.mk' (esc:=aj fX) (N:=["_law_deck_here","_law_base","_law_many","_law_signs","_law_moves","_law_room","_law_like"]) (own:=["_law_other"]) (aZ:=["_law_signs","_law_room"]) (bJ:=[3,5]) rfl rfl (by decide+kernel)) rfl (dC rfl T.fz (ae (pv 2) ag)) (fun _ _ _ _=>(aS (i:=0) (show List.Nodup (["_law_other","_law_signs","_law_room"]:List Str) by decide+kernel) rfl (Or.inl rfl))) (fun _ _ _ _=>(uI (aL dZ (aK (aU K) (pv 1) (pv 0) (fun _ _=>rfl)) (aK (aU K) (pv 1) (pv 2) (fun _ _=>rfl)) (aR _)))) (fun _ _ _ _=>(pv 0)) iy.nd rfl rfl)
   (aq (eh (cP PySem.F.plainAttrs_list PySem.F.slot_list_append PySem.F.type_list_append fH (pv 4) (ae (ao (Dj K) (cU (ae (aK (aU K) (pv 6) (aD aV aN rfl T.bu T.bw T.bz .nil bf (ae (pv 0) (ae (aE (aQ K) (by rfl) T.bT bK (ae (pv 6) ag)) ag))) (fun _ _=>rfl)) ag)) (bE (dQ K) (by rfl) T.ix gG (ae (fk (aI.mk' (esc:=aj fX) (N:=["_law_deck_here","_law_base","_law_many","_law_signs","_law_moves","_law_room","_law_like"]) (own:=["_law_k"]) (aZ:=["_law_deck_here","_law_many"]) (bJ:=[0,2]) rfl rfl (by decide+kernel)) rfl (dC rfl T.fz (ae (ao jv (pv 1) ah) ag)) (fun _ _ _ _=>(aS (i:=0) (show List.Nodup (["_law_k","_law_deck_here","_law_many"]:List Str) by decide+kernel) rfl (Or.inl rfl))) (fun _ _ _ _=>bU) (fun _ _ _ _=>(aD aV aN rfl T.bu T.bw T.bz .nil bf (ae (pv 1) (ae (pv 2) ag))))) ag))) ag))))))
  (aq (aW (cU (ae (bE (dQ K) (by rfl) T.ix gG (ae (pv 3) ag)) (ae (bE (dQ K) (by rfl) T.ix gG (ae (pv 4) ag)) ag))))))))),?_⟩
  refine⟨_,rfl,d,8,rfl,d0,by decide,fun r1 H1 r10 r11 k1 d1=>⟨_,_,rfl,rfl,?_⟩⟩
  obtain⟨m,em⟩:∃m:Nat,1+r1=(m:Int):=⟨(1+r1).toNat,by omega⟩
  have m1:1≤m:=by omega
  have m8:m≤8:=by omega
  dsimp only[eU]
  rw[em]
  refine⟨_,rfl,m,rfl,by omega,by omega,fun Sl hSl=>?_⟩
  have sk:Sl≠d:=(d1.ne hSl).symm
  refine gZ (fun i σ H'=>∃(sg:List Nat) (v:Option V),σ=[v,some (.ref d)]∧KB d H1 H'∧bA H' d∧H' Sl=some (.lst ((av sg).map V.int))∧sg.length=i∧∀x∈sg,x<10)
   ⟨[],none,?sg1,(Same.new hSl).kb,d1.same (Same.new hSl),af,rfl,fun x h=>by cases h⟩ ?_ ?_
  case sg1=>rfl
  ·rintro i σ H3 hi ⟨sg,v,rfl,k3,d3,eS,ls,h10⟩
   refine⟨_,rfl,by show 2≤sizeLine;decide,fun L hL=>?_⟩
   have kX:L≠d:=(d3.ne hL).symm
   have sL:=Same.new (o:=.lst [.int 2,.int 10]) hL
   refine⟨_,rfl,d,2,rfl,d3.same sL,by decide,fun q1 H4 EA Vi k4 d4=>?_⟩
   have vG:H4 L=some (.lst [.int 2,.int 10]):=k4 _ _ af kX
   obtain⟨mm,hmm,mpos,Vj⟩:∃mm:Int,kH ([.int 2,.int 10]:List V) q1=some (.int mm)∧0<mm∧mm≤10:=by
    by_cases c:q1=0
    ·exact⟨2,by rw[c];exact aB (j:=0) rfl,by decide,by decide⟩
    ·exact⟨10,by rw[show q1=1 by omega];exact aB (j:=1) rfl,by decide,by decide⟩
   refine⟨L,_,_,.int mm,rfl,rfl,.of vG,hmm,d,mm,rfl,d4,mpos,fun q2 H5 Vk Vl k5 d5=>?_⟩
   obtain⟨qn,rfl⟩:∃qn:Nat,q2=(qn:Int):=⟨q2.toNat,by omega⟩
   have EU:=k5 _ _ (k4 _ _ (sL _ _ eS) sk) sk
   refine⟨_,EU,?_,sg++[qn],_,rfl,?_,d5.kb KB.write sk.symm,?_,?_,fun x hx=>(List.mem_append.mp hx).elim (h10 x) fun z=>by rw[List.mem_singleton.mp z];omega⟩
   ·rw[List.length_map,aY,ls];exact Nat.lt_of_lt_of_le (show i<100 by omega) (by decide)
   ·intro c o e n
    rw[aF (aH e hSl)]
    exact k5 _ _ (k4 _ _ (sL _ _ (k3 _ _ e n)) n) n
   ·rw[af,iP,List.map_append];rfl
   ·rw[List.length_append,ls];rfl
  rintro σ H3 ⟨sg,v,rfl,k3,d3,eS,ls,h10⟩
  rw[Int.toNat_natCast] at ls
  have k13:=k1.trans k3
  refine⟨by decide,fun Ml EV=>?_⟩
  have Mi:Ml≠d:=(d3.ne EV).symm
  have Ru:Sl≠Ml:=aH eS EV
  have sM:=Same.new (o:=.lst []) EV
  refine⟨_,rfl,m,rfl,by omega,by omega,iM (lo:=0) (n:=(m:Int).toNat) (fun i σ H'=>∃(mv:List (List Nat)) (ps:List Addr) (v5 v6:Option V),σ=[some (.ref d),some (.int b),some (.int m),some (.ref Sl),some (.ref Ml),v5,v6]∧
    KB d H3 H'∧bA H' d∧H' Sl=some (.lst ((av sg).map V.int))∧H' Ml=some (.lst (ps.map V.ref))∧cb H' ps (mv.map av)∧mv.length=i∧(∀l∈mv,l.length=b∧∀x∈l,x<m)∧∀(j:Nat) (l:List Nat),mv[j]? =some l→sg.getD (l.getD 0 0) 0=sg.getD j 0)
   ⟨[],[],none,none,rfl,sM.kb,d3.same sM,sM _ _ eS,af,.nil,rfl,(fun l h=>by cases h),(fun j l h=>by simp at h)⟩ ?_ ?_⟩
  ·rintro i σ H4 hi ⟨mv,ps,v5,v6,rfl,k4,d4,EW,EY,tp,lm,hm,hlk⟩
   rw[Int.toNat_natCast] at hi
   have e0:(0:Int)+(i:Int)=(i:Nat):=by omega
   have his:i<sg.length:=by omega
   refine⟨_,rfl,m,rfl,by omega,by omega,fun Lk hLk=>?_⟩
   refine gZ (fun j σ H'=>∃(xs:List Nat) (v:Option V),σ=[v,some (.ref Sl),some (.int (0+(i:Int)))]∧Same H4 H'∧H' Lk=some (.lst ((av xs).map V.int))∧xs.length≤j∧(∀x∈xs,x<m∧sg.getD x 0=sg.getD i 0)∧(i<j→xs≠[]))
    ⟨[],none,?sg2,Same.new hLk,af,by simp,(fun x h=>by cases h),fun h=>absurd h (Nat.not_lt_zero _)⟩ ?_ ?_
   case sg2=>rfl
   ·rintro j σ H5 hj ⟨xs,v,rfl,s5,eL,lx,hx,hne⟩
    rw[Int.toNat_natCast] at hj
    have ej:(0:Int)+(j:Int)=(j:Nat):=by omega
    have EU:=s5 _ _ EW
    refine⟨_,rfl,_,rfl,Sl,_,_,_,rfl,rfl,.of EU,ny (j:=j) ej (me (by omega)),_,rfl,_,rfl,Sl,_,_,_,rfl,rfl,.of EU,ny (j:=i) e0 (me his),rfl,_,rfl,?_⟩
    refine cN (fun h1=>?_) (fun h1=>?_)
    ·have h2:V.int (sg.getD j 0:Nat)=V.int (sg.getD i 0:Nat):=of_decide_eq_true h1
     have h3:sg.getD j 0=sg.getD i 0:=by
      have:=V.int.inj h2
      omega
     refine⟨_,rfl,_,eL,?_,xs++[j],_,rfl,s5.kbn hLk KB.write,?_,?_,?_,fun _ z=>by simp at z⟩
     ·rw[List.length_map,aY];exact Nat.lt_of_lt_of_le (show xs.length<100 by omega) (by decide)
     ·rw[af,iP,List.map_append,ej];rfl
     ·rw[List.length_append];show xs.length+1≤j+1;omega
     ·intro x hx'
      rcases List.mem_append.mp hx' with z | z
      ·exact hx x z
      ·have:x=j:=by simpa using z
       subst this
       exact⟨hj,h3⟩
    ·refine⟨xs,_,rfl,s5,eL,by omega,hx,fun hij=>?_⟩
     by_cases e:i<j
     ·exact hne e
     ·have:i=j:=by omega
      subst this
      exact absurd (decide_eq_true rfl) h1
   rintro σ H5 ⟨xs,v,rfl,s5,eL,lx,hx,hne⟩
   rw[Int.toNat_natCast] at lx hne
   have xne:=hne hi
   have Rv:0<xs.length:=List.length_pos_iff.mpr xne
   have d5:=d4.same s5
   have kX:Lk≠d:=(d4.ne hLk).symm
   have Rw:=s5 _ _ EY
   refine⟨_,rfl,.inl ⟨rfl,_,.of Rw⟩,_,rfl,_,rfl,_,rfl,_,_,rfl,.inl ⟨_,.of eL,rfl⟩,d,_,rfl,d5,?_,fun q H6 q0 q1 k6 d6=>?_⟩
   ·rw[List.length_map,aY];exact Int.ofNat_lt.mpr Rv
   rw[List.length_map,aY] at q1
   obtain⟨qn,rfl⟩:∃qn:Nat,q=(qn:Int):=⟨q.toNat,by omega⟩
   have Mj:qn<xs.length:=Int.ofNat_lt.mp q1
   obtain⟨f0,f1⟩:=hx _ (List.mem_of_getElem? (item_at 0 Mj))
   refine⟨Lk,_,_,_,rfl,rfl,.of (k6 _ _ eL kX),aB (me Mj),?_⟩
   refine⟨by show 1≤sizeLine;decide,fun A1 Rx=>?_⟩
   have sA:=Same.new (o:=.tup [.int (xs.getD qn 0:Nat)]) Rx
   have eA:(upd H6 A1 (.tup [.int (xs.getD qn 0:Nat)])) A1=some (.tup ((av [xs.getD qn 0]).map V.int)):=af
   have d7:=d6.same sA
   have Mk:KB d H4 (upd H6 A1 (.tup [.int (xs.getD qn 0:Nat)])):=(s5.kb.trans k6).trans sA.kb
   generalize upd H6 A1 (.tup [.int (xs.getD qn 0:Nat)])=H7 at eA d7 Mk ⊢
   refine⟨_,rfl,_,_,rfl,rfl,_,rfl,by omega,by omega,fun B1 Jf=>?_⟩
   have pS:B1≠d:=(d7.ne Jf).symm
   have sB:=Same.new (o:=.lst []) Jf
   refine gZ (fun j σ H'=>∃(zs:List Nat) (v:Option V),σ=[v,some (.ref d),some (.int m)]∧KB d H7 H'∧bA H' d∧H' B1=some (.lst ((av zs).map V.int))∧zs.length=j∧∀z∈zs,z<m)
    ⟨[],none,?Ry,sB.kb,d7.same sB,af,rfl,fun z h=>by cases h⟩ ?_ ?_
   case Ry=>rfl
   ·rintro j σ H8 hj ⟨zs,v,rfl,k8,d8,eB,lz,hz⟩
    refine⟨_,rfl,_,rfl,d,m,rfl,d8,by omega,fun q3 H9 Vm Vn k9 d9=>?_⟩
    obtain⟨zn,rfl⟩:∃zn:Nat,q3=(zn:Int):=⟨q3.toNat,by omega⟩
    have RA:=k9 _ _ eB pS
    refine⟨_,RA,?_,zs++[zn],_,rfl,?_,d9.kb KB.write pS.symm,?_,?_,?_⟩
    ·rw[List.length_map,aY,lz];exact Nat.lt_of_lt_of_le (show j<100 by omega) (by decide)
    ·intro c o e n
     rw[aF (aH e Jf)]
     exact k9 _ _ (k8 _ _ e n) n
    ·rw[af,iP,List.map_append];rfl
    ·rw[List.length_append,lz];rfl
    ·intro z h
     rcases List.mem_append.mp h with y | y
     ·exact hz z y
     ·have:z=zn:=by simpa using y
      subst this
      omega
   rintro σ H8 ⟨zs,v,rfl,k8,d8,eB,lz,hz⟩
   have Jg:zs.length=b-1:=by omega
   refine⟨B1,_,rfl,.inl ⟨.of eB,fun t1 ht1=>?_⟩⟩
   have st1:=Same.new (o:=.tup ((av zs).map V.int)) ht1
   have EZ:(upd H8 t1 (.tup ((av zs).map V.int))) t1=some (.tup ((av zs).map V.int)):=af
   have RB:H8 A1=some (.tup ((av [xs.getD qn 0]).map V.int)):=by obtain⟨ys,ex⟩:=d7.is;exact k8 _ _ eA (lB eA ex (fun z=>nomatch z))
   have Mm:KB d H4 (upd H8 t1 (.tup ((av zs).map V.int))):=(Mk.trans k8).trans st1.kb
   have d9:=d8.same st1
   have Mn:=st1 _ _ RB
   generalize upd H8 t1 (.tup ((av zs).map V.int))=H9 at EZ Mm d9 Mn ⊢
   refine Gx Mn EZ ?_ ?_ fun u fE fJ eu=>?_
   ·intro z
    have:=congrArg List.length z
    rw[List.length_map,aY,Jg] at this
    have h0:b-1=0:=this
    omega
   ·rw[List.length_map,List.length_map,aY,aY,Jg]
    exact Nat.le_trans (show[xs.getD qn 0].length+(b-1)≤10 by simp;omega) (by decide)
   have Ae:KB d H4 fE:=Mm.trans fJ.kb
   have kt:bQ H4 fE:=by obtain⟨ys,ex⟩:=d4.is;exact bQ.kb ex Ae
   have Jh:=Ae _ _ EY Mi
   have RC:fE u=some (.tup ((av (xs.getD qn 0::zs)).map V.int)):=eu
   refine⟨Ml,_,_,rfl,rfl,Jh,?_,?_⟩
   ·rw[List.length_map,Paired.length tp,List.length_map,lm];exact Nat.lt_of_lt_of_le (show i<100 by omega) (by decide)
   have ktM:=bQ.lst (o:=.lst (ps.map V.ref++[.ref u])) Jh
   refine⟨mv++[xs.getD qn 0::zs],ps++[u],_,_,rfl,?_,(d9.same fJ).kb KB.write Mi.symm,?_,?_,?_,?_,?_,?_⟩
   ·intro c o e n
    rw[aF (aH e EV)]
    exact Ae _ _ (k4 _ _ e n) n
   ·rw[aF Ru];exact Ae _ _ EW sk
   ·rw[af,List.map_append];rfl
   ·rw[List.map_append]
    exact dw ((tp.keep kt).keep ktM) (.cons (ktM _ _ RC) .nil)
   ·rw[List.length_append,lm];rfl
   ·intro l hl
    rcases List.mem_append.mp hl with y | y
    ·exact hm l y
    ·rw[List.mem_singleton.mp y]
     refine⟨by rw[List.length_cons,Jg];omega,fun z hz'=>?_⟩
     rcases List.mem_cons.mp hz' with e | e
     ·rw[e];exact f0
     ·exact hz z e
   ·intro j l e
    by_cases c:j<mv.length
    ·rw[List.getElem?_append_left c] at e
     exact hlk j l e
    ·have hl:=(List.getElem?_eq_some_iff.mp e).1
     rw[List.length_append] at hl
     have hl':j<mv.length+1:=hl
     have ej:j=mv.length:=by omega
     subst ej
     rw[List.getElem?_append_right (Nat.le_refl _),Nat.sub_self] at e
     have e':xs.getD qn 0::zs=l:=Option.some.inj e
     rw[←e',lm]
     exact f1
  ·rintro σ H4 ⟨mv,ps,v5,v6,rfl,k4,d4,EW,EY,tp,lm,hm,hlk⟩
   rw[Int.toNat_natCast] at lm
   refine⟨_,rfl,Sl,_,rfl,.inl ⟨.of EW,fun t1 ht1=>?_⟩⟩
   have s1:=Same.new (o:=.tup ((av sg).map V.int)) ht1
   refine⟨_,rfl,Ml,_,rfl,.inl ⟨.of (s1 _ _ EY),fun t2 Ji=>?_⟩⟩
   have s2:=Same.new (o:=.tup (ps.map V.ref)) Ji
   refine⟨by show 2≤sizeLine;decide,fun t3 Jj=>?_⟩
   have s3:=Same.new (o:=.tup [.ref t1,.ref t2]) Jj
   have sA:=(s1.trans s2).trans s3
   refine k t3 sg mv _ ((k13.trans k4).trans sA.kb) (d4.same sA) ⟨t1,t2,ps,af,s3 _ _ (s2 _ _ af),s3 _ _ af,tp.keep sA.kt⟩ ⟨by omega,by omega,⟨b2,b4⟩,fun l hl=>⟨(hm l hl).1,fun x hx=>by have:=(hm l hl).2 x hx;omega⟩,hlk⟩ (by omega) (by omega) h10
def E_ (sg:List Nat) (x:Str):Prop:=0<sg.length∧sg.length≤8∧(∀y∈sg,y<10)∧md true x
def Good (H:Hp) (b:Nat) (kvs:List (Key×V)) (x:Str):Prop:=∃(r:Addr) (sg:List Nat) (mv:List (List Nat)),cH kvs (Sum.inr x)=some (.ref r)∧dj H r sg mv∧Right b sg mv∧E_ sg x
theorem Good.keep {H H':Hp} {b:Nat} {kvs:List (Key×V)} {x:Str} (h:Good H b kvs x) (k:bQ H H'):Good H' b kvs x:=by
 obtain⟨r,sg,mv,h1,h2,h3⟩:=h
 exact⟨r,sg,mv,h1,h2.keep k,h3⟩
structure Ks (H:Hp) (b:Nat) (kvs:List (Key×V)) (ks:List Str):Prop where
 keys:kvs.map (·.1)=ks.map Sum.inr
 good:∀x∈ks,Good H b kvs x
 refs:∀p∈kvs,∃r,p.2=.ref r
 nd:ks.Nodup
theorem Ks.keep {H H':Hp} {b:Nat} {kvs:List (Key×V)} {ks:List Str} (h:Ks H b kvs ks) (k:bQ H H'):Ks H' b kvs ks:=⟨h.keys,fun x hx=>(h.good x hx).keep k,h.refs,h.nd⟩
theorem Ks.has {H:Hp} {b:Nat} {kvs:List (Key×V)} {ks:List Str} (h:kvs.map (·.1)=ks.map Sum.inr) (x:Str):(kvs.any fun kv=>decide (kv.1=(Sum.inr x:Key)))=true↔x∈ks:=by
 rw[List.any_eq_true]
 constructor
 ·rintro⟨p,hp,e⟩
  have:(Sum.inr x:Key)∈kvs.map (·.1):=List.mem_map.mpr ⟨p,hp,of_decide_eq_true e⟩
  rw[h] at this
  obtain⟨y,hy,ey⟩:=List.mem_map.mp this
  cases ey
  exact hy
 ·intro hx
  have:(Sum.inr x:Key)∈ks.map Sum.inr:=List.mem_map.mpr ⟨x,hx,rfl⟩
  rw[←h] at this
  obtain⟨p,hp,ep⟩:=List.mem_map.mp this
  exact⟨p,hp,decide_eq_true ep⟩
theorem ou {kvs:List (Key×V)} {ks:List Str} (h:kvs.map (·.1)=ks.map Sum.inr) {x:Str} (v:V) (hx:x∈ks):(putK kvs (Sum.inr x) v).map (·.1)=ks.map Sum.inr:=by
 unfold putK
 rw[if_pos ((Ks.has (H:=fun _=>none) (b:=0) h x).mpr hx),List.map_map,←h]
 refine List.map_congr_left fun p _=>?_
 show(if p.1=Sum.inr x then(p.1,v) else p).1=p.1
 split<;>rfl
theorem vH {kvs:List (Key×V)} {ks:List Str} (h:kvs.map (·.1)=ks.map Sum.inr) {x:Str} (v:V) (hx:x ∉ ks):(putK kvs (Sum.inr x) v).map (·.1)=(ks++[x]).map Sum.inr:=by
 unfold putK
 rw[if_neg (fun z=>hx ((Ks.has (H:=fun _=>none) (b:=0) h x).mp z)),List.map_append,h,List.map_append]
 rfl
theorem Ks.put {H:Hp} {b:Nat} {kvs:List (Key×V)} {ks:List Str} (h:Ks H b kvs ks) {x:Str} {r:Addr} {sg:List Nat} {mv:List (List Nat)} (ra:dj H r sg mv) (R:Right b sg mv) (s0:E_ sg x):
  ∃ks',Ks H b (putK kvs (Sum.inr x) (.ref r)) ks'∧(∀y,y∈ks'↔y∈ks∨y=x)∧ks'.length≤ks.length+1:=by
 have good:∀y,y∈ks∨y=x→Good H b (putK kvs (Sum.inr x) (.ref r)) y:=fun y hy=>by
  by_cases e:y=x
  ·subst e
   exact⟨r,sg,mv,by rw[lJ,if_pos rfl],ra,R,s0⟩
  ·obtain⟨r',RD,mv',h1,h2⟩:=h.good y (hy.resolve_right e)
   exact⟨r',RD,mv',by rw[lJ,if_neg (fun z=>e (by cases z;rfl))];exact h1,h2⟩
 have refs:∀p∈putK kvs (Sum.inr x) (.ref r),∃r,p.2=.ref r:=fun p hp=>by
  rcases Gy hp with e | e
  ·exact⟨r,by rw[e]⟩
  ·exact h.refs p e
 by_cases c:x∈ks
 ·exact⟨ks,⟨ou h.keys _ c,fun y hy=>good y (.inl hy),refs,h.nd⟩,fun y=>⟨.inl,fun z=>z.elim id fun e=>e▸c⟩,Nat.le_succ _⟩
 ·refine⟨ks++[x],⟨vH h.keys _ c,fun y hy=>good y ?_,refs,by rw[List.nodup_append];exact⟨h.nd,by simp,fun a ha b hb e=>c (List.mem_singleton.mp hb▸e▸ha)⟩⟩,fun y=>by simp,by rw[List.length_append];exact Nat.le_refl _⟩
  ·simpa using hy
theorem bQ.dk {H:Hp} {d:Addr} {kvs:List (Key×V)} {o:HO} (h:H d=some (.dK kvs)):bQ H (upd H d o):=fun b ys e=>by
 rw[aF (lB e h (fun z=>nomatch z))];exact e
theorem Gz (kvs:List (Key×V)) (k:Key) (v:V):(putK kvs k v).length≤kvs.length+1:=by
 unfold putK
 by_cases c:(kvs.any fun kv=>decide (kv.1=k))=true
 ·rw[if_pos c,List.length_map];omega
 ·rw[if_neg c,List.length_append];exact Nat.le_refl _
def GA:Sp:=fun vs H Q _=>∃d:Addr,vs=[.ref d]∧bA H d∧∀(wa D:Addr) (b:Nat) (kvs:List (Key×V)) (ks:List Str) (H':Hp),KB d H H'→bA H' d→H' wa=some (.tup [.int b,.ref D])→H' D=some (.dK kvs)→Ks H' b kvs ks→2≤b→b≤4→ks.length≤4→H D=none→Q (.ref wa) H'
theorem jf:bj ["_law_deck_here","_law_base","_law_rows","_law_name"] ["_law_deck_here"] (aj gP):=⟨rfl,rfl,rfl,by decide+kernel,rfl,by decide+kernel,by decide+kernel⟩
theorem Af {a:fc} (T:Txt K mg a):bC P w K mg base dE 3 a.jZ a.lU ["_law_deck_here"] GA:=by
 have aV:=fO (P:=P) (w:=w) (base:=base) T
 have Cp:=Ad (P:=P) (w:=w) (base:=base) T
 have GB:=DU (P:=P) (w:=w) (base:=base) T
 refine T.B9.ok jf (fun vs H Q E h=>?_) (fun cdv A outer s H vs Q E hr h=>?_)
 ·obtain⟨d,rfl,_⟩:=h
  rfl
 ·obtain⟨d,rfl,d0,k⟩:=h
  have aN:aO 1 _:=hr.mono (by decide)
  have Ag:aO 2 _:=hr
  have DV:aO 2 _:=hr
  refine⟨_,(ai (aA (i:=1) jf.nd rfl (Or.inl rfl) (ao cp ah (aD aV aN rfl T.bu T.bw T.bz .nil bf (ae (pv 0) (ae ah ag)))))
  (ai (aA (i:=2) jf.nd rfl (Or.inl rfl) Dh)
  (ai (gX PassesOwn.never rfl (eE (aD Cp Ag rfl T.B6 T.B7 T.B8 .nil bf (ae (pv 0) (ae (aD aV aN rfl T.bu T.bw T.bz .nil bf (ae (pv 0) (ae ah ag))) (ae fC ag))))) (aS (i:=3) jf.nd rfl (Or.inl rfl))
   (aq (ya (lI hr) (pv 2) (pv 3) (aD GB DV rfl T.Gk T.Gm T.Gn .nil bf (ae (pv 0) (ae (pv 1) ag))) rfl)))
  (aq (aW (cU (ae (pv 1) (ae (pv 2) ag)))))))),?_⟩
  refine⟨_,rfl,d,3,rfl,d0,by decide,fun r H1 r0 r1 k1 d1=>⟨_,_,rfl,rfl,?_⟩⟩
  obtain⟨b,eb⟩:∃b:Nat,2+r=(b:Int):=⟨(2+r).toNat,by omega⟩
  have b2:2≤b:=by omega
  have b4:b≤4:=by omega
  dsimp only[eU]
  rw[eb]
  refine fun D hD=>?_
  have sD:=Same.new (o:=.dK []) hD
  have su:D≠d:=(d1.ne hD).symm
  have E2:H D=none:=by
   cases z:H D with
   | none=>rfl
   | some o=>have:=k1 D o z su;rw[hD] at this;cases this
  refine⟨_,rfl,_,rfl,d,5,rfl,d1.same sD,by decide,fun q H2 q0 q1 k2 d2=>?_⟩
  obtain⟨m,rfl⟩:∃m:Nat,q=(m:Int):=⟨q.toNat,by omega⟩
  refine⟨d,m,true,rfl,d2,by omega,fun N ss H3 hN k3 d3 eN ls _ RE=>?_⟩
  have vF:N≠d:=(d2.ne hN).symm
  have Mp:H2 D=some (.dK []):=k2 _ _ af su
  have RF:=k3 _ _ Mp su
  have RG:N≠D:=(aH Mp hN).symm
  have k13:KB d H H3:=(k1.trans sD.kb).trans (k2.trans k3)
  refine⟨N,rfl,⟨_,.of eN⟩,oJ (xs:=ss.map V.str) (fun i σ H'=>∃(kvs:List (Key×V)) (ks:List Str) (v3:Option V),σ=[some (.ref d),some (.int b),some (.ref D),v3]∧KB d H H'∧bA H' d∧H' D=some (.dK kvs)∧H' N=some (.lst (ss.map V.str))∧Ks H' b kvs ks∧ks.length≤i∧kvs.length≤i)
   ⟨[],[],none,rfl,k13,d3,RF,eN,⟨rfl,(fun x hx=>by cases hx),(fun p hp=>by cases hp),List.nodup_nil⟩,Nat.le_refl _,Nat.le_refl _⟩ (fun i σ H' _ ⟨_,_,_,_,_,_,_,h,_⟩=>.of h) ?_ ?_⟩
  ·rintro i y σ H5 hy ⟨kvs,ks,v3,rfl,k5,d5,Jk,Mq,K5,lk,lv⟩
   obtain⟨z,rfl,ez⟩:=gN hy
   have hi:i<ss.length:=(List.getElem?_eq_some_iff.mp ez).1
   refine⟨_,rfl,_,rfl,d,b,rfl,d5,b2,b4,fun rr sg mv H6 k6 d6 ra R s0 s8 fJ=>?_⟩
   have Mr:=k6 _ _ Jk su
   have kt:bQ H5 H6:=by obtain⟨xs,ex⟩:=d5.is;exact bQ.kb ex k6
   obtain⟨ks',K6,hk',LX⟩:=(K5.keep kt).put ra R ⟨s0,s8,fJ,RE z (List.mem_of_getElem? ez)⟩
   refine⟨_,rfl,_,rfl,D,_,rfl,qk.k (k:=Sum.inr z) Mr (Nat.lt_of_le_of_lt (show kvs.length≤100 by omega) (by decide)),?_⟩
   have RH:=bQ.dk (o:=.dK (putK kvs (Sum.inr z) (.ref rr))) Mr
   refine⟨_,ks',_,rfl,?_,d6.kb KB.write su.symm,af,by rw[aF RG];exact k6 _ _ Mq vF,K6.keep RH,by omega,Nat.le_trans (Gz _ _ _) (by omega)⟩
   intro c o e n
   rw[aF (aH e E2)]
   exact k6 _ _ (k5 _ _ e n) n
  ·rintro σ H5 ⟨kvs,ks,v3,rfl,k5,d5,Jk,Mq,K5,lk,lv⟩
   rw[List.length_map,ls] at lk
   refine⟨_,rfl,_,rfl,by show 2≤sizeLine;decide,fun wa E3=>?_⟩
   have sw:=Same.new (o:=.tup [.int b,.ref D]) E3
   exact k wa D b kvs ks _ (k5.trans sw.kb) (d5.same sw) af (sw _ _ Jk) (K5.keep sw.kt) b2 b4 (by omega) E2
theorem jm {rs:List Addr} {i:Nat} {x:V} (h:(rs.map V.ref)[i]? =some x):∃r,x=.ref r∧rs[i]? =some r:=by
 rw[List.getElem?_map] at h
 cases e:rs[i]? with
 | none=>rw[e] at h;cases h
 | some r=>rw[e] at h;exact⟨r,(Option.some.inj h).symm,rfl⟩
theorem take_snoc {α:Type} {xs:List α} {i:Nat} {x:α} (h:xs[i]? =some x):xs.take (i+1)=xs.take i++[x]:=by rw[List.take_add_one,h];rfl
structure iz where
 D:Addr
 c1:Addr
 c2:Addr
 c3:Addr
 c4:Addr
 f1:Addr
 f2:Addr
 f3:Addr
 f4:Addr
 Jl:FuncData
 fd2:FuncData
 Ms:FuncData
 Jm:FuncData
abbrev qA:Stmt:=inClass (top 2) 0
abbrev vI:Stmt:=inClass (top 3) 0
abbrev vJ:Stmt:=inClass (top 4) 0
abbrev qB:Stmt:=inClass (top 5) 0
structure TX (K:PySem.W.Frag) (mg:Str→Option Value) (x:iz):Prop where
 xD:XC K x.D dm
 iD:XI K x.D
 mD:mg "JudgeError"=some (.ref x.D)
 zV:mg "ValueError"=none
 x1:XC K x.c1 (.ref x.D::dm)
 x2:XC K x.c2 (.ref x.D::dm)
 x3:XC K x.c3 (.ref x.D::dm)
 x4:XC K x.c4 (.ref x.D::dm)
 M1:XM K x.c1 x.f1
 M2:XM K x.c2 x.f2
 M3:XM K x.c3 x.f3
 M4:XM K x.c4 x.f4
 m1:mg "NoRow"=some (.ref x.c1)
 m2:mg "NoSaying"=some (.ref x.c2)
 m3:mg "TooMany"=some (.ref x.c3)
 m4:mg "NoText"=some (.ref x.c4)
 F1:cV K "__init__" "NoRow.__init__" qA x.f1 x.Jl
 F2:cV K "__init__" "NoSaying.__init__" vI x.f2 x.fd2
 F3:cV K "__init__" "TooMany.__init__" vJ x.f3 x.Ms
 F4:cV K "__init__" "NoText.__init__" qB x.f4 x.Jm
 b1:Binds K x.Jl ["self","name"] []
 b2:Binds K x.fd2 ["self","place"] []
 b3:Binds K x.Ms ["self","place"] []
 b4:Binds K x.Jm ["self"] []
 n1:PySem.W.findIn K (.ref x.c1) "name"=some none
 n2:PySem.W.findIn K (.ref x.c2) "place"=some none
 n3:PySem.W.findIn K (.ref x.c3) "place"=some none
 ne:[x.c1,x.c2,x.c3,x.c4,x.D].Nodup
 n_:∃h:Heap,K.In h
def Jn (K:PySem.W.Frag) (n:Str):Sp:=fun vs H Q _=>∃(a C:Addr) (bm:List Value) (v:V),vs=[.ref a,v]∧H a=some (xo true a C none)∧XC K C bm∧PySem.W.findIn K (.ref C) n=some none∧zA K v H∧
 ∀dx,H dx=none→dx≠a→Q .non (upd (upd H a (xo true a C (some dx))) dx (.xd [(n,v)]))
def yy (K:PySem.W.Frag):Sp:=fun vs H Q _=>∃(a C:Addr) (bm:List Value),vs=[.ref a]∧H a=some (xo true a C none)∧XC K C bm∧Q .non H
theorem KN:bj ["self","name"] ["self","name"] (aj qA):=⟨rfl,rfl,rfl,by decide+kernel,rfl,by decide+kernel,by decide+kernel⟩
theorem KO:bj ["self"] ["self"] (aj qB):=⟨rfl,rfl,rfl,by decide+kernel,rfl,by decide+kernel,by decide+kernel⟩
theorem KP {x:iz} (T:TX K mg x):bC P w K mg base dE 1 x.f1 x.Jl ["self","name"] (Jn K "name"):=by
 refine T.F1.ok (k:=0) KN (fun vs H Q E h=>?_) (fun cdv A outer s H vs Q E hr h=>?_)
 ·obtain⟨a,C,bm,v,rfl,_⟩:=h
  rfl
 ·obtain⟨a,C,bm,v,rfl,Ha,c,hn,ok,k⟩:=h
  refine⟨_,(ai (eh (EF T.iD (by rfl) T.mD (ae (pv 0) (ae (FZ (pv 1) hr (by decide) (by decide)) ag))))
   (aq (Ky (pv 0) (pv 1) rfl))),?_⟩
  exact⟨_,rfl,_,rfl,ok,fun z=>⟨a,C,none,bm,[.str z],rfl,by simp,Ha,c,_,rfl,_,rfl,a,C,bm,rfl,Ha,c,hn,k⟩⟩
theorem mf {x:iz} (T:TX K mg x):bC P w K mg base dE 1 x.f4 x.Jm ["self"] (yy K):=by
 refine T.F4.ok (k:=0) KO (fun vs H Q E h=>?_) (fun cdv A outer s H vs Q E hr h=>?_)
 ·obtain⟨a,C,bm,rfl,_⟩:=h
  rfl
 ·obtain⟨a,C,bm,rfl,Ha,c,k⟩:=h
  refine⟨_,(aq (eh (EF T.iD (by rfl) T.mD (ae (pv 0) ag)))),?_⟩
  exact⟨_,rfl,a,C,none,bm,[],rfl,by simp,Ha,c,k⟩
def qC (H:Hp) (r:Addr) (sg:List Int) (mv:List (List Int)):Prop:=∃(sa ma:Addr) (ps:List Addr),H r=some (.tup [.ref sa,.ref ma])∧H sa=some (.tup (sg.map V.int))∧H ma=some (.tup (ps.map V.ref))∧cb H ps mv∧∀l∈mv,l.length≤1000
theorem qC.keep {H H':Hp} {r:Addr} {sg:List Int} {mv:List (List Int)} (h:qC H r sg mv) (k:bQ H H'):qC H' r sg mv:=by
 obtain⟨sa,ma,ps,h1,h2,h3,h4,h5⟩:=h
 exact⟨sa,ma,ps,k _ _ h1,k _ _ h2,k _ _ h3,h4.keep k,h5⟩
def inB (m:Nat) (x:Int):Bool:=decide (0≤x)&&decide (x<(m:Int))
def gD (b:Nat) (sg:List Int) (i:Nat) (l:List Int):Bool:=decide (l.length=b)&&(l.all (inB sg.length)&&decide (sg.getD (l.getD 0 0).toNat 0=sg.getD i 0))
def fP (b:Nat) (sg:List Int) (mv:List (List Int)):Bool:=decide (mv.length=sg.length)&&(List.range mv.length).all fun i=>gD b sg i (mv.getD i [])
theorem Cq {b:Nat} {sg:List Int} {mv:List (List Int)} (h:mv.length≠sg.length):fP b sg mv=false:=by simp[fP,h]
theorem oQ {b:Nat} {sg:List Int} {mv:List (List Int)} {i:Nat} {l:List Int} (h:mv[i]? =some l) (e:gD b sg i l=false):fP b sg mv=false:=by
 have hi:=(List.getElem?_eq_some_iff.mp h).1
 unfold fP
 rw[Bool.and_eq_false_iff]
 refine .inr (List.all_eq_false.mpr ⟨i,List.mem_range.mpr hi,?_⟩)
 rw[List.getD_eq_getElem?_getD,h]
 simp[e]
theorem sv {b:Nat} {sg:List Int} {mv:List (List Int)} (h:mv.length=sg.length) (k:∀(i:Nat) (l:List Int),mv[i]? =some l→gD b sg i l=true):fP b sg mv=true:=by
 unfold fP
 rw[Bool.and_eq_true]
 refine⟨decide_eq_true h,List.all_eq_true.mpr fun i hi=>?_⟩
 have hi:=List.mem_range.mp hi
 exact k i _ (item_at [] hi)
theorem intAt {ns:List Int} {i:Nat} (h:i<ns.length):(ns.map V.int)[i]? =some (.int (ns.getD i 0)):=by rw[List.getElem?_map,item_at 0 h];rfl
def GC:Sp:=fun vs H Q _=>∃(a:Addr) (l:List Int) (m:Nat),vs=[.ref a,.int m]∧H a=some (.tup (l.map V.int))∧l.length≤1000∧∀H',Same H H'→Q (.bl (l.all (inB m))) H'
def GD:Sp:=fun vs H Q _=>∃(b:Nat) (r:Addr) (sg:List Int) (mv:List (List Int)),vs=[.int b,.ref r]∧qC H r sg mv∧2≤b∧∀H',Same H H'→Q (.bl (fP b sg mv)) H'
theorem vK:bj ["leads","many"] ["leads","many"] (aj dU):=⟨rfl,rfl,rfl,by decide+kernel,rfl,by decide+kernel,by decide+kernel⟩
theorem vL {a:fc} (T:Txt K mg a):bC P w K mg base dE 1 a.iG a.jM ["leads","many"] GC:=by
 refine T.wX.ok vK (fun vs H Q E h=>?_) (fun cdv A outer s H vs Q E hr h=>?_)
 ·obtain⟨a,l,m,rfl,_⟩:=h
  rfl
 ·obtain⟨a,l,m,rfl,ea,ll,k⟩:=h
  refine⟨_,(aq (aW (aE (rL K rfl) (by rfl) T.EN Bl (ae (fk (aI.mk' (esc:=aj dU) (N:=["leads","many"]) (own:=["room"]) (aZ:=["many"]) (bJ:=[1]) rfl rfl (by decide+kernel)) rfl (ug (pv 0)) (fun _ _ _ _=>(aS (i:=0) (show List.Nodup (["room","many"]:List Str) by decide+kernel) rfl (Or.inl rfl))) (fun _ _ _ _=>bU) (fun _ _ _ _=>(C9 o7 o6 ah (pv 0) (pv 1)))) ag)))),?_⟩
  refine⟨_,rfl,a,rfl,⟨_,.of ea⟩,fun C hC=>?_⟩
  refine uL (xs:=l.map V.int) (fun i σ H'=>∃v:Option V,σ=[v,some (.int m)]∧Same H H'∧H' C=some (.lst (((l.take i).map (inB m)).map V.bl)))
   ⟨none,rfl,Same.new hC,af⟩ (fun i σ H' _ ⟨_,_,s,_⟩=>.of (s _ _ ea)) ?_ ?_
  ·rintro i x σ H1 hx ⟨v,rfl,s1,eC⟩
   obtain⟨n,rfl,en⟩:=nN hx
   have hi:=(List.getElem?_eq_some_iff.mp en).1
   have put:∀c:Bool,c=inB m n→∃xs,H1 C=some (.lst xs)∧xs.length<sizeLine∧∃v:Option V,[some (V.int n),some (V.int m)]=[v,some (.int m)]∧Same H (upd H1 C (.lst (xs++[.bl c])))∧(upd H1 C (.lst (xs++[.bl c]))) C=some (.lst (((l.take (i+1)).map (inB m)).map V.bl)):=fun c ec=>by
    refine⟨_,eC,?_,_,rfl,s1.kbn hC KB.write,?_⟩
    ·rw[List.length_map,List.length_map,List.length_take];exact Nat.lt_of_lt_of_le (show min i l.length<1001 by omega) (by decide)
    ·rw[af,take_snoc en,List.map_append,List.map_append,ec];rfl
   refine⟨_,rfl,_,_,rfl,rfl,_,rfl,?_⟩
   refine cN (fun h1=>?_) (fun h1=>?_)
   ·refine⟨_,rfl,_,_,rfl,rfl,?_⟩
    exact put _ (by unfold inB;rw[h1,Bool.true_and])
   ·exact put _ (by unfold inB;rw[Bool.eq_false_iff.mpr h1,Bool.false_and])
  ·rintro σ H1 ⟨v,rfl,s1,eC⟩
   refine⟨C,_,rfl,.of eC,?_⟩
   rw[List.length_map,List.take_length,show(l.map (inB m)).all id=l.all (inB m) by simp[List.all_map]]
   exact k _ s1
theorem gw:bj ["base","row","signs","moves","room","leads"] ["base","row"] (aj fW):=⟨rfl,rfl,rfl,by decide+kernel,rfl,by decide+kernel,by decide+kernel⟩
theorem xv {a:fc} (T:Txt K mg a):bC P w K mg base dE 2 a.jc a.kj ["base","row"] GD:=by
 have xx:=vL (P:=P) (w:=w) (base:=base) T
 refine T.zL.ok gw (fun vs H Q E h=>?_) (fun cdv A outer s H vs Q E hr h=>?_)
 ·obtain⟨b,r,sg,mv,rfl,_⟩:=h
  rfl
 ·obtain⟨b,r,sg,mv,rfl,⟨sa,ma,ps,e1,e2,e3,tp,KQ⟩,b2,k⟩:=h
  have vM:aO 1 _:=hr
  refine⟨_,(ai (aA (i:=2) gw.nd rfl (Or.inl rfl) (aK (bD K) (pv 1) ah (fun _ _=>rfl)))
  (ai (aA (i:=3) gw.nd rfl (Or.inl rfl) (aK (bD K) (pv 1) ah (fun _ _=>rfl)))
  (ai (bM (aL iC (aE (aQ K) (by rfl) T.bT bK (ae (pv 3) ag)) (aE (aQ K) (by rfl) T.bT bK (ae (pv 2) ag)) (aR _))
   (aq (aW fC))
   bh)
  (ai (gX PassesOwn.never rfl (Dm rfl T.xr (ae (pv 3) ag)) (oZ rfl (dP (aS (i:=4) gw.nd rfl (Or.inl rfl)) (dP (aS (i:=5) gw.nd rfl (Or.inl rfl)) kC)))
   (ai (bM (PW.pt (lF (aL iC (aE (aQ K) (by rfl) T.bT bK (ae (pv 5) ag)) (pv 0) (aR _)) (kx (kz (lG (aD xx vM rfl T.wY T.wZ T.w_ .nil bf (ae (pv 5) (ae (aE (aQ K) (by rfl) T.bT bK (ae (pv 2) ag)) ag))) (fun _=>rfl))))))
    (aq (aW fC))
    bh)
   (aq (bM (aL iC (aK (bD K) (pv 2) (aK (bD K) (pv 5) ah (fun _ _=>rfl)) (fun _ _=>rfl)) (aK (bD K) (pv 2) (pv 4) (fun _ _=>rfl)) (aR _))
    (aq (aW fC))
    bh))))
  (aq (aW fC)))))),?_⟩
  have lp:ps.length=mv.length:=Paired.length tp
  refine⟨_,rfl,r,_,_,_,rfl,rfl,.of e1,aB (j:=0) (v:=.ref sa) rfl,?_⟩
  refine⟨_,rfl,r,_,_,_,rfl,rfl,.of e1,aB (j:=1) (v:=.ref ma) rfl,?_⟩
  refine⟨_,rfl,_,_,rfl,.inr ⟨_,.of e3,rfl⟩,_,rfl,_,_,rfl,.inr ⟨_,.of e2,rfl⟩,rfl,_,rfl,?_⟩
  rw[List.length_map,List.length_map,lp]
  by_cases hlen:¬mv.length=sg.length
  ·rw[uO (fun z=>hlen (Int.ofNat_inj.mp z))]
   have:=k _ (Same.refl H)
   rw[Cq hlen] at this
   exact b_ this
  have hlen:=Decidable.not_not.mp hlen
  rw[dI (show((mv.length:Nat):Int)=((sg.length:Nat):Int) by rw[hlen])]
  refine bZ ⟨_,rfl,ma,rfl,⟨_,.of e3⟩,Bq (xs:=ps.map V.ref) (fun i σ H'=>∃v4 v5:Option V,σ=[some (.int b),some (.ref r),some (.ref sa),some (.ref ma),v4,v5]∧Same H H'∧∀(j:Nat) (l:List Int),j<i→mv[j]? =some l→gD b sg j l=true)
   ⟨none,none,rfl,Same.refl _,fun j l h=>absurd h (Nat.not_lt_zero _)⟩ (fun i σ H' _ ⟨_,_,_,s,_⟩=>.of (s _ _ e3)) ?_ ?_⟩
  ·rintro i x pp σ H1 hx ⟨v4,v5,rfl,s1,hj⟩ hpp
   obtain⟨p,rfl,hp⟩:=jm hx
   obtain⟨l,em,el⟩:=tp.get hp
   have hi:i<sg.length:=by rw[←hlen];exact(List.getElem?_eq_some_iff.mp em).1
   have ll:=KQ l (List.mem_of_getElem? em)
   have bad:gD b sg i l=false→∀H',Same H H'→Q (.bl false) H':=fun e H' s=>by
    have:=k _ s
    rw[oQ em e] at this
    exact this
   have s2:=s1.trans (Same.new (o:=.tup [.int (i:Int),.ref p]) hpp)
   refine⟨pp,_,rfl,.of af,rfl,_,_,rfl,_,_,rfl,rfl,?_⟩
   generalize upd H1 pp (.tup [.int (i:Int),.ref p])=H2 at s2 ⊢
   refine⟨_,rfl,_,_,rfl,.inr ⟨_,.of (s2 _ _ el),rfl⟩,_,rfl,rfl,_,rfl,?_⟩
   rw[List.length_map]
   by_cases hb:¬l.length=b
   ·rw[uO (fun z=>hb (Int.ofNat_inj.mp z))]
    exact b_ (b_ (bad (by simp[gD,hb]) _ s2))
   have hb:=Decidable.not_not.mp hb
   rw[dI (show((l.length:Nat):Int)=((b:Nat):Int) by rw[hb])]
   refine bZ ⟨_,rfl,_,rfl,_,_,rfl,.inr ⟨_,.of (s2 _ _ e2),rfl⟩,p,l,sg.length,by rw[List.length_map];rfl,s2 _ _ el,ll,fun H3 s3=>⟨_,rfl,?_⟩⟩
   have s4:=s2.trans s3
   cases hin:l.all (inB sg.length) with
   | false=>exact b_ (bad (by simp[gD,hin]) _ s4)
   | true=>
    refine bZ ?_
    have l0:0<l.length:=by omega
    have hg:=List.all_eq_true.mp hin _ (List.mem_of_getElem? (item_at 0 l0))
    unfold inB at hg
    rw[Bool.and_eq_true] at hg
    have g0:0≤l.getD 0 0:=of_decide_eq_true hg.1
    have g1:l.getD 0 0<sg.length:=of_decide_eq_true hg.2
    have e0:l.getD 0 0=(((l.getD 0 0).toNat:Nat):Int):=by omega
    refine⟨_,rfl,_,rfl,p,_,_,_,rfl,rfl,.of (s4 _ _ el),aB (j:=0) (intAt l0),sa,_,_,_,rfl,rfl,.of (s4 _ _ e2),ny (j:=(l.getD 0 0).toNat) e0 (intAt (by omega)),_,rfl,_,rfl,sa,_,_,_,rfl,rfl,.of (s4 _ _ e2),aB (intAt hi),rfl,_,rfl,?_⟩
    by_cases hs:sg.getD (l.getD 0 0).toNat 0=sg.getD i 0
    ·rw[dI hs]
     refine bZ ⟨_,_,rfl,s4,fun j l' hjl e=>?_⟩
     by_cases c:j=i
     ·subst c
      rw[em] at e
      cases e
      unfold gD
      rw[decide_eq_true hb,hin,decide_eq_true hs];rfl
     ·exact hj j l' (by omega) e
    ·rw[uO hs]
     exact b_ (bad (by unfold gD;rw[decide_eq_false hs,Bool.and_false,Bool.and_false]) _ s4)
  ·rintro σ H1 ⟨v4,v5,rfl,s1,hj⟩
   have:=k _ s1
   rw[sv hlen fun i l e=>hj i l (by rw[List.length_map,lp];exact(List.getElem?_eq_some_iff.mp e).1) e] at this
   exact this
def JR (H:Hp) (b:Nat) (kvs:List (Key×V)) (x:Str) (t:Bool):Prop:=∃(r:Addr) (sg:List Int) (mv:List (List Int)),cH kvs (Sum.inr x)=some (.ref r)∧qC H r sg mv∧fP b sg mv=t
theorem JR.keep {H H':Hp} {b:Nat} {kvs:List (Key×V)} {x:Str} {t:Bool} (h:JR H b kvs x t) (k:bQ H H'):JR H' b kvs x t:=by
 obtain⟨r,sg,mv,h1,h2,h3⟩:=h
 exact⟨r,sg,mv,h1,h2.keep k,h3⟩
structure GF (H:Hp) (b:Nat) (d:Addr) (kvs:List (Key×V)) (ss:List Str) (f:Str→Bool):Prop where
 two:2≤b
 dict:H d=some (.dK kvs)
 keys:kvs.map (·.1)=ss.map Sum.inr
 few:ss.length<64
 short:∀x∈ss,x.length≤100000
 rows:∀x∈ss,JR H b kvs x (f x)
def Cr (c1:Addr):Sp:=fun vs H Q E=>∃(b:Nat) (wa d:Addr) (kvs:List (Key×V)) (ss:List Str) (f:Str→Bool),vs=[.ref wa]∧H wa=some (.tup [.int b,.ref d])∧GF H b d kvs ss f∧
 ((∀x∈ss,f x=true)→∀H',Same H H'→Q .non H')∧
 (∀m∈ss,f m=false→(∀x∈ss,f x=false→m.cps.toList≤x.cps.toList)→∀H' a dx,Same H H'→H' a=some (xo false a c1 (some dx))→H' dx=some (.xd [("name",.str m)])→E (.ref a) (some dx) H')
theorem Cs {H:Hp} {x dx:Addr} {o1 o2 o3 o4:HO} (hx:H x=none) (hdx:upd H x o1 dx=none):Same H (upd (upd (upd (upd H x o1) x o2) dx o3) x o4):=fun b o e=>by
 have n1:b≠x:=aH e hx
 have n2:b≠dx:=fun z=>by rw[←z,aF n1,e] at hdx;cases hdx
 rw[aF n1,aF n2,aF n1,aF n1]
 exact e
theorem gE:bj ["world","base","rows","name"] ["world"] (aj eI):=⟨rfl,rfl,rfl,by decide+kernel,rfl,by decide+kernel,by decide+kernel⟩
theorem tL {a:fc} {x:iz} (T:Txt K mg a) (TE:TX K mg x):bC P w K mg base (cy P w) 4 a.fN a.gB ["world"] (Cr x.c1):=by
 have Ah:=xv (P:=P) (w:=w) (base:=base) T
 refine T.vf.uV gE (fun vs H Q E h=>?_) (fun cdv A outer s H vs Q E hr h=>?_)
 ·obtain⟨b,wa,d,kvs,ss,f,rfl,_⟩:=h
  rfl
 ·obtain⟨b,wa,d,kvs,ss,f,rfl,e1,W,kq,ke⟩:=h
  have xy:aO 2 _:=hr.mono (by decide)
  have h_:aO 2 _:=hr.mono (by decide)
  refine⟨_,(ai (aA (i:=1) gE.nd rfl (Or.inl rfl) (aK (bD K) (pv 0) ah (fun _ _=>rfl)))
  (ai (aA (i:=2) gE.nd rfl (Or.inl rfl) (aK (bD K) (pv 0) ah (fun _ _=>rfl)))
  (aq (gX PassesOwn.leaving rfl (eE (aE (i7 rfl) (by rfl) T.jP iN (ae (pv 2) ag))) (aS (i:=3) gE.nd rfl (Or.inl rfl))
   (aq (bM (kz (lG (aD Ah xy rfl T.zM T.zN T.zO .nil bf (ae (pv 1) (ae (kL (lI hr) (pv 2) (pv 3) (fun _ _=>rfl)) ag))) (fun _=>rfl)))
    (aq (jX hr.hd TE.x1 eO (Kz TE.x1 TE.M1 (KP TE) h_ (by rfl) TE.m1 TE.b1 (by decide) (ae (pv 3) ag))))
    bh)))))),?_⟩
  refine⟨_,rfl,wa,_,_,_,rfl,rfl,.of e1,aB (j:=0) (v:=.int b) rfl,?_⟩
  refine⟨_,rfl,wa,_,_,_,rfl,rfl,.of e1,aB (j:=1) (v:=.ref d) rfl,?_⟩
  refine⟨_,rfl,d,kvs,ss,rfl,W.dict,W.keys,W.few,fun p ss' hp pm so=>?_⟩
  have sp:=Same.new (o:=.lst (ss'.map V.str)) hp
  refine⟨p,rfl,⟨_,.of af⟩,oJ (xs:=ss'.map V.str) (fun i σ H'=>∃v3:Option V,σ=[some (.ref wa),some (.int b),some (.ref d),v3]∧Same (upd H p (.lst (ss'.map V.str))) H'∧∀(j:Nat) (x:Str),j<i→ss'[j]? =some x→f x=true)
   ⟨none,rfl,Same.refl _,fun j x h=>absurd h (Nat.not_lt_zero _)⟩ (fun i σ H' _ ⟨_,_,s,_⟩=>.of (s _ _ af)) ?_ ?_⟩
  ·rintro i y σ H1 hy ⟨v3,rfl,s1,hj⟩
   obtain⟨m,rfl,em⟩:=gN hy
   have hm:m∈ss:=pm.mem_iff.mp (List.mem_of_getElem? em)
   have s2:=sp.trans s1
   obtain⟨r,sg,mv,er,ra,ef⟩:=(W.rows m hm).keep s2.kt
   refine⟨_,rfl,_,rfl,_,rfl,d,.ref r,rfl,pT (.inl (s2 _ _ W.dict)) er,b,r,sg,mv,rfl,ra,W.two,fun H3 s3=>⟨_,rfl,?_⟩⟩
   rw[ef]
   cases c:f m with
   | true=>
    refine bZ ⟨_,rfl,s1.trans s3,fun j x hji ej=>?_⟩
    by_cases z:j=i
    ·subst z
     rw[em] at ej
     cases ej
     exact c
    ·exact hj j x (by omega) ej
   | false=>
    refine b_ ⟨_,rfl,fun x' hx'=>⟨x',x.c1,_,.str m,rfl,af,TE.x1,TE.n1,.inl ⟨m,rfl,W.short m hm⟩,fun dx hdx ndx=>⟨rfl,x',some dx,rfl,?_,?_⟩⟩⟩
    ·rw[aF ndx.symm,af]
    ·refine ke m hm c (fun y hy fy=>?_) _ x' dx ((s2.trans s3).trans (Cs hx' hdx)) af (by rw[aF ndx,af])
     obtain⟨j,hjl,ej⟩:=List.getElem_of_mem (pm.mem_iff.mpr hy)
     have Mt:ss'[j]? =some y:=by rw[List.getElem?_eq_getElem hjl,ej]
     by_cases z:j<i
     ·rw[hj j y z Mt] at fy;cases fy
     ·exact i8 so (by omega) em Mt
  ·rintro σ H1 ⟨v3,rfl,s1,hj⟩
   refine kq (fun y hy=>?_) _ (sp.trans s1)
   obtain⟨j,hjl,ej⟩:=List.getElem_of_mem (pm.mem_iff.mpr hy)
   exact hj j y (by rw[List.length_map];exact hjl) (by rw[List.getElem?_eq_getElem hjl,ej])
def j4 (z:Str):Prop:=(∀c∈z.cps.toList,c<128)∧z.length≤100000
theorem j4.all {z:Str} (h:j4 z):z.cps.all (· <128)=true:=by
 rw[Array.all_eq_true]
 intro i hi
 exact decide_eq_true (h.1 _ (by rw[←Array.getElem_toList];exact List.getElem_mem _))
def ko (c:Nat):Bool:=decide (48≤c)&&decide (c≤57)
def dig (z:Str):Option Nat:=match z.cps.toList with
 | [c]=>if ko c then some (c-48) else none
 | _=>none
theorem qE {z:Str} {c:Nat} (e:z.cps.toList=[c]):dig z=if ko c then some (c-48) else none:=by unfold dig;rw[e]
theorem GG {z:Str} (h:z.length≠1):dig z=none:=by
 unfold dig
 split
 ·rename_i c e
  have:z.cps.toList.length=1:=by rw[e];rfl
  rw[dJ] at this
  exact absurd this h
 ·rfl
theorem one_sign {z:Str} (h:z.length=1):∃c,z=⟨#[c]⟩:=by
 have hl:z.cps.toList.length=1:=by rw[dJ];exact h
 match e:z.cps.toList,hl with
 | [c],_=>exact⟨c,ft e⟩
theorem GH {c:Nat} (h:ko c=true):PySem.intText? ⟨#[c]⟩=some ((c-48:Nat):Int):=by
 have key:∀k:Fin 10,PySem.intText? ⟨#[k.val+48]⟩=some ((k.val:Nat):Int):=by decide+kernel
 unfold ko at h
 rw[Bool.and_eq_true] at h
 have h1:=of_decide_eq_true h.1
 have h2:=of_decide_eq_true h.2
 have:=key ⟨c-48,by omega⟩
 rw[show(c-48)+48=c by omega] at this
 exact this
theorem yz (c:Nat):(c∈("0123456789":Str).cps.toList)↔ko c=true:=by
 have e:("0123456789":Str).cps.toList=[48,49,50,51,52,53,54,55,56,57]:=by decide+kernel
 rw[e]
 unfold ko
 rw[Bool.and_eq_true,decide_eq_true_eq,decide_eq_true_eq]
 simp only[List.mem_cons,List.not_mem_nil,or_false]
 omega
def Rz (c:Addr) (H:Hp) (E:XK):Prop:=∀H' a,Same H H'→H' a=some (xo false a c none)→E (.ref a) none H'
theorem Rz.same {c:Addr} {H H':Hp} {E:XK} (h:Rz c H E) (s:Same H H'):Rz c H' E:=fun H2 a s2 e=>h H2 a (s.trans s2) e
theorem cK {K:PySem.W.Frag} {mg:Str→Option Value} {x:iz} {H:Hp} {E:XK} {D:Ends} {σ:St} (TE:TX K mg x) (rz:Rz x.c4 H E):LZ K x.c4 (Iq x.c4 (yy K) qg) E D σ H:=fun y hy=>by
 refine⟨y,x.c4,_,rfl,af,TE.x4,rfl,y,none,rfl,af,rz _ y (fun b o e=>?_) af⟩
 have n:b≠y:=aH e hy
 rw[aF n,aF n]
 exact e
def mh (x y:Str):Bool:=x.cps.toList.all fun c=>decide (c∈y.cps.toList)
def Jo:Sp:=fun vs H Q _=>∃x y:Str,vs=[.str x,.str y]∧j4 x∧∀H',Same H H'→Q (.bl (mh x y)) H'
def nameB (y x:Str):Bool:=decide (1≤x.length)&&(decide (x.length≤3)&&(mh x y&& !decide (x∈(["not","and","or"]:List Str))))
def Ct (c4:Addr):Sp:=fun vs H Q E=>∃x y:Str,vs=[.str x,.str y]∧j4 x∧(nameB y x=true→∀H',Same H H'→Q (.str x) H')∧(nameB y x=false→Rz c4 H E)
def vN (c4:Addr):Sp:=fun vs H Q E=>∃z:Str,vs=[.str z]∧z.length≤100000∧(∀n,dig z=some n→∀H',Same H H'→Q (.int (n:Nat)) H')∧(dig z=none→Rz c4 H E)
def f_ (z:Str):Option Nat:=if z="base 2" then some 2 else if z="base 3" then some 3 else if z="base 4" then some 4 else none
def Cu (c4:Addr):Sp:=fun vs H Q E=>∃z:Str,vs=[.str z]∧z.length≤100000∧(∀n,f_ z=some n→∀H',Same H H'→Q (.int (n:Nat)) H')∧(f_ z=none→Rz c4 H E)
theorem tM:bj ["some","signs"] ["some","signs"] (aj dq):=⟨rfl,rfl,rfl,by decide+kernel,rfl,by decide+kernel,by decide+kernel⟩
theorem tN {a:fc} (T:Txt K mg a):bC P w K mg base dE 1 a.g_ a.iZ ["some","signs"] Jo:=by
 refine T.vj.ok tM (fun vs H Q E h=>?_) (fun cdv A outer s H vs Q E hr h=>?_)
 ·obtain⟨x,y,rfl,_⟩:=h
  rfl
 ·obtain⟨x,y,rfl,ha,k⟩:=h
  refine⟨_,(aq (aW (aE (rL K rfl) (by rfl) T.EN Bl (ae (fk (aI.mk' (esc:=aj dq) (N:=["some","signs"]) (own:=["sign"]) (aZ:=["signs"]) (bJ:=[1]) rfl rfl (by decide+kernel)) rfl (Iv (pv 0)) (fun _ _ _ _=>(aS (i:=0) (show List.Nodup (["sign","signs"]:List Str) by decide+kernel) rfl (Or.inl rfl))) (fun _ _ _ _=>bU) (fun _ _ _ _=>(jk A4 (pv 0) (pv 1) (by with_unfolding_all rfl)))) ag)))),?_⟩
  refine⟨_,rfl,x,rfl,ha.all,fun C hC=>?_⟩
  refine DG (fun i σ H'=>∃v:Option V,σ=[v,some (.str y)]∧Same H H'∧H' C=some (.lst (((x.cps.toList.take i).map fun c=>decide (c∈y.cps.toList)).map V.bl)))
   ⟨none,rfl,Same.new hC,af⟩ ?_ ?_
  ·rintro i c σ H1 hc ⟨v,rfl,s1,eC⟩
   have hc':x.cps.toList[i]? =some c:=by rw[Array.getElem?_toList];exact hc
   have hi:=(List.getElem?_eq_some_iff.mp hc').1
   rw[dJ] at hi
   refine⟨_,rfl,_,rfl,⟨#[c]⟩,y,rfl,rfl,_,eC,?_,_,rfl,s1.kbn hC KB.write,?_⟩
   ·rw[List.length_map,List.length_map,List.length_take];have:=ha.2;exact Nat.lt_of_lt_of_le (show min i _<100001 by omega) (by decide)
   ·rw[af,List.take_add_one,hc',yw,List.map_append,List.map_append];rfl
  ·rintro σ H1 ⟨v,rfl,s1,eC⟩
   refine⟨C,_,rfl,.of eC,?_⟩
   rw[List.take_of_length_le (by rw[dJ];exact Nat.le_refl _),show((x.cps.toList.map fun c=>decide (c∈y.cps.toList)).all id)=mh x y by unfold mh;simp[List.all_map,Function.comp_def]]
   exact k _ s1
theorem vO:bj ["some","signs"] ["some","signs"] (aj fu):=⟨rfl,rfl,rfl,by decide+kernel,rfl,by decide+kernel,by decide+kernel⟩
theorem vP {a:fc} {x:iz} (T:Txt K mg a) (TE:TX K mg x):bC P w K mg base (cy P w) 3 a.gm a.g6 ["some","signs"] (Ct x.c4):=by
 have vQ:=tN (P:=P) (w:=w) (base:=base) T
 obtain⟨Vo,RI⟩:=T.qx
 refine T.w4.uV vO (fun vs H Q E h=>?_) (fun cdv A outer s H vs Q E hr h=>?_)
 ·obtain⟨z,y,rfl,_⟩:=h
  rfl
 ·obtain⟨z,y,rfl,ha,kq,ke⟩:=h
  have tO:aO 1 _:=hr.mono (by decide)
  have h_:aO 2 _:=hr
  refine⟨_,(ai (bM (PW.pt (lF (kz (uk o7 o7 ah (aE (aQ K) (by rfl) T.bT bK (ae (pv 0) ag)) (dv (v:=.int 3) (by rfl) RI ⟨_,rfl⟩))) (lF (kz (lG (aD vQ tO rfl T.vm T.vn T.vo .nil bf (ae (pv 0) (ae (pv 1) ag))) (fun _=>rfl))) (kx (aL (Bm K) (pv 0) (cU (ae ay (ae ay (ae ay ag)))) (by with_unfolding_all rfl))))))
   (aq (jX hr.hd TE.x4 eO (jI TE.x4 TE.M4 (mf TE) h_ (by rfl) TE.m4 TE.b4)))
   bh)
  (aq (aW (pv 0)))),?_⟩
  have zl:z.length≤sizeLine:=Nat.le_trans ha.2 (by decide)
  have bad:nameB y z=false→∀H',Same H H'→Rz x.c4 H' E:=fun e H' s=>(ke e).same s
  refine⟨_,rfl,_,z.length,rfl,⟨zl,rfl⟩,_,_,rfl,rfl,_,rfl,?_⟩
  by_cases h1:1≤z.length
  ·rw[show decide ((1:Int)≤((z.length:Nat):Int))=true from decide_eq_true (by omega)]
   refine b_ ⟨_,_,rfl,rfl,_,rfl,?_⟩
   by_cases h3:z.length≤3
   ·rw[show decide (((z.length:Nat):Int)≤3)=true from decide_eq_true (by omega)]
    refine bZ ⟨_,rfl,_,rfl,z,y,rfl,ha,fun H1 s1=>⟨_,rfl,?_⟩⟩
    cases hm:mh z y with
    | true=>
     refine bZ ⟨_,rfl,by show 3≤sizeLine;decide,fun W hW=>⟨W,_,rfl,.inr (.of af),rfl,rfl,_,rfl,?_⟩⟩
     have sW:=s1.trans (Same.new (o:=.tup [.str "not",.str "and",.str "or"]) hW)
     rw[show inV (V.str z) [V.str "not",V.str "and",V.str "or"]=decide (z∈(["not","and","or"]:List Str)) from jR z ["not","and","or"]]
     by_cases hn:z∈(["not","and","or"]:List Str)
     ·rw[decide_eq_true hn]
      exact b_ (cK TE (bad (by unfold nameB;rw[decide_eq_true hn];simp) _ sW))
     ·rw[decide_eq_false hn]
      exact bZ ⟨_,rfl,kq (by unfold nameB;rw[decide_eq_false hn,hm,decide_eq_true h1,decide_eq_true h3];rfl) _ sW⟩
    | false=>exact b_ (b_ (cK TE (bad (by unfold nameB;rw[hm];simp) _ s1)))
   ·rw[show decide (((z.length:Nat):Int)≤3)=false from decide_eq_false (by omega)]
    exact b_ (b_ (cK TE (bad (by unfold nameB;rw[decide_eq_false h3];simp) _ (Same.refl _))))
  ·rw[show decide ((1:Int)≤((z.length:Nat):Int))=false from decide_eq_false (by omega)]
   exact bZ ⟨_,rfl,b_ (b_ (cK TE (bad (by unfold nameB;rw[decide_eq_false h1];simp) _ (Same.refl _))))⟩
theorem qF:bj ["some"] ["some"] (aj dy):=⟨rfl,rfl,rfl,by decide+kernel,rfl,by decide+kernel,by decide+kernel⟩
theorem qG {a:fc} {x:iz} (T:Txt K mg a) (TE:TX K mg x):bC P w K mg base (cy P w) 3 a.fg a.fZ ["some"] (vN x.c4):=by
 obtain⟨Vp,RJ⟩:=T.Cj
 refine T.tF.uV qF (fun vs H Q E h=>?_) (fun cdv A outer s H vs Q E hr h=>?_)
 ·obtain⟨z,rfl,_⟩:=h
  rfl
 ·obtain⟨z,rfl,hz,kq,ke⟩:=h
  have h_:aO 2 _:=hr
  refine⟨_,(ai (bM (PW.pt (lF (aL iC (aE (aQ K) (by rfl) T.bT bK (ae (pv 0) ag)) ah (aR _)) (kx (aL uj (pv 0) (dv (v:=.str "0123456789") (by rfl) RJ ⟨_,rfl⟩) (by with_unfolding_all rfl)))))
   (aq (jX hr.hd TE.x4 eO (jI TE.x4 TE.M4 (mf TE) h_ (by rfl) TE.m4 TE.b4)))
   bh)
  (aq (aW (bE se (by rfl) T.pR mV (ae (pv 0) ag))))),?_⟩
  have zl:z.length≤sizeLine:=Nat.le_trans hz (by decide)
  refine⟨_,rfl,_,z.length,rfl,⟨zl,rfl⟩,rfl,_,rfl,?_⟩
  by_cases h1:z.length=1
  ·rw[dI (show((z.length:Nat):Int)=1 by omega)]
   obtain⟨c,rfl⟩:=one_sign h1
   refine bZ ⟨_,rfl,⟨#[c]⟩,_,rfl,rfl,_,rfl,?_⟩
   rw[yw]
   cases hc:ko c with
   | true=>
    rw[decide_eq_true ((yz c).mpr hc)]
    refine bZ ⟨_,rfl,⟨#[c]⟩,_,rfl,GH hc,by show 1≤640;decide,kq _ (by rw[qE (c:=c) rfl,if_pos hc]) _ (Same.refl _)⟩
   | false=>
    rw[decide_eq_false (fun q=>by rw[(yz c).mp q] at hc;cases hc)]
    exact b_ (cK TE (ke (by rw[qE (c:=c) rfl,if_neg (by rw[hc];decide)])))
  ·rw[uO (show ¬((z.length:Nat):Int)=1 by omega)]
   exact b_ (b_ (cK TE (ke (GG h1))))
theorem vR:bj ["some"] ["some"] (aj fv):=⟨rfl,rfl,rfl,by decide+kernel,rfl,by decide+kernel,by decide+kernel⟩
theorem vS {a:fc} {x:iz} (T:Txt K mg a) (TE:TX K mg x):bC P w K mg base (cy P w) 3 a.gq a.g7 ["some"] (Cu x.c4):=by
 refine T.xb.uV vR (fun vs H Q E h=>?_) (fun cdv A outer s H vs Q E hr h=>?_)
 ·obtain⟨z,rfl,_⟩:=h
  rfl
 ·obtain⟨z,rfl,hz,kq,ke⟩:=h
  have h_:aO 2 _:=hr
  refine⟨_,(ai (bM (aL (rJ K) (pv 0) (cU (ae ay (ae ay (ae ay ag)))) (by with_unfolding_all rfl))
   (aq (jX hr.hd TE.x4 eO (jI TE.x4 TE.M4 (mf TE) h_ (by rfl) TE.m4 TE.b4)))
   bh)
  (aq (aW (bE se (by rfl) T.pR mV (ae (aK uq (pv 0) (o5 mQ ah) (fun _ _=>rfl)) ag))))),?_⟩
  refine⟨_,rfl,by show 3≤sizeLine;decide,fun W hW=>⟨W,_,rfl,.inr (.of af),rfl,rfl,_,rfl,?_⟩⟩
  have sW:=Same.new (o:=.tup [.str "base 2",.str "base 3",.str "base 4"]) hW
  rw[show inV (V.str z) [V.str "base 2",V.str "base 3",V.str "base 4"]=decide (z∈(["base 2","base 3","base 4"]:List Str)) from jR z ["base 2","base 3","base 4"]]
  by_cases hn:z∈(["base 2","base 3","base 4"]:List Str)
  ·rw[decide_eq_true hn]
   have key:∃(n c:Nat),f_ z=some n∧z.length≤sizeLine∧kH z.cps.toList (-1)=some c∧PySem.intText? ⟨#[c]⟩=some ((n:Nat):Int):=by
    simp only[List.mem_cons,List.not_mem_nil,or_false] at hn
    rcases hn with rfl | rfl | rfl
    ·exact⟨2,50,by decide+kernel,by decide+kernel,by decide+kernel,by decide+kernel⟩
    ·exact⟨3,51,by decide+kernel,by decide+kernel,by decide+kernel,by decide+kernel⟩
    ·exact⟨4,52,by decide+kernel,by decide+kernel,by decide+kernel,by decide+kernel⟩
   obtain⟨n,c,e1,e2,e3,e4⟩:=key
   exact bZ ⟨_,rfl,_,rfl,z, -1,c,rfl,rfl,e2,e3,⟨#[c]⟩,_,rfl,e4,by show 1≤640;decide,kq n e1 _ sW⟩
  ·rw[decide_eq_false hn]
   simp only[List.mem_cons,List.not_mem_nil,or_false,not_or] at hn
   exact b_ (cK TE ((ke (by unfold f_;rw[if_neg hn.1,if_neg hn.2.1,if_neg hn.2.2])).same sW))
def bR {α β:Type} (f:α→Option β):List α→Option (List β)
 | []=>some []
 | x::r=>match f x,bR f r with
  | some y,some ys=>some (y::ys)
  | _,_=>none
theorem j5 {α β:Type} {f:α→Option β} {x:α} {y:β}:∀{l:List α} {ys:List β},bR f l=some ys→f x=some y→bR f (l++[x])=some (ys++[y])
 | [],ys,h,e=>by
  have:ys=[]:=(Option.some.inj h).symm
  subst this
  show bR f [x]=_
  unfold bR bR
  rw[e];rfl
 | a::l,ys,h,e=>by
  unfold bR at h
  cases h1:f a with
  | none=>rw[h1] at h;cases h
  | some b=>
   cases h2:bR f l with
   | none=>rw[h1,h2] at h;cases h
   | some bs=>
    rw[h1,h2] at h
    have:b::bs=ys:=Option.some.inj h
    subst this
    have:=j5 (f:=f) h2 e
    show bR f (a::(l++[x]))=_
    unfold bR
    rw[h1,this]
    rfl
theorem iQ {α β:Type} {f:α→Option β} {x:α}:∀{l:List α},x∈l→f x=none→bR f l=none
 | a::l,h,e=>by
  unfold bR
  rcases List.mem_cons.mp h with z | z
  ·rw[←z,e]
  ·rw[iQ z e]
   cases f a<;>rfl
theorem iA {α β:Type} {f:α→Option β}:∀{l:List α} {ys:List β},bR f l=some ys→ys.length=l.length
 | [],ys,h=>by
  have:ys=[]:=(Option.some.inj h).symm
  subst this;rfl
 | a::l,ys,h=>by
  unfold bR at h
  cases h1:f a with
  | none=>rw[h1] at h;cases h
  | some b=>
   cases h2:bR f l with
   | none=>rw[h1,h2] at h;cases h
   | some bs=>
    rw[h1,h2] at h
    have:b::bs=ys:=Option.some.inj h
    subst this
    rw[List.length_cons,List.length_cons,iA h2]
theorem Cv {c:Nat}:∀{xs:List (List Nat)} {x:List Nat},x∈xs→x.length≤(jn c xs).length
 | [y],x,h=>by rw[List.mem_singleton.mp h];exact Nat.le_refl _
 | y::z::r,x,h=>by
  show x.length≤(y++c::jn c (z::r)).length
  rw[List.length_append,List.length_cons]
  rcases List.mem_cons.mp h with e | e
  ·rw[e];omega
  ·have:=Cv (c:=c) e;omega
theorem vT {c d:Nat}:∀{xs:List (List Nat)} {x:List Nat},x∈xs→d∈x→d∈jn c xs
 | [y],x,h,hd=>by rw[←List.mem_singleton.mp h];exact hd
 | y::z::r,x,h,hd=>by
  show d∈y++c::jn c (z::r)
  rcases List.mem_cons.mp h with e | e
  ·exact List.mem_append_left _ (e▸hd)
  ·exact List.mem_append_right _ (List.mem_cons_of_mem _ (vT e hd))
theorem jo {c:Nat} {z p:Str} (h:p∈spl c z):p.length≤z.length:=by
 rw[←dJ,←dJ z,←eX c z]
 exact Cv (List.mem_map.mpr ⟨p,h,rfl⟩)
theorem yA {c:Nat}:∀xs:List (List Nat),xs.length≤(jn c xs).length+1
 | []=>Nat.zero_le _
 | [_]=>by simp
 | y::z::r=>by
  have:=yA (c:=c) (z::r)
  show _≤(y++c::jn c (z::r)).length+1
  rw[List.length_append,List.length_cons]
  rw[List.length_cons] at this ⊢
  rw[List.length_cons]
  omega
theorem oR {c:Nat} {z:Str}:(spl c z).length≤z.length+1:=by
 have:=yA (c:=c) ((spl c z).map fun x=>x.cps.toList)
 rw[eX,List.length_map,dJ] at this
 exact this
theorem j4.part {c:Nat} {z p:Str} (h:j4 z) (hp:p∈spl c z):j4 p:=by
 refine⟨fun d hd=>h.1 d ?_,Nat.le_trans (jo hp) h.2⟩
 rw[←eX c z]
 exact vT (List.mem_map.mpr ⟨p,hp,rfl⟩) hd
def eZ (b:Nat) (z:Str):Option (Nat×List Nat):=match spl 58 z with
 | [p,q]=>match bR dig (spl 46 q),dig p with
  | some ls,some s=>if ls.length=b then some (s,ls) else none
  | _,_=>none
 | _=>none
def cf:Str:="ABCDEFGHIJKLMNOPQRSTUVWXYZ"
def dY (b:Nat) (z:Str):Option (Str×List (Nat×List Nat)):=match spl 32 z with
 | w0::w1::ws=>if w0="row"∧1≤ws.length∧ws.length≤8 then(match bR (eZ b) ws with
  | some rs=>if nameB cf w1=true then some (w1,rs) else none
  | none=>none) else none
 | _=>none
def yB (c4:Addr):Sp:=fun vs H Q E=>∃(b:Nat) (z:Str),vs=[.int b,.str z]∧z.length≤100000∧
 (∀s ls,eZ b z=some (s,ls)→∀r la H',Same H H'→H' r=some (.tup [.int (s:Nat),.ref la])→H' la=some (.tup ((av ls).map V.int))→Q (.ref r) H')∧(eZ b z=none→Rz c4 H E)
def Cw (c4:Addr):Sp:=fun vs H Q E=>∃(b:Nat) (z:Str),vs=[.int b,.str z]∧j4 z∧
 (∀nm rs,dY b z=some (nm,rs)→∀t r H',Same H H'→H' t=some (.tup [.str nm,.ref r])→dj H' r (rs.map (·.1)) (rs.map (·.2))→Q (.ref t) H')∧(dY b z=none→Rz c4 H E)
theorem NI (z:Str):Txt.split z (Str.ofString ":")=spl 58 z:=by unfold spl;rw[show Str.ofString ":"=⟨#[58]⟩ by decide+kernel]
theorem NJ (z:Str):Txt.split z (Str.ofString ".")=spl 46 z:=by unfold spl;rw[show Str.ofString "."=⟨#[46]⟩ by decide+kernel]
theorem Jp (z:Str):Txt.split z (Str.ofString " ")=spl 32 z:=by unfold spl;rw[show Str.ofString " "=⟨#[32]⟩ by decide+kernel]
theorem NK (z:Str):Txt.split z (Str.ofString "\n")=spl 10 z:=by unfold spl;rw[show Str.ofString "\n"=⟨#[10]⟩ by decide+kernel]
theorem jT:bj ["base","some","pieces","leads"] ["base","some"] (aj dW):=⟨rfl,rfl,rfl,by decide+kernel,rfl,by decide+kernel,by decide+kernel⟩
theorem vU {a:fc} {x:iz} (T:Txt K mg a) (TE:TX K mg x):bC P w K mg base (cy P w) 4 a.gu a.g8 ["base","some"] (yB x.c4):=by
 have mJ:bC P w K mg base (cy P w) 3 a.fg a.fZ ["some"] (vN x.c4):=qG T TE
 refine T.xh.uV jT (fun vs H Q E h=>?_) (fun cdv A outer s H vs Q E hr h=>?_)
 ·obtain⟨b,z,rfl,_⟩:=h
  rfl
 ·obtain⟨b,z,rfl,hz,kq,ke⟩:=h
  have kY:aO 3 _:=hr
  have h_:aO 2 _:=hr.mono (by decide)
  refine⟨_,(ai (aA (i:=2) jT.nd rfl (Or.inl rfl) (cP PySem.F.plainAttrs_str PySem.F.slot_str_split PySem.F.type_str_split jJ (pv 1) (ae ay ag)))
  (ai (bM (aL iC (aE (aQ K) (by rfl) T.bT bK (ae (pv 2) ag)) ah (aR _))
   (aq (jX hr.hd TE.x4 eO (jI TE.x4 TE.M4 (mf TE) h_ (by rfl) TE.m4 TE.b4)))
   bh)
  (ai (aA (i:=3) jT.nd rfl (Or.inl rfl) (bE (dQ K) (by rfl) T.ix gG (ae (DD (aI.mk' (esc:=aj dW) (N:=["base","some","pieces","leads"]) (own:=["piece"]) (aZ:=[]) (bJ:=[]) rfl rfl (by decide+kernel)) rfl ⟨rfl,rfl⟩ m_ (eE (cP PySem.F.plainAttrs_str PySem.F.slot_str_split PySem.F.type_str_split jJ (aK (aU K) (pv 2) ah (fun _ _=>rfl)) (ae ay ag))) (fun _ _ _ _ _=>(aS (i:=0) (show List.Nodup (["piece"]:List Str) by decide+kernel) rfl (Or.inl rfl))) (fun _ _ _ _ _=>bU) (fun _ _ _ _ _ hx=>(aD mJ kY rfl T.mG T.mH T.mI .nil hx (ae (pv 0) ag)))) ag)))
  (ai (bM (aL iC (aE (aQ K) (by rfl) T.bT bK (ae (pv 3) ag)) (pv 0) (aR _))
   (aq (jX hr.hd TE.x4 eO (jI TE.x4 TE.M4 (mf TE) h_ (by rfl) TE.m4 TE.b4)))
   bh)
  (aq (aW (cU (ae (aD mJ kY rfl T.mG T.mH T.mI .nil ja (ae (aK (aU K) (pv 2) ah (fun _ _=>rfl)) ag)) (ae (pv 3) ag))))))))),?_⟩
  refine⟨_,rfl,rfl,z,_,rfl,rfl,Nat.le_trans hz (by decide),by decide,fun L hL=>?_⟩
  rw[NI]
  have sL:=Same.new (o:=.lst ((spl 58 z).map V.str)) hL
  have eL:(upd H L (.lst ((spl 58 z).map V.str))) L=some (.lst ((spl 58 z).map V.str)):=af
  generalize upd H L (.lst ((spl 58 z).map V.str))=H1 at sL eL ⊢
  refine⟨_,rfl,_,_,rfl,.inl ⟨_,.of eL,rfl⟩,rfl,_,rfl,?_⟩
  rw[List.length_map]
  by_cases hl:¬(spl 58 z).length=2
  ·rw[uO (show ¬(((spl 58 z).length:Nat):Int)=2 by omega)]
   refine b_ (cK TE ((ke ?_).same sL))
   unfold eZ
   split
   ·rename_i e;rw[e] at hl;exact absurd rfl hl
   ·rfl
  have hl:=Decidable.not_not.mp hl
  obtain⟨p,q,E4⟩:∃p q,spl 58 z=[p,q]:=by
   match e:spl 58 z,hl with
   | [p,q],_=>exact⟨p,q,rfl⟩
  rw[dI (show(((spl 58 z).length:Nat):Int)=2 by omega)]
  have hp:p.length≤z.length:=jo (c:=58) (by rw[E4];simp)
  have hq:q.length≤z.length:=jo (c:=58) (by rw[E4];simp)
  rw[E4] at eL
  have E5:eZ b z=match bR dig (spl 46 q),dig p with
    | some ls,some s=>if ls.length=b then some (s,ls) else none
    | _,_=>none:=by unfold eZ;rw[E4]
  refine bZ ⟨_,rfl,L,_,_,.str q,rfl,rfl,.of eL,aB (j:=1) rfl,rfl,q,_,rfl,rfl,by omega,by decide,fun M hM=>?_⟩
  rw[NJ]
  have sM:=sL.trans (Same.new (o:=.lst ((spl 46 q).map V.str)) hM)
  have eM:(upd H1 M (.lst ((spl 46 q).map V.str))) M=some (.lst ((spl 46 q).map V.str)):=af
  have cX:(upd H1 M (.lst ((spl 46 q).map V.str))) L=some (.lst ([p,q].map V.str)):=(Same.new hM) _ _ eL
  generalize upd H1 M (.lst ((spl 46 q).map V.str))=H2 at sM eM cX ⊢
  refine⟨M,rfl,⟨_,.of eM⟩,fun C hC=>?_⟩
  refine eK (xs:=(spl 46 q).map V.str) (fun i σ H'=>∃(ns:List Nat) (v:Option V),σ=[v]∧Same H2 H'∧H' C=some (.lst ((av ns).map V.int))∧bR dig ((spl 46 q).take i)=some ns)
   ⟨[],none,rfl,Same.new hC,af,rfl⟩ (fun i σ H' _ ⟨_,_,_,s,_⟩=>.of (s _ _ eM)) ?_ ?_
  ·rintro i y σ H3 hy ⟨ns,v,rfl,s3,eC,en⟩
   obtain⟨t,rfl,et⟩:=gN hy
   have ht:t∈spl 46 q:=List.mem_of_getElem? et
   have tl:=jo ht
   refine⟨_,rfl,t,rfl,by omega,fun n hn H4 s4=>?_,fun hn=>(ke ?_).same (sM.trans s3)⟩
   ·have nl:=iA en
    rw[List.length_take] at nl
    have hi:=(List.getElem?_eq_some_iff.mp et).1
    have hm:=oR (c:=46) (z:=q)
    refine⟨_,s4 _ _ eC,?_,ns++[n],_,rfl,(s3.trans s4).kbn hC KB.write,?_,?_⟩
    ·rw[List.length_map,aY];exact Nat.lt_of_lt_of_le (show ns.length<200000 by omega) (by decide)
    ·rw[af,iP,List.map_append];rfl
    ·rw[List.take_add_one,et];exact j5 en hn
   ·rw[E5,iQ ht hn]
  ·rintro σ H3 ⟨ns,v,rfl,s3,eC,en⟩
   rw[List.length_map,List.take_length] at en
   have s3':=sM.trans s3
   refine⟨C,_,rfl,.inl ⟨.of eC,fun la hla=>?_⟩⟩
   have E6:=s3'.trans (Same.new (o:=.tup ((av ns).map V.int)) hla)
   have ow:(upd H3 la (.tup ((av ns).map V.int))) la=some (.tup ((av ns).map V.int)):=af
   have vG:(upd H3 la (.tup ((av ns).map V.int))) L=some (.lst ([p,q].map V.str)):=(Same.new hla) _ _ (s3 _ _ cX)
   generalize upd H3 la (.tup ((av ns).map V.int))=H4 at E6 ow vG ⊢
   refine⟨_,rfl,_,_,rfl,.inr ⟨_,.of ow,rfl⟩,_,rfl,rfl,_,rfl,?_⟩
   rw[List.length_map,aY]
   by_cases hb:ns.length=b
   ·rw[dI (show((ns.length:Nat):Int)=((b:Nat):Int) by rw[hb])]
    refine bZ ⟨_,rfl,L,_,_,.str p,rfl,rfl,.of vG,aB (j:=0) rfl,p,rfl,by omega,fun n hn H5 s5=>⟨_,rfl,by show 2≤sizeLine;decide,fun r hr'=>?_⟩,fun hn=>(ke ?_).same E6⟩
    ·refine kq n ns ?_ r la _ ((E6.trans s5).trans (Same.new hr')) af ((Same.new hr') _ _ (s5 _ _ ow))
     rw[E5,en,hn]
     exact if_pos hb
    ·rw[E5,en,hn]
   ·rw[uO (show ¬((ns.length:Nat):Int)=((b:Nat):Int) by omega)]
    refine b_ (cK TE ((ke ?_).same E6))
    rw[E5,en]
    cases dig p with
    | none=>rfl
    | some d=>exact if_neg hb
def Ai (H:Hp) (ra:Addr) (p:Nat×List Nat):Prop:=∃la,H ra=some (.tup [.int (p.1:Nat),.ref la])∧H la=some (.tup ((av p.2).map V.int))
theorem Ai.keep {H H':Hp} {ra:Addr} {p:Nat×List Nat} (k:bQ H H') (h:Ai H ra p):Ai H' ra p:=let ⟨la,a,b⟩:=h;⟨la,k _ _ a,k _ _ b⟩
theorem oS (k:Nat) (xs:List V) (h:k≤xs.length):fG xs (some (k:Int)) none=xs.drop k:=by
 unfold fG
 rw[HT.kG,HT.lH,Nat.min_eq_left h,List.take_of_length_le (by rw[List.length_drop];omega)]
theorem Jq (k:Nat) (xs:List V):fG xs none (some (k:Int))=xs.take k:=by
 unfold fG
 rw[HT.kG,HT.lH,List.drop_zero,Nat.sub_zero]
 by_cases h:k≤xs.length
 ·rw[Nat.min_eq_left h]
 ·rw[Nat.min_eq_right (by omega),List.take_of_length_le (Nat.le_refl _),List.take_of_length_le (by omega)]
theorem iJ:bj ["base","some","words","rooms","row"] ["base","some"] (aj di):=⟨rfl,rfl,rfl,by decide+kernel,rfl,by decide+kernel,by decide+kernel⟩
theorem xA {a:fc} {x:iz} (T:Txt K mg a) (TE:TX K mg x):bC P w K mg base (cy P w) 5 a.g9 a.iH ["base","some"] (Cw x.c4):=by
 have xB:bC P w K mg base (cy P w) 4 a.gu a.g8 ["base","some"] (yB x.c4):=vU T TE
 have xC:bC P w K mg base (cy P w) 3 a.gm a.g6 ["some","signs"] (Ct x.c4):=vP T TE
 obtain⟨Vq,RK⟩:=T.vx
 obtain⟨Vr,RL⟩:=T.Gp
 refine T.zP.uV iJ (fun vs H Q E h=>?_) (fun cdv A outer s H vs Q E hr h=>?_)
 ·obtain⟨b,z,rfl,_⟩:=h
  rfl
 ·obtain⟨b,z,rfl,hz,kq,ke⟩:=h
  have vV:aO 4 _:=hr
  have vW:aO 3 _:=hr.mono (by decide)
  have h_:aO 2 _:=hr.mono (by decide)
  refine⟨_,(ai (aA (i:=2) iJ.nd rfl (Or.inl rfl) (cP PySem.F.plainAttrs_str PySem.F.slot_str_split PySem.F.type_str_split jJ (pv 1) (ae ay ag)))
  (ai (bM (PW.pt (lF (aL iC (aK (aU K) (pv 2) ah (fun _ _=>rfl)) ay (aR _)) (kx (kz (uk o7 o7 ah (ao jv (aE (aQ K) (by rfl) T.bT bK (ae (pv 2) ag)) ah) (dv (v:=.int 8) (by rfl) RK ⟨_,rfl⟩))))))
   (aq (jX hr.hd TE.x4 eO (jI TE.x4 TE.M4 (mf TE) h_ (by rfl) TE.m4 TE.b4)))
   bh)
  (ai (oq (i:=3) (aI.mk' (esc:=aj di) (N:=["base","some","words","rooms","row"]) (own:=["word"]) (aZ:=["base"]) (bJ:=[0]) rfl rfl (by decide+kernel)) rfl ⟨rfl,rfl⟩ m_ (eE (br (ck K) (pv 2) (bF ah) bG)) (fun _ _ _ _ _=>(aS (i:=0) (show List.Nodup (["word","base"]:List Str) by decide+kernel) rfl (Or.inl rfl))) (fun _ _ _ _ _=>bU) (fun _ _ _ _ _ hx=>(aD xB vV rfl T.xi T.xj T.xk .nil hx (ae (pv 1) (ae (pv 0) ag)))) iJ.nd rfl rfl)
  (ai (aA (i:=4) iJ.nd rfl (Or.inl rfl) (cU (ae (bE (dQ K) (by rfl) T.ix gG (ae (fk (aI.mk' (esc:=aj di) (N:=["base","some","words","rooms","row"]) (own:=["room"]) (aZ:=[]) (bJ:=[]) rfl rfl (by decide+kernel)) rfl (eE (pv 3)) (fun _ _ _ _=>(aS (i:=0) (show List.Nodup (["room"]:List Str) by decide+kernel) rfl (Or.inl rfl))) (fun _ _ _ _=>bU) (fun _ _ _ _=>(aK (bD K) (pv 0) ah (fun _ _=>rfl)))) ag)) (ae (bE (dQ K) (by rfl) T.ix gG (ae (fk (aI.mk' (esc:=aj di) (N:=["base","some","words","rooms","row"]) (own:=["room"]) (aZ:=[]) (bJ:=[]) rfl rfl (by decide+kernel)) rfl (eE (pv 3)) (fun _ _ _ _=>(aS (i:=0) (show List.Nodup (["room"]:List Str) by decide+kernel) rfl (Or.inl rfl))) (fun _ _ _ _=>bU) (fun _ _ _ _=>(aK (bD K) (pv 0) ah (fun _ _=>rfl)))) ag)) ag))))
  (aq (aW (cU (ae (aD xC vW rfl T.w6 T.w8 T.xa .nil ja (ae (aK (aU K) (pv 2) ah (fun _ _=>rfl)) (ae (dv (v:=.str "ABCDEFGHIJKLMNOPQRSTUVWXYZ") (by rfl) RL ⟨_,rfl⟩) ag))) (ae (pv 4) ag))))))))),?_⟩
  have zl:=hz.2
  refine⟨_,rfl,rfl,z,_,rfl,rfl,by omega,by decide,fun L hL=>?_⟩
  rw[Jp]
  have sL:=Same.new (o:=.lst ((spl 32 z).map V.str)) hL
  have eL:(upd H L (.lst ((spl 32 z).map V.str))) L=some (.lst ((spl 32 z).map V.str)):=af
  generalize upd H L (.lst ((spl 32 z).map V.str))=H1 at sL eL ⊢
  have many:=oR (c:=32) (z:=z)
  obtain⟨w0,wr,ew⟩:∃w0 wr,spl 32 z=w0::wr:=by
   cases e:spl 32 z with
   | nil=>exact absurd e (nh 32 z)
   | cons a r=>exact⟨a,r,rfl⟩
  have rR:dY b z=match (w0::wr) with
   | w0::w1::ws=>if w0="row"∧1≤ws.length∧ws.length≤8 then(match bR (eZ b) ws with
    | some rs=>if nameB cf w1=true then some (w1,rs) else none
    | none=>none) else none
   | _=>none:=by unfold dY;rw[ew];try (cases wr<;>rfl)
  rw[ew] at eL many
  have no:(¬w0="row"∨¬(1≤(wr.length:Int)-1∧(wr.length:Int)-1≤8))→dY b z=none:=fun h=>by
   rw[rR]
   split
   ·rename_i Vs w1 ws e
    obtain⟨e1,e2⟩:=List.cons.inj e
    refine if_neg fun c=>?_
    rw[e2,List.length_cons] at h
    rcases h with h | h
    ·exact h (by rw[e1];exact c.1)
    ·exact h ⟨by have:=c.2.1;omega,by have:=c.2.2;omega⟩
   ·rfl
  refine⟨_,rfl,L,_,_,.str w0,rfl,rfl,.of eL,aB (j:=0) rfl,rfl,_,rfl,?_⟩
  by_cases h0:¬w0=Str.ofString "row"
  ·rw[show decide (V.str w0=V.str (Str.ofString "row"))=false from decide_eq_false fun q=>h0 (V.str.inj q)]
   exact b_ (b_ (cK TE ((ke (no (.inl h0))).same sL)))
  have h0:=Decidable.not_not.mp h0
  rw[show decide (V.str w0=V.str (Str.ofString "row"))=true from decide_eq_true (by rw[h0])]
  refine bZ ⟨_,rfl,_,_,rfl,.inl ⟨_,.of eL,rfl⟩,_,_,rfl,rfl,_,_,rfl,rfl,_,rfl,?_⟩
  rw[List.length_map,List.length_cons]
  by_cases h1:1≤(wr.length:Int)-1
  case neg=>
   rw[show decide ((1:Int)≤((wr.length+1:Nat):Int)-2)=false from decide_eq_false (by omega)]
   exact bZ ⟨_,rfl,b_ (cK TE ((ke (no (.inr fun q=>h1 q.1))).same sL))⟩
  rw[show decide ((1:Int)≤((wr.length+1:Nat):Int)-2)=true from decide_eq_true (by omega)]
  refine b_ ⟨_,_,rfl,rfl,_,rfl,?_⟩
  by_cases h8:(wr.length:Int)-1≤8
  case neg=>
   rw[show decide (((wr.length+1:Nat):Int)-2≤8)=false from decide_eq_false (by omega)]
   exact b_ (cK TE ((ke (no (.inr fun q=>h8 q.2))).same sL))
  rw[show decide (((wr.length+1:Nat):Int)-2≤8)=true from decide_eq_true (by omega)]
  obtain⟨w1,ws,rfl⟩:∃w1 ws,wr=w1::ws:=by
   cases wr with
   | nil=>simp at h1
   | cons a r=>exact⟨a,r,rfl⟩
  rw[List.length_cons] at h1 h8
  have Jr:dY b z=match bR (eZ b) ws with
    | some rs=>if nameB cf w1=true then some (w1,rs) else none
    | none=>none:=by
   rw[rR]
   exact if_pos ⟨h0,by omega,by omega⟩
  have mw:∀t∈ws,t∈spl 32 z:=fun t ht=>by rw[ew];exact List.mem_cons_of_mem _ (List.mem_cons_of_mem _ ht)
  refine bZ ⟨_,rfl,_,rfl,L,_,rfl,.of eL,fun S hS=>?_⟩
  rw[show fG ((w0::w1::ws).map V.str) (some 2) none=ws.map V.str from oS 2 _ (by simp)]
  have sS:=sL.trans (Same.new (o:=.lst (ws.map V.str)) hS)
  have eS:(upd H1 S (.lst (ws.map V.str))) S=some (.lst (ws.map V.str)):=af
  have cX:(upd H1 S (.lst (ws.map V.str))) L=some (.lst ((w0::w1::ws).map V.str)):=(Same.new hS) _ _ eL
  generalize upd H1 S (.lst (ws.map V.str))=H2 at sS eS cX ⊢
  refine⟨S,rfl,⟨_,.of eS⟩,fun C hC=>?_⟩
  refine eK (xs:=ws.map V.str) (fun i σ H'=>∃(rs:List (Nat×List Nat)) (rp:List Addr) (v:Option V),σ=[v,some (.int b)]∧Same H2 H'∧H' C=some (.lst (rp.map V.ref))∧bR (eZ b) (ws.take i)=some rs∧Paired (Ai H') rp rs)
   ⟨[],[],none,rfl,Same.new hC,af,rfl,.nil⟩ (fun i σ H' _ ⟨_,_,_,_,s,_⟩=>.of (s _ _ eS)) ?_ ?_
  ·rintro i y σ H3 hy ⟨rs,rp,v,rfl,s3,eC,en,pr⟩
   obtain⟨t,rfl,et⟩:=gN hy
   have ht:t∈ws:=List.mem_of_getElem? et
   have tl:=jo (mw t ht)
   refine⟨_,rfl,_,rfl,b,t,rfl,by omega,fun s' ls hn ra la H4 s4 era ow=>?_,fun hn=>(ke ?_).same (sS.trans s3)⟩
   ·have nl:=iA en
    have pl:=fV pr
    rw[List.length_take] at nl
    have hi:=(List.getElem?_eq_some_iff.mp et).1
    have pU:=s4 _ _ eC
    refine⟨_,pU,?_,rs++[(s',ls)],rp++[ra],_,rfl,(s3.trans s4).kbn hC KB.write,?_,?_,?_⟩
    ·rw[List.length_map];exact Nat.lt_of_lt_of_le (show rp.length<100 by omega) (by decide)
    ·rw[af,List.map_append];rfl
    ·rw[List.take_add_one,et];exact j5 en hn
    ·have kt:bQ H3 (upd H4 C (.lst (rp.map V.ref++[.ref ra]))):=s4.kt.trans (bQ.lst pU)
     exact dw (Paired.lC pr fun _ _ h=>h.keep kt) (.cons ⟨la,bQ.lst pU _ _ era,bQ.lst pU _ _ ow⟩ .nil)
   ·rw[Jr,iQ ht hn]
  ·rintro σ H3 ⟨rs,rp,v,rfl,s3,eC,en,pr⟩
   rw[List.length_map,List.take_length] at en
   have s3':=sS.trans s3
   have nl:=iA en
   have pl:=fV pr
   have vX:=s3 _ _ cX
   refine⟨_,rfl,C,rfl,⟨_,.of eC⟩,fun C1 Mu=>?_⟩
   refine eK (xs:=rp.map V.ref) (fun i σ H'=>∃v:Option V,σ=[v]∧Same H3 H'∧H' C1=some (.lst ((av ((rs.take i).map (·.1))).map V.int)))
    ⟨none,rfl,Same.new Mu,af⟩ (fun i σ H' _ ⟨_,_,s,_⟩=>.of (s _ _ eC)) ?_ ?_
   ·rintro i y σ H4 hy ⟨v,rfl,s4,E7⟩
    obtain⟨ra,rfl,era⟩:=jm hy
    obtain⟨p,ep,la,e1,e2⟩:=i9 pr era
    have hi:=(List.getElem?_eq_some_iff.mp era).1
    refine⟨_,rfl,ra,_,_,.int (p.1:Nat),rfl,rfl,.of (s4 _ _ e1),aB (j:=0) rfl,_,E7,?_,_,rfl,s4.kbn Mu KB.write,?_⟩
    ·rw[List.length_map,aY,List.length_map,List.length_take];exact Nat.lt_of_lt_of_le (show min i rs.length<100 by omega) (by decide)
    ·rw[af,List.take_add_one,ep,List.map_append,iP,List.map_append];rfl
   rintro σ H4 ⟨v,rfl,s4,E7⟩
   rw[List.length_map,pl,List.take_length] at E7
   refine⟨C1,_,rfl,.inl ⟨.of E7,fun sa hsa=>?_⟩⟩
   have Cy:=s4.trans (Same.new (o:=.tup ((av (rs.map (·.1))).map V.int)) hsa)
   have Mv:(upd H4 sa (.tup ((av (rs.map (·.1))).map V.int))) sa=some (.tup ((av (rs.map (·.1))).map V.int)):=af
   generalize upd H4 sa (.tup ((av (rs.map (·.1))).map V.int))=H5 at Cy Mv ⊢
   refine⟨_,rfl,C,rfl,⟨_,.of (Cy _ _ eC)⟩,fun C2 E8=>?_⟩
   refine eK (xs:=rp.map V.ref) (fun i σ H'=>∃(nz:List Addr) (v:Option V),σ=[v]∧Same H5 H'∧H' C2=some (.lst (nz.map V.ref))∧cb H' nz (((rs.take i).map (·.2)).map av))
    ⟨[],none,rfl,Same.new E8,af,.nil⟩ (fun i σ H' _ ⟨_,_,_,s,_⟩=>.of (s _ _ (Cy _ _ eC))) ?_ ?_
   ·rintro i y σ H6 hy ⟨nz,v,rfl,s6,vY,tp⟩
    obtain⟨ra,rfl,era⟩:=jm hy
    obtain⟨p,ep,la,e1,e2⟩:=i9 pr era
    have hi:=(List.getElem?_eq_some_iff.mp era).1
    have Mw:=Cy.trans s6
    have ll:nz.length≤rs.length:=by rw[Paired.length tp,List.length_map,List.length_map,List.length_take];omega
    refine⟨_,rfl,ra,_,_,.ref la,rfl,rfl,.of (Mw _ _ e1),aB (j:=1) rfl,_,vY,?_,nz++[la],_,rfl,s6.kbn E8 KB.write,?_,?_⟩
    ·rw[List.length_map];exact Nat.lt_of_lt_of_le (show nz.length<100 by omega) (by decide)
    ·rw[af,List.map_append];rfl
    ·rw[List.take_add_one,ep,List.map_append,List.map_append]
     exact dw (tp.keep (bQ.lst vY)) (.cons (bQ.lst vY _ _ (Mw _ _ e2)) .nil)
   rintro σ H6 ⟨nz,v,rfl,s6,vY,tp⟩
   rw[List.length_map,pl,List.take_length] at tp
   refine⟨C2,_,rfl,.inl ⟨.of vY,fun ma hma=>⟨by show 2≤sizeLine;decide,fun r hr'=>?_⟩⟩⟩
   have Jt:=Same.new (o:=.tup (nz.map V.ref)) hma
   have sr:=Same.new (o:=.tup [.ref sa,.ref ma]) hr'
   have qH:=(Cy.trans s6).trans (Jt.trans sr)
   have ra:dj (upd (upd H6 ma (.tup (nz.map V.ref))) r (.tup [.ref sa,.ref ma])) r (rs.map (·.1)) (rs.map (·.2)):=
    ⟨sa,ma,nz,af,sr _ _ (Jt _ _ (s6 _ _ Mv)),sr _ _ af,tp.keep (Jt.trans sr).kt⟩
   have Mx:=qH _ _ vX
   generalize upd (upd H6 ma (.tup (nz.map V.ref))) r (.tup [.ref sa,.ref ma])=H7 at qH ra Mx ⊢
   have qH:=s3'.trans qH
   refine⟨_,rfl,L,_,_,.str w1,rfl,rfl,.of Mx,aB (j:=1) rfl,w1,_,rfl,hz.part (by rw[ew];exact List.mem_cons_of_mem _ List.mem_cons_self),fun hn H8 s8=>⟨_,rfl,by show 2≤sizeLine;decide,fun t ht=>?_⟩,fun hn=>(ke ?_).same qH⟩
   ·refine kq w1 rs ?_ t r _ ((qH.trans s8).trans (Same.new ht)) af ((ra.keep s8.kt).keep (Same.new ht).kt)
    rw[Jr,en]
    exact if_pos hn
   ·rw[Jr,en]
    exact if_neg (by rw[show nameB cf w1=false from hn];decide)
abbrev ak (z:Str):List Nat:=z.cps.toList
theorem sx {z:Str} {n:Nat} (h:dig z=some n):n<10∧ak z=[48+n]:=by
 unfold dig at h
 split at h
 ·rename_i c e
  by_cases hc:ko c=true
  ·rw[if_pos hc] at h
   have en:=Option.some.inj h
   unfold ko at hc
   rw[Bool.and_eq_true] at hc
   have h1:=of_decide_eq_true hc.1
   have h2:=of_decide_eq_true hc.2
   refine⟨by omega,?_⟩
   rw[ak,e,show 48+n=c by omega]
  ·rw[if_neg hc] at h;cases h
 ·cases h
theorem Cz {z:Str} {n:Nat} (hn:n<10) (e:ak z=[48+n]):dig z=some n:=by
 rw[qE e,if_pos (by unfold ko;rw[decide_eq_true (show 48≤48+n by omega),decide_eq_true (show 48+n≤57 by omega)];rfl),show 48+n-48=n by omega]
theorem CA {α β:Type} {f:α→Option β} {x:α} {l:List α} {ys:List β} (h:bR f (x::l)=some ys):∃y r,ys=y::r∧f x=some y∧bR f l=some r:=by
 unfold bR at h
 cases h1:f x with
 | none=>rw[h1] at h;cases h
 | some b=>
  cases h2:bR f l with
  | none=>rw[h1,h2] at h;cases h
  | some bs=>
   rw[h1,h2] at h
   exact⟨b,bs,(Option.some.inj h).symm,rfl,rfl⟩
theorem mj {α β:Type} {f:α→Option β} {R:α→β→Prop} (hR:∀x y,f x=some y→R x y):∀{l:List α} {ys:List β},bR f l=some ys→Paired R l ys
 | [],ys,h=>by
  have:ys=[]:=(Option.some.inj h).symm
  subst this;exact .nil
 | a::l,ys,h=>by
  obtain⟨y,r,rfl,h1,h2⟩:=CA h
  exact .cons (hR _ _ h1) (mj hR h2)
theorem nU {α β:Type} {f:α→Option β}:∀{l:List α} {ys:List β},Paired (fun x y=>f x=some y) l ys→bR f l=some ys
 | _,_,.nil=>rfl
 | _,_,.cons h t=>by
  unfold bR
  rw[h,nU t]
theorem ml {α β γ:Type} {R:α→β→Prop} {f:α→γ} {g:β→γ} (hR:∀x y,R x y→f x=g y):∀{l:List α} {ys:List β},Paired R l ys→l.map f=ys.map g
 | _,_,.nil=>rfl
 | _,_,.cons h t=>by rw[List.map_cons,List.map_cons,hR _ _ h,ml hR t]
theorem jg {α β:Type} {R:α→β→Prop}:∀{l:List α} {ys:List β} {y:β},Paired R l ys→y∈ys→∃x∈l,R x y
 | _,_,y,.cons h t,hy=>by
  rcases List.mem_cons.mp hy with e | e
  ·exact⟨_,List.mem_cons_self,e▸h⟩
  ·obtain⟨x,hx,r⟩:=jg t e
   exact⟨x,List.mem_cons_of_mem _ hx,r⟩
theorem gF {α β:Type} {R:α→β→Prop} {f:β→α}:∀{ys:List β},(∀y∈ys,R (f y) y)→Paired R (ys.map f) ys
 | [],_=>.nil
 | y::ys,h=>.cons (h y List.mem_cons_self) (gF fun z hz=>h z (List.mem_cons_of_mem _ hz))
def txt (l:List Nat):Str:=⟨l.toArray⟩
theorem aJ (l:List Nat):ak (txt l)=l:=by unfold ak txt;simp
theorem GI (z:Str):txt (ak z)=z:=ft (aJ _)
def bS (s:Nat) (ls:List Nat):List Nat:=(48+s)::58::jn 46 (ls.map fun x=>[48+x])
def fB (b:Nat) (p:Nat×List Nat):Prop:=p.1<10∧p.2.length=b∧∀x∈p.2,x<10
theorem xE {b:Nat} {z:Str} {s:Nat} {ls:List Nat} (h:eZ b z=some (s,ls)):fB b (s,ls)∧ak z=bS s ls:=by
 unfold eZ at h
 split at h
 ·rename_i p q e
  split at h
  ·rename_i ls' s' e1 e2
   by_cases hb:ls'.length=b
   ·rw[if_pos hb] at h
    cases h
    obtain⟨hs,ep⟩:=sx e2
    have pr:=mj (R:=fun x y=>y<10∧ak x=[48+y]) (fun x y h=>sx h) e1
    refine⟨⟨hs,hb,fun x hx=>?_⟩,?_⟩
    ·obtain⟨_,_,r⟩:=jg pr hx;exact r.1
    ·have e3:=eX 58 z
     rw[e] at e3
     have e4:=eX 46 q
     rw[ml (g:=fun y=>[48+y]) (fun x y h=>h.2) pr] at e4
     show z.cps.toList=_
     rw[←e3]
     show p.cps.toList++58::q.cps.toList=_
     rw[←e4,show p.cps.toList=[48+s] from ep]
     rfl
   ·rw[if_neg hb] at h;cases h
  ·cases h
 ·cases h
theorem oU {c d:Nat} (hcd:d≠c):∀{xs:List (List Nat)},(∀x∈xs,d ∉ x)→d ∉ jn c xs
 | [],_=>by simp[jn]
 | [x],h=>h x List.mem_cons_self
 | x::y::r,h=>by
  show d ∉ x++c::jn c (y::r)
  intro z
  rcases List.mem_append.mp z with q | q
  ·exact h x List.mem_cons_self q
  ·rcases List.mem_cons.mp q with e | e
   ·exact hcd e
   ·exact oU hcd (fun a ha=>h a (List.mem_cons_of_mem _ ha)) e
theorem DW {b:Nat} {z:Str} {s:Nat} {ls:List Nat} (b1:1≤b) (ok:fB b (s,ls)) (e:ak z=bS s ls):eZ b z=some (s,ls):=by
 obtain⟨hs,hl,hx⟩:=ok
 have hls:ls≠[]:=fun q=>by rw[q] at hl;simp at hl;omega
 have e1:spl 58 z=[txt [48+s],txt (jn 46 (ls.map fun x=>[48+x]))]:=by
  refine fK (by simp) (fun p hp=>?_) ?_
  ·rcases List.mem_cons.mp hp with q | q
   ·rw[q];show 58 ∉ ak (txt _);rw[aJ]
    intro z;have:=List.mem_singleton.mp z;omega
   ·rw[List.mem_singleton.mp q];show 58 ∉ ak (txt _);rw[aJ]
    refine oU (by decide) fun x hx'=>?_
    obtain⟨y,hy,rfl⟩:=List.mem_map.mp hx'
    intro z;have:=List.mem_singleton.mp z;have:=hx y hy;omega
  ·show ak z=_
   rw[e]
   show _=ak (txt _)++58::ak (txt _)
   rw[aJ,aJ]
   rfl
 have e2:spl 46 (txt (jn 46 (ls.map fun x=>[48+x])))=ls.map fun x=>txt [48+x]:=by
  refine fK (by simpa using hls) (fun p hp=>?_) ?_
  ·obtain⟨y,_,rfl⟩:=List.mem_map.mp hp
   show 46 ∉ ak (txt _);rw[aJ]
   intro z;have:=List.mem_singleton.mp z;omega
  ·show ak (txt _)=_
   rw[aJ,List.map_map]
   congr 1
 have e3:bR dig (ls.map fun x=>txt [48+x])=some ls:=nU (gF fun y hy=>Cz (hx y hy) (aJ _))
 unfold eZ
 rw[e1]
 dsimp only
 rw[e2,e3,Cz hs (aJ _)]
 exact if_pos hl
def cA (nm:Str) (rs:List (Nat×List Nat)):List Nat:=jn 32 ([114,111,119]::ak nm::rs.map fun p=>bS p.1 p.2)
def dg (b:Nat) (p:Str×List (Nat×List Nat)):Prop:=nameB cf p.1=true∧1≤p.2.length∧p.2.length≤8∧∀r∈p.2,fB b r
theorem j6:("row":Str).cps.toList=[114,111,119]:=by decide+kernel
theorem mn {b:Nat} {z:Str} {nm:Str} {rs:List (Nat×List Nat)} (h:dY b z=some (nm,rs)):∃ws:List Str,spl 32 z=("row":Str)::nm::ws∧dg b (nm,rs)∧Paired (fun w p=>ak w=bS p.1 p.2) ws rs:=by
 unfold dY at h
 split at h
 ·rename_i w0 w1 ws e
  by_cases c:w0="row"∧1≤ws.length∧ws.length≤8
  ·rw[if_pos c] at h
   cases e1:bR (eZ b) ws with
   | none=>rw[e1] at h;cases h
   | some rs'=>
    rw[e1] at h
    by_cases hn:nameB cf w1=true
    ·have h':(if nameB cf w1=true then some (w1,rs') else none)=some (nm,rs):=h
     rw[if_pos hn] at h'
     cases h'
     have pr:=mj (R:=fun x (y:Nat×List Nat)=>fB b y∧ak x=bS y.1 y.2) (fun x y h=>xE h) e1
     have ll:=fV pr
     refine⟨ws,by rw[e,c.1],⟨hn,by rw[←ll];exact c.2.1,by rw[←ll];exact c.2.2,fun r hr=>?_⟩,Paired.lC pr fun _ _ h=>h.2⟩
     obtain⟨_,_,q⟩:=jg pr hr
     exact q.1
    ·have h':(if nameB cf w1=true then some (w1,rs') else none)=some (nm,rs):=h
     rw[if_neg hn] at h';cases h'
  ·rw[if_neg c] at h;cases h
 ·cases h
theorem Aj {b:Nat} {z:Str} {nm:Str} {rs:List (Nat×List Nat)} (h:dY b z=some (nm,rs)):dg b (nm,rs)∧ak z=cA nm rs:=by
 obtain⟨ws,e,ok,pr⟩:=mn h
 refine⟨ok,?_⟩
 have e2:=eX 32 z
 rw[e] at e2
 show z.cps.toList=_
 rw[←e2]
 unfold cA
 rw[List.map_cons,List.map_cons,ml (g:=fun p:Nat×List Nat=>bS p.1 p.2) (fun x y h=>h) pr]
 rfl
theorem GJ {b:Nat} {p:Nat×List Nat} (h:fB b p):32 ∉ bS p.1 p.2∧10 ∉ bS p.1 p.2:=by
 have key:∀d,d<46→d ∉ bS p.1 p.2:=fun d hd z=>by
  unfold bS at z
  rcases List.mem_cons.mp z with e | e
  ·omega
  ·rcases List.mem_cons.mp e with e | e
   ·omega
   ·refine oU (by omega) (fun x hx=>?_) e
    obtain⟨y,_,rfl⟩:=List.mem_map.mp hx
    intro q;have:=List.mem_singleton.mp q;omega
 exact⟨key 32 (by decide),key 10 (by decide)⟩
theorem xF:cf.cps.toList=(List.range 26).map (65+ ·):=by decide+kernel
theorem CB {c:Nat} (h:c∈cf.cps.toList):65≤c∧c≤90:=by
 rw[xF] at h
 obtain⟨k,hk,rfl⟩:=List.mem_map.mp h
 have:=List.mem_range.mp hk
 omega
theorem cL {x:Str} (h:nameB cf x=true):1≤x.length∧x.length≤3∧∀c∈ak x,65≤c∧c≤90:=by
 unfold nameB at h
 simp only[Bool.and_eq_true,decide_eq_true_eq] at h
 refine⟨h.1,h.2.1,fun c hc=>CB ?_⟩
 have:=List.all_eq_true.mp h.2.2.1 c hc
 exact of_decide_eq_true this
theorem GK {b:Nat} {z:Str} {nm:Str} {rs:List (Nat×List Nat)} (b1:1≤b) (ok:dg b (nm,rs)) (e:ak z=cA nm rs):dY b z=some (nm,rs):=by
 obtain⟨hn,h1,h8,hr⟩:=ok
 have e1:spl 32 z=("row":Str)::nm::rs.map fun p=>txt (bS p.1 p.2):=by
  refine fK (by simp) (fun p hp=>?_) ?_
  ·rcases List.mem_cons.mp hp with q | q
   ·rw[q,j6];decide
   ·rcases List.mem_cons.mp q with q | q
    ·rw[q];intro z;have:=(cL hn).2.2 _ z;omega
    ·obtain⟨r,hr',rfl⟩:=List.mem_map.mp q
     show 32 ∉ ak (txt _);rw[aJ]
     exact(GJ (hr r hr')).1
  ·show ak z=_
   rw[e]
   unfold cA
   rw[List.map_cons,List.map_cons,j6,List.map_map]
   congr 3
 have e3:bR (eZ b) (rs.map fun p=>txt (bS p.1 p.2))=some rs:=nU (gF fun y hy=>DW b1 (hr y hy) (aJ _))
 unfold dY
 rw[e1]
 dsimp only
 rw[if_pos ⟨rfl,by rw[List.length_map];exact h1,by rw[List.length_map];exact h8⟩,e3]
 exact if_pos hn
def rising (ns:List Str):Bool:=PyProof.Rows.sortedS ns&&decide ns.Nodup
def dN (z:Str):Option (Nat×List (Str×List (Nat×List Nat))):=match spl 10 z with
 | l0::ls=>match f_ l0 with
  | some b=>match bR (dY b) ls with
   | some rs=>if rs.length≤4∧rising (rs.map (·.1))=true then some (b,rs) else none
   | none=>none
  | none=>none
 | []=>none
def cR (b:Nat) (rm:List (Nat×List Nat)):Bool:=fP b (av (rm.map (·.1))) ((rm.map (·.2)).map av)
structure WR (H:Hp) (kvs:List (Key×V)) (rs:List (Str×List (Nat×List Nat))):Prop where
 keys:kvs.map (·.1)=rs.map fun p=>(Sum.inr p.1:Key)
 rows:∀p∈rs,∃r,cH kvs (Sum.inr p.1)=some (.ref r)∧dj H r (p.2.map (·.1)) (p.2.map (·.2))
theorem WR.keep {H H':Hp} {kvs:List (Key×V)} {rs:List (Str×List (Nat×List Nat))} (h:WR H kvs rs) (k:bQ H H'):WR H' kvs rs:=
 ⟨h.keys,fun p hp=>let ⟨r,a,b⟩:=h.rows p hp;⟨r,a,b.keep k⟩⟩
def mq (c1 c4:Addr):Sp:=fun vs H Q E=>∃z:Str,vs=[.str z]∧j4 z∧(dN z=none→Rz c4 H E)∧∀b rs,dN z=some (b,rs)→
 ((∀p∈rs,cR b p.2=true)→∀wa D kvs H',Same H H'→H D=none→H' wa=some (.tup [.int (b:Nat),.ref D])→H' D=some (.dK kvs)→WR H' kvs rs→Q (.ref wa) H')∧
 (∀p∈rs,cR b p.2=false→(∀q∈rs,cR b q.2=false→p.1.cps.toList≤q.1.cps.toList)→∀H' a dx,Same H H'→H' a=some (xo false a c1 (some dx))→H' dx=some (.xd [("name",.str p.1)])→E (.ref a) (some dx) H')
theorem DX {z:Str} {b:Nat} (h:f_ z=some b):2≤b∧b≤4:=by
 unfold f_ at h
 split at h
 ·cases h;decide
 ·split at h
  ·cases h;decide
  ·split at h
   ·cases h;decide
   ·cases h
def oV (H:Hp) (t:Addr) (p:Str×List (Nat×List Nat)):Prop:=∃r,H t=some (.tup [.str p.1,.ref r])∧dj H r (p.2.map (·.1)) (p.2.map (·.2))
theorem oV.keep {H H':Hp} {ra:Addr} {p:Str×List (Nat×List Nat)} (k:bQ H H') (h:oV H ra p):oV H' ra p:=let ⟨la,a,b⟩:=h;⟨la,k _ _ a,b.keep k⟩
theorem nB {K:PySem.W.Frag} {H:Hp}:∀l:List Str,aP K H (l.map V.str) (l.map Dt.str)
 | []=>by simp[aP]
 | x::l=>by rw[List.map_cons,List.map_cons,aP];exact⟨by rw[au],nB l⟩
theorem sy:∀l m:List Str,Dt.dh (l.map Dt.str) (m.map Dt.str)=decide (l=m)
 | [],[]=>by simp[Dt.dh]
 | [],_::_=>by simp[Dt.dh]
 | _::_,[]=>by simp[Dt.dh]
 | x::l,y::m=>by
  rw[List.map_cons,List.map_cons,Dt.dh,sy l m,Dt.beq]
  by_cases e:x=y<;>by_cases e2:l=m<;>simp[e,e2]
theorem sE:∀l:List Str,Dt.deps (l.map Dt.str)=0
 | []=>by simp[Dt.deps]
 | x::l=>by rw[List.map_cons,Dt.deps,sE l];simp[Dt.dep]
theorem Ak {ns ks ss:List Str} (p:ss.Perm ks) (nd:ks.Nodup) (m:∀y,y∈ks↔y∈ns) (so:PyProof.Rows.sortedS ss=true):decide (ns=ss)=rising ns:=by
 have Mz:ss.Nodup:=p.nodup_iff.mpr nd
 have ms:∀y,y∈ss↔y∈ns:=fun y=>(p.mem_iff).trans (m y)
 unfold rising
 by_cases e:ns=ss
 ·rw[decide_eq_true e,e,so,decide_eq_true Mz];rfl
 ·rw[decide_eq_false e]
  cases h1:PyProof.Rows.sortedS ns with
  | false=>rfl
  | true=>
   by_cases h2:ns.Nodup
   ·exact absurd (kg h1 so h2 Mz fun y=>(ms y).symm) e
   ·rw[decide_eq_false h2];rfl
theorem sH:∀{more kvs:List (Key×V)},(∀p∈more,cH kvs p.1=none)→(more.map (·.1)).Nodup→gj kvs more=kvs++more
 | [],kvs,_,_=>by rw[List.append_nil];rfl
 | p::r,kvs,h,nd=>by
  rw[List.map_cons,List.nodup_cons] at nd
  have hp:=h p List.mem_cons_self
  have e:putK kvs p.1 p.2=kvs++[p]:=by
   unfold putK
   rw[if_neg (by rw[jz,hp];simp)]
  show gj (putK kvs p.1 p.2) r=_
  rw[e,sH (fun q hq=>?_) nd.2,List.append_assoc]
  ·rfl
  ·rw[mU p.1 q.1 p.2 kvs hp,if_neg (fun z=>nd.1 (List.mem_map.mpr ⟨q,hq,z⟩))]
   exact h q (List.mem_cons_of_mem _ hq)
theorem qI:∀{kvs:List (Key×V)} {k:Key} {v:V},(kvs.map (·.1)).Nodup→(k,v)∈kvs→cH kvs k=some v
 | p::r,k,v,nd,h=>by
  rw[List.map_cons,List.nodup_cons] at nd
  rcases List.mem_cons.mp h with e | e
  ·rw[←e];exact cS rfl
  ·rw[c_ (fun z=>nd.1 (List.mem_map.mpr ⟨_,e,z.symm⟩))]
   exact qI nd.2 e
theorem vZ {H:Hp}:∀{ts:List Addr} {rs:List (Str×List (Nat×List Nat))},Paired (oV H) ts rs→∃kvs:List (Key×V),Paired (fun(p:Addr) (q:Key×V)=>H p=some (.tup [kV q.1,q.2])) ts kvs∧(kvs.map (·.1)=rs.map fun p=>(Sum.inr p.1:Key))∧
  ∀p∈rs,∃r,((Sum.inr p.1:Key),V.ref r)∈kvs∧dj H r (p.2.map (·.1)) (p.2.map (·.2))
 | _,_,.nil=>⟨[],.nil,rfl,fun p hp=>by cases hp⟩
 | _,_,.cons (b:=p) ⟨r,e1,e2⟩ t=>by
  obtain⟨kvs,h1,h2,h3⟩:=vZ t
  refine⟨(Sum.inr p.1,.ref r)::kvs,.cons e1 h1,by rw[List.map_cons,List.map_cons,h2],fun q hq=>?_⟩
  rcases List.mem_cons.mp hq with z | z
  ·subst z;exact⟨r,List.mem_cons_self,e2⟩
  ·obtain⟨r',a,b⟩:=h3 q z;exact⟨r',List.mem_cons_of_mem _ a,b⟩
theorem sI {ns:List Str} (h:ns.Nodup):(ns.map fun x=>(Sum.inr x:Key)).Nodup:=by
 rw[List.nodup_iff_pairwise_ne] at h ⊢
 rw[List.pairwise_map]
 exact h.imp fun q z=>q (Sum.inr.inj z)
def fR (b:Nat) (rs:List (Str×List (Nat×List Nat))) (x:Str):Bool:=match rs.find? fun p=>decide (p.1=x) with
 | some p=>cR b p.2
 | none=>true
theorem pV {b:Nat}:∀{rs:List (Str×List (Nat×List Nat))} {p:Str×List (Nat×List Nat)},(rs.map (·.1)).Nodup→p∈rs→fR b rs p.1=cR b p.2
 | q::rs,p,nd,h=>by
  rw[List.map_cons,List.nodup_cons] at nd
  unfold fR
  rw[List.find?_cons]
  rcases List.mem_cons.mp h with e | e
  ·subst e;rw[decide_eq_true rfl]
  ·rw[decide_eq_false (fun z=>nd.1 (List.mem_map.mpr ⟨p,e,z.symm⟩))]
   exact pV nd.2 e
theorem DY {H:Hp} {r:Addr} {b:Nat} {rm:List (Nat×List Nat)} (h:dj H r (rm.map (·.1)) (rm.map (·.2))) (ok:∀p∈rm,fB b p) (b4:b≤4):qC H r (av (rm.map (·.1))) ((rm.map (·.2)).map av):=by
 obtain⟨sa,ma,ps,e1,e2,e3,tp⟩:=h
 refine⟨sa,ma,ps,e1,e2,e3,tp,fun l hl=>?_⟩
 obtain⟨l0,h0,rfl⟩:=List.mem_map.mp hl
 obtain⟨p,hp,rfl⟩:=List.mem_map.mp h0
 rw[aY,(ok p hp).2.1]
 omega
theorem dA:bj ["text","lines","base","rows","names","world"] ["text"] (aj cW):=⟨rfl,rfl,rfl,by decide+kernel,rfl,by decide+kernel,by decide+kernel⟩
theorem mK {a:fc} {x:iz} (T:Txt K mg a) (TE:TX K mg x):bC P w K mg base (cy P w) 6 a.eJ a.fh ["text"] (mq x.c1 x.c4):=by
 have Al:bC P w K mg base (cy P w) 5 a.g9 a.iH ["base","some"] (Cw x.c4):=xA T TE
 have xG:bC P w K mg base (cy P w) 3 a.gq a.g7 ["some"] (Cu x.c4):=vS T TE
 have wc:bC P w K mg base (cy P w) 4 a.fN a.gB ["world"] (Cr x.c1):=tL T TE
 obtain⟨Vt,RM⟩:=T.xu
 refine T.vp.uV dA (fun vs H Q E h=>?_) (fun cdv A outer s H vs Q E hr h=>?_)
 ·obtain⟨z,rfl,_⟩:=h
  rfl
 ·obtain⟨z,rfl,hz,ke,kw⟩:=h
  have xH:aO 5 _:=hr
  have wd:aO 3 _:=hr.mono (by decide)
  have tP:aO 4 _:=hr.mono (by decide)
  have h_:aO 2 _:=hr.mono (by decide)
  refine⟨_,(ai (aA (i:=1) dA.nd rfl (Or.inl rfl) (cP PySem.F.plainAttrs_str PySem.F.slot_str_split PySem.F.type_str_split jJ (pv 0) (ae ay ag)))
  (ai (aA (i:=2) dA.nd rfl (Or.inr rfl) (aD xG wd rfl T.xc T.xf T.xg .nil ja (ae (aK (aU K) (pv 1) ah (fun _ _=>rfl)) ag)))
  (ai (oq (i:=3) (aI.mk' (esc:=aj cW) (N:=["text","lines","base","rows","names","world"]) (own:=["line"]) (aZ:=["base"]) (bJ:=[2]) rfl rfl (by decide+kernel)) rfl ⟨rfl,rfl⟩ m_ (eE (br (ck K) (pv 1) (bF ah) bG)) (fun _ _ _ _ _=>(aS (i:=0) (show List.Nodup (["line","base"]:List Str) by decide+kernel) rfl (Or.inl rfl))) (fun _ _ _ _ _=>bU) (fun _ _ _ _ _ hx=>(aD Al xH rfl T.zQ T.zR T.zS .nil hx (ae (pv 1) (ae (pv 0) ag)))) dA.nd rfl rfl)
  (ai (fU (i:=4) (aI.mk' (esc:=aj cW) (N:=["text","lines","base","rows","names","world"]) (own:=["row"]) (aZ:=[]) (bJ:=[]) rfl rfl (by decide+kernel)) rfl (eE (pv 3)) (fun _ _ _ _=>(aS (i:=0) (show List.Nodup (["row"]:List Str) by decide+kernel) rfl (Or.inl rfl))) (fun _ _ _ _=>bU) (fun _ _ _ _=>(aK (bD K) (pv 0) ah (fun _ _=>rfl))) dA.nd rfl rfl)
  (ai (bM (PW.pt (lF (aL nL (aE (aQ K) (by rfl) T.bT bK (ae (pv 3) ag)) (dv (v:=.int 4) (by rfl) RM ⟨_,rfl⟩) (aR _)) (kx (aL (HV K hr.units) (pv 4) (aE (uS rfl) (by rfl) T.jP iN (ae (bE (Bz rfl) (by rfl) T.KJ HQ (ae (pv 4) ag)) ag)) (aR _)))))
   (aq (jX hr.hd TE.x4 eO (jI TE.x4 TE.M4 (mf TE) h_ (by rfl) TE.m4 TE.b4)))
   bh)
  (ai (aA (i:=5) dA.nd rfl (Or.inl rfl) (cU (ae (pv 2) (ae (bE (zC hr.hd) (by rfl) T.Ci yg (ae (pv 3) ag)) ag))))
  (ai (eh (aD wc tP rfl T.vg T.vh T.vi .nil ja (ae (pv 5) ag)))
  (aq (aW (pv 5)))))))))),?_⟩
  have zl:=hz.2
  refine⟨_,rfl,rfl,z,_,rfl,rfl,by omega,by decide,fun L hL=>?_⟩
  rw[NK]
  have sL:=Same.new (o:=.lst ((spl 10 z).map V.str)) hL
  have eL:(upd H L (.lst ((spl 10 z).map V.str))) L=some (.lst ((spl 10 z).map V.str)):=af
  generalize upd H L (.lst ((spl 10 z).map V.str))=H1 at sL eL ⊢
  have many:=oR (c:=10) (z:=z)
  obtain⟨l0,ls,ew⟩:∃w0 wr,spl 10 z=w0::wr:=by
   cases e:spl 10 z with
   | nil=>exact absurd e (nh 10 z)
   | cons a r=>exact⟨a,r,rfl⟩
  have rW:dN z=match f_ l0 with
   | some b=>match bR (dY b) ls with
    | some rs=>if rs.length≤4∧rising (rs.map (·.1))=true then some (b,rs) else none
    | none=>none
   | none=>none:=by unfold dN;rw[ew]
  rw[ew] at eL many
  have Vu:l0.length≤z.length:=jo (c:=10) (by rw[ew];exact List.mem_cons_self)
  refine⟨_,rfl,L,_,_,.str l0,rfl,rfl,.of eL,aB (j:=0) rfl,l0,rfl,by omega,fun b hb H2 s2=>?_,fun hn=>(ke (by rw[rW,hn])).same sL⟩
  obtain⟨b2,b4⟩:=DX hb
  have s2':=sL.trans s2
  have cX:=s2 _ _ eL
  rw[hb] at rW
  refine⟨_,rfl,_,rfl,L,_,rfl,.of cX,fun S hS=>?_⟩
  rw[show fG ((l0::ls).map V.str) (some 1) none=ls.map V.str from oS 1 _ (by simp)]
  have sS:=s2'.trans (Same.new (o:=.lst (ls.map V.str)) hS)
  have eS:(upd H2 S (.lst (ls.map V.str))) S=some (.lst (ls.map V.str)):=af
  generalize upd H2 S (.lst (ls.map V.str))=H3 at sS eS ⊢
  refine⟨S,rfl,⟨_,.of eS⟩,fun C hC=>?_⟩
  refine eK (xs:=ls.map V.str) (fun i σ H'=>∃(rs:List (Str×List (Nat×List Nat))) (rp:List Addr) (v:Option V),σ=[v,some (.int b)]∧Same H3 H'∧H' C=some (.lst (rp.map V.ref))∧bR (dY b) (ls.take i)=some rs∧Paired (oV H') rp rs)
   ⟨[],[],none,rfl,Same.new hC,af,rfl,.nil⟩ (fun i σ H' _ ⟨_,_,_,_,s,_⟩=>.of (s _ _ eS)) ?_ ?_
  ·rintro i y σ H4 hy ⟨rs,rp,v,rfl,s4,eC,en,pr⟩
   obtain⟨t,rfl,et⟩:=gN hy
   have ht:t∈ls:=List.mem_of_getElem? et
   refine⟨_,rfl,_,rfl,b,t,rfl,hz.part (c:=10) (by rw[ew];exact List.mem_cons_of_mem _ ht),fun nm rm hn ra r H5 s5 era RN=>?_,fun hn=>(ke ?_).same (sS.trans s4)⟩
   ·have nl:=iA en
    have pl:=fV pr
    rw[List.length_take] at nl
    rw[List.length_cons] at many
    have pU:=s5 _ _ eC
    refine⟨_,pU,?_,rs++[(nm,rm)],rp++[ra],_,rfl,(s4.trans s5).kbn hC KB.write,?_,?_,?_⟩
    ·rw[List.length_map];exact Nat.lt_of_lt_of_le (show rp.length<200000 by omega) (by decide)
    ·rw[af,List.map_append];rfl
    ·rw[List.take_add_one,et];exact j5 en hn
    ·have kt:bQ H4 (upd H5 C (.lst (rp.map V.ref++[.ref ra]))):=s5.kt.trans (bQ.lst pU)
     exact dw (Paired.lC pr fun _ _ h=>h.keep kt) (.cons ⟨r,bQ.lst pU _ _ era,RN.keep (bQ.lst pU)⟩ .nil)
   ·rw[rW];dsimp only;rw[iQ ht hn]
  rintro σ H4 ⟨rs,rp,v,rfl,s4,eC,en,pr⟩
  rw[List.length_map,List.take_length] at en
  have rW:dN z=if rs.length≤4∧rising (rs.map (·.1))=true then some (b,rs) else none:=by rw[rW];dsimp only;rw[en]
  have RO:=sS.trans s4
  have nl:=iA en
  have pl:=fV pr
  have RP:=mj (R:=fun _ p=>dg b p) (fun _ _ h=>(Aj h).1) en
  rw[List.length_cons] at many
  refine⟨_,rfl,C,rfl,⟨_,.of eC⟩,fun N hN=>?_⟩
  refine eK (xs:=rp.map V.ref) (fun i σ H'=>∃v:Option V,σ=[v]∧Same H4 H'∧H' N=some (.lst (((rs.take i).map (·.1)).map V.str)))
   ⟨none,rfl,Same.new hN,af⟩ (fun i σ H' _ ⟨_,_,s,_⟩=>.of (s _ _ eC)) ?_ ?_
  ·rintro i y σ H5 hy ⟨v,rfl,s5,eN⟩
   obtain⟨ra,rfl,era⟩:=jm hy
   obtain⟨p,ep,r,e1,e2⟩:=i9 pr era
   have hi:=(List.getElem?_eq_some_iff.mp era).1
   refine⟨_,rfl,ra,_,_,.str p.1,rfl,rfl,.of (s5 _ _ e1),aB (j:=0) rfl,_,eN,?_,_,rfl,s5.kbn hN KB.write,?_⟩
   ·rw[List.length_map,List.length_map,List.length_take];exact Nat.lt_of_lt_of_le (show min i rs.length<200000 by omega) (by decide)
   ·rw[af,List.take_add_one,ep,List.map_append,List.map_append];rfl
  rintro σ H5 ⟨v,rfl,s5,eN⟩
  rw[List.length_map,pl,List.take_length] at eN
  have MA:=RO.trans s5
  have MB:=s5 _ _ eC
  have RQ:Paired (oV H5) rp rs:=Paired.lC pr fun _ _ h=>h.keep s5.kt
  refine⟨_,rfl,_,_,rfl,.inl ⟨_,.of MB,rfl⟩,_,_,rfl,rfl,_,rfl,?_⟩
  rw[List.length_map,pl]
  by_cases h4:rs.length≤4
  case neg=>
   rw[show decide ((4:Int)<((rs.length:Nat):Int))=true from decide_eq_true (by omega)]
   exact b_ (b_ (cK TE ((ke (by rw[rW];exact if_neg fun q=>h4 q.1)).same MA)))
  rw[show decide ((4:Int)<((rs.length:Nat):Int))=false from decide_eq_false (by omega)]
  refine bZ ⟨_,rfl,_,rfl,N,rs.map (·.1),rfl,.of eN,by rw[List.length_map];exact Nat.lt_of_le_of_lt (show rs.length+1≤5 by omega) (by decide),fun S1 ks hS1 nd mk kl=>?_⟩
  rw[List.length_map] at kl
  have RS:=Same.new (o:=jG P w S1 ks) hS1
  refine⟨S1,ks,rfl,af,by omega,fun S2 ss hS2 pm so=>?_⟩
  show(Dk K true (V.ref N) (V.ref S2) (upd (upd H5 S1 (jG P w S1 ks)) S2 (HO.lst (List.map V.str ss))) _)∧∃d d':Dt,au K (upd (upd H5 S1 (jG P w S1 ks)) S2 (HO.lst (List.map V.str ss))) (V.ref N) d∧au K (upd (upd H5 S1 (jG P w S1 ks)) S2 (HO.lst (List.map V.str ss))) (V.ref S2) d'∧((∃ds ds',d=.tup ds∧d'=.tup ds')∨∃ds ds',d=.lst ds∧d'=.lst ds')
  have E9:=RS.trans (Same.new (o:=.lst (ss.map V.str)) hS2)
  have MC:=E9 _ _ eN
  have we:(upd (upd H5 S1 (jG P w S1 ks)) S2 (.lst (ss.map V.str))) S2=some (.lst (ss.map V.str)):=af
  have Fb:=E9 _ _ MB
  have MD:Paired (oV (upd (upd H5 S1 (jG P w S1 ks)) S2 (.lst (ss.map V.str)))) rp rs:=Paired.lC RQ fun _ _ h=>h.keep E9.kt
  have s6:=MA.trans E9
  generalize upd (upd H5 S1 (jG P w S1 ks)) S2 (.lst (ss.map V.str))=H6 at MC we Fb MD s6 ⊢
  have D1:au K H6 (.ref N) (.lst ((rs.map (·.1)).map Dt.str)):=by rw[au];exact⟨N,_,rfl,.of MC,nB _⟩
  have D2:au K H6 (.ref S2) (.lst (ss.map Dt.str)):=by rw[au];exact⟨S2,_,rfl,.of we,nB _⟩
  refine⟨⟨_,_,D1,D2,rfl,rfl,by rw[Dt.dep,sE];decide,_,rfl,?_⟩,_,_,D1,D2,.inr ⟨_,_,rfl,rfl⟩⟩
  rw[Dt.beq,sy,Ak pm nd mk so]
  cases CD:rising (rs.map (·.1)) with
  | false=>
   exact b_ (cK TE ((ke (by rw[rW];exact if_neg fun q=>by rw[CD] at q;cases q.2)).same s6))
  | true=>
   have eW:dN z=some (b,rs):=by rw[rW];exact if_pos ⟨h4,CD⟩
   obtain⟨kQ,kE⟩:=kw b rs eW
   have CF:(rs.map (·.1)).Nodup:=by
    unfold rising at CD
    rw[Bool.and_eq_true] at CD
    exact of_decide_eq_true CD.2
   obtain⟨kvs,h1,h2,h3⟩:=vZ MD
   have Fc:(kvs.map (·.1)).Nodup:=by
    rw[h2,show(rs.map fun p=>(Sum.inr p.1:Key))=(rs.map (·.1)).map fun x=>(Sum.inr x:Key) by rw[List.map_map];rfl]
    exact sI CF
   have lk:kvs.length=rs.length:=by rw[←List.length_map (f:=fun p:Key×V=>p.1),h2,List.length_map]
   refine bZ ⟨_,rfl,_,rfl,C,rp,kvs,rfl,Fb,h1,by rw[lk];exact Nat.lt_of_le_of_lt h4 (by decide),fun D hD=>⟨by show 2≤sizeLine;decide,fun wa E3=>?_⟩⟩
   rw[sH (kvs:=[]) (fun _ _=>rfl) Fc,List.nil_append] at*
   have sD:=Same.new (o:=.dK kvs) hD
   have ME:=sD.trans (Same.new (o:=.tup [.int (b:Nat),.ref D]) E3)
   have sJ:(upd (upd H6 D (.dK kvs)) wa (.tup [.int (b:Nat),.ref D])) wa=some (.tup [.int (b:Nat),.ref D]):=af
   have eD:(upd (upd H6 D (.dK kvs)) wa (.tup [.int (b:Nat),.ref D])) D=some (.dK kvs):=(Same.new E3) _ _ af
   have E2:H D=none:=s6.free hD
   have wr:WR (upd (upd H6 D (.dK kvs)) wa (.tup [.int (b:Nat),.ref D])) kvs rs:=⟨h2,fun p hp=>by
    obtain⟨r,m,ro⟩:=h3 p hp
    exact⟨r,qI Fc m,ro.keep ME.kt⟩⟩
   have s7:=s6.trans ME
   generalize upd (upd H6 D (.dK kvs)) wa (.tup [.int (b:Nat),.ref D])=H7 at sJ eD wr s7 ⊢
   have jU:∀p∈rs,dg b p:=fun p hp=>by obtain⟨_,_,q⟩:=jg RP hp;exact q
   refine⟨_,rfl,b,wa,D,kvs,rs.map (·.1),fR b rs,rfl,sJ,⟨b2,eD,by rw[h2,List.map_map];rfl,by rw[List.length_map];omega,fun y hy=>?_,fun y hy=>?_⟩,fun all H8 s8=>⟨_,rfl,?_⟩,fun m hm fm hmin H8 ax dx s8 e1 e2=>?_⟩
   ·obtain⟨p,hp,rfl⟩:=List.mem_map.mp hy
    have:=(cL (jU p hp).1).2.1
    omega
   ·obtain⟨p,hp,rfl⟩:=List.mem_map.mp hy
    obtain⟨r,e1,e2⟩:=wr.rows p hp
    exact⟨r,_,_,e1,DY e2 (jU p hp).2.2.2 b4,by rw[pV CF hp];rfl⟩
   ·exact kQ (fun p hp=>by rw[←pV CF hp];exact all p.1 (List.mem_map.mpr ⟨p,hp,rfl⟩)) wa D kvs H8 (s7.trans s8) E2 (s8 _ _ sJ) (s8 _ _ eD) (wr.keep s8.kt)
   ·obtain⟨p,hp,rfl⟩:=List.mem_map.mp hm
    refine kE p hp (by rw[←pV CF hp];exact fm) (fun q hq hf=>hmin q.1 (List.mem_map.mpr ⟨q,hq,rfl⟩) (by rw[pV CF hq];exact hf)) H8 ax dx (s7.trans s8) e1 e2
theorem kZ {n:Nat} (h:n<10):ak (Str.ofString (toString ((n:Nat):Int)))=[48+n]:=by
 have key:∀k:Fin 10,(Str.ofString (toString ((k.val:Nat):Int))).cps.toList=[48+k.val]:=by decide+kernel
 exact key ⟨n,h⟩
theorem k_ {n:Nat} (h:n<10):((n:Nat):Int).natAbs.log2<1920:=by
 have key:∀k:Fin 10,((k.val:Nat):Int).natAbs.log2<1920:=by decide+kernel
 exact key ⟨n,h⟩
theorem gb {n:Nat} (h:n<10):(Str.ofString (toString ((n:Nat):Int))).length=1:=by rw[←dJ,show(Str.ofString (toString ((n:Nat):Int))).cps.toList=[48+n] from kZ h];rfl
theorem oy:ak (Str.ofString ":")=[58]:=by decide+kernel
theorem wg (l:List Str):ak (Txt.join (Str.ofString ".") l)=jn 46 (l.map ak):=by
 unfold ak Txt.join;rw[StrLaws.glued_eq_join,show Str.ofString "."=⟨#[46]⟩ by decide+kernel,df]
theorem pW (l:List Str):ak (Txt.join (Str.ofString " ") l)=jn 32 (l.map ak):=by
 unfold ak Txt.join;rw[StrLaws.glued_eq_join,show Str.ofString " "=⟨#[32]⟩ by decide+kernel,df]
theorem CG (l:List Str):ak (Txt.join (Str.ofString "\n") l)=jn 10 (l.map ak):=by
 unfold ak Txt.join;rw[StrLaws.glued_eq_join,show Str.ofString "\n"=⟨#[10]⟩ by decide+kernel,df]
theorem a_ (a b:Str):ak (a++b)=ak a++ak b:=jK a b
theorem bH (a:Str):a.length=(ak a).length:=(dJ a).symm
theorem gc {c:Nat}:∀xs:List (List Nat),(jn c xs).length≤(xs.map List.length).sum+xs.length
 | []=>by simp[jn]
 | [x]=>by simp[jn]
 | x::y::r=>by
  have:=gc (c:=c) (y::r)
  show(x++c::jn c (y::r)).length≤_
  rw[List.length_append,List.length_cons,List.map_cons,List.sum_cons,List.length_cons]
  omega
theorem gx {l:List Nat} {k:Nat} (h:∀x∈l,x≤k):l.sum≤l.length*k:=by
 induction l with
 | nil=>simp
 | cons a r ih=>
  have h1:=h a List.mem_cons_self
  have h2:=ih fun x hx=>h x (List.mem_cons_of_mem _ hx)
  rw[List.sum_cons,List.length_cons,Nat.succ_mul]
  omega
theorem lg {b:Nat} {p:Nat×List Nat} (h:fB b p):(bS p.1 p.2).length≤2+2*b:=by
 have:=gc (c:=46) (p.2.map fun x=>[48+x])
 rw[List.map_map,List.length_map] at this
 have e:(p.2.map (List.length∘fun x=>[48+x])).sum≤p.2.length*1:=by
  have:=gx (l:=p.2.map (List.length∘fun x=>[48+x])) (k:=1) (fun x hx=>by
   obtain⟨y,_,rfl⟩:=List.mem_map.mp hx
   exact Nat.le_refl _)
  rw[List.length_map] at this
  exact this
 have hl:=h.2.1
 unfold bS
 rw[List.length_cons,List.length_cons]
 omega
theorem qJ {b:Nat} {p:Str×List (Nat×List Nat)} (h:dg b p) (b4:b≤4):(cA p.1 p.2).length≤200:=by
 have hn:=(cL h.1).2.1
 have:=gc (c:=32) ([114,111,119]::ak p.1::p.2.map fun q=>bS q.1 q.2)
 have e:((p.2.map fun q=>bS q.1 q.2).map List.length).sum≤p.2.length*10:=by
  have:=gx (l:=(p.2.map fun q=>bS q.1 q.2).map List.length) (k:=10) (fun x hx=>by
   obtain⟨y,hy,rfl⟩:=List.mem_map.mp hx
   obtain⟨r,hr,rfl⟩:=List.mem_map.mp hy
   have:=lg (h.2.2.2 r hr)
   omega)
  rw[List.length_map,List.length_map] at this
  exact this
 have h8:=h.2.2.1
 simp only[List.map_cons,List.sum_cons,List.length_cons,List.length_map,List.length_nil] at this e
 rw[bH] at hn
 unfold cA
 have e3:([114,111,119]:List Nat).length=3:=rfl
 omega
def Am:Sp:=fun vs H Q _=>∃(s:Nat) (la:Addr) (ls:List Nat) (b:Nat),vs=[.int (s:Nat),.ref la]∧H la=some (.tup ((av ls).map V.int))∧fB b (s,ls)∧b≤4∧∀H',Same H H'→Q (.str (txt (bS s ls))) H'
def CH:Sp:=fun vs H Q _=>∃(nm:Str) (r:Addr) (rm:List (Nat×List Nat)) (b:Nat),vs=[.str nm,.ref r]∧dj H r (rm.map (·.1)) (rm.map (·.2))∧dg b (nm,rm)∧b≤4∧∀H',Same H H'→Q (.str (txt (cA nm rm))) H'
theorem Ju {H:Hp} {ps:List Addr} {mv:List (List Nat)} {i:Nat} {p:Addr} (tp:cb H ps (mv.map av)) (h:ps[i]? =some p):∃l,mv[i]? =some l∧H p=some (.tup ((av l).map V.int)):=by
 obtain⟨l,e1,e2⟩:=tp.get h
 rw[List.getElem?_map] at e1
 cases e:mv[i]? with
 | none=>rw[e] at e1;cases e1
 | some l0=>
  rw[e] at e1
  have:av l0=l:=Option.some.inj e1
  subst this
  exact⟨l0,rfl,e2⟩
theorem wj {H:Hp} {la:Addr} {ls:List Nat} {C:Addr} {R:Hp→Prop} {σ:St} (ow:H la=some (.tup ((av ls).map V.int))) (ll:ls.length≤4) (l10:∀x∈ls,x<10) (hC:H C=none) (hσ:σ=[none])
  (k:∀H',Same H H'→H' C=some (.lst ((ls.map fun x=>Str.ofString (toString ((x:Nat):Int))).map V.str))→R H'):
  i6 (Ek K la) (eU 0) Ex (Hj (fun xs H Q=>∃i,xs=[.int i]∧i.natAbs.log2<1920∧Q (.str (Str.ofString (toString i))) H) (tW (C6 0) qg)) C σ (upd H C (.lst [])) R:=by
 refine uL (xs:=(av ls).map V.int) (fun i σ H'=>∃v:Option V,σ=[v]∧Same H H'∧H' C=some (.lst (((ls.take i).map fun x=>Str.ofString (toString ((x:Nat):Int))).map V.str)))
  ⟨none,hσ,Same.new hC,af⟩ (fun i σ H' _ ⟨_,_,s,_⟩=>.of (s _ _ ow)) ?_ ?_
 ·rintro i x σ H1 hx ⟨v,rfl,s1,eC⟩
  obtain⟨n,rfl,en⟩:=nN hx
  rw[jS] at en
  cases em:ls[i]? with
  | none=>rw[em] at en;cases en
  | some m=>
   rw[em] at en
   have:((m:Nat):Int)=n:=Option.some.inj en
   subst this
   refine⟨_,rfl,_,rfl,k_ (l10 m (List.mem_of_getElem? em)),_,eC,?_,_,rfl,s1.kbn hC KB.write,?_⟩
   ·rw[List.length_map,List.length_map,List.length_take];exact Nat.lt_of_lt_of_le (show min i ls.length<100 by omega) (by decide)
   ·rw[af,List.take_add_one,em,List.map_append,List.map_append];rfl
 ·rintro σ H1 ⟨v,rfl,s1,eC⟩
  rw[List.length_map,aY,List.take_length] at eC
  exact k _ s1 eC
theorem sN {ls:List Nat} (ll:ls.length≤4) (l10:∀x∈ls,x<10):((ls.map fun x=>Str.ofString (toString ((x:Nat):Int))).map (·.length)).sum+(ls.map fun x=>Str.ofString (toString ((x:Nat):Int))).length*(Str.ofString ".").length≤16777216:=by
 have h1:((ls.map fun x=>Str.ofString (toString ((x:Nat):Int))).map (·.length)).sum≤ls.length*1:=by
  have:=gx (l:=(ls.map fun x=>Str.ofString (toString ((x:Nat):Int))).map (·.length)) (k:=1) (fun y hy=>by
   obtain⟨z,hz,rfl⟩:=List.mem_map.mp hy
   obtain⟨x,hx,rfl⟩:=List.mem_map.mp hz
   exact Nat.le_of_eq (gb (l10 x hx)))
  rw[List.length_map,List.length_map] at this
  exact this
 have h2:(Str.ofString ".").length=1:=by decide+kernel
 rw[List.length_map,h2]
 omega
theorem pX {s:Nat} {ls:List Nat} (hs:s<10) (l10:∀x∈ls,x<10) {pre:Str} (hp:ak pre=[48+s,58]):pre++Txt.join (Str.ofString ".") (ls.map fun x=>Str.ofString (toString ((x:Nat):Int)))=txt (bS s ls):=by
 refine ft ?_
 show ak _=ak _
 rw[a_,wg,aJ,hp,List.map_map]
 show(48+s)::58::jn 46 _=_
 unfold bS
 congr 3
 exact List.map_congr_left fun x hx=>kZ (l10 x hx)
theorem wk:bj ["sign","leads"] ["sign","leads"] (aj dX):=⟨rfl,rfl,rfl,by decide+kernel,rfl,by decide+kernel,by decide+kernel⟩
theorem wm {a:fc} (T:Txt K mg a):bC P w K mg base dE 1 a.iI a.jN ["sign","leads"] Am:=by
 refine T.xl.ok wk (fun vs H Q E h=>?_) (fun cdv A outer s H vs Q E hr h=>?_)
 ·obtain⟨s,la,ls,b,rfl,_⟩:=h
  rfl
 ·obtain⟨sn,la,ls,b,rfl,ow,⟨hs,hl,l10⟩,b4,k⟩:=h
  refine⟨_,(aq (aW (ao bb (ao bb (bE gY (by rfl) T.t8 pG (ae (pv 0) ag)) ay) (cP PySem.F.plainAttrs_str PySem.F.slot_str_join PySem.F.type_str_join (de K) ay (ae (fk (aI.mk' (esc:=aj dX) (N:=["sign","leads"]) (own:=["room"]) (aZ:=[]) (bJ:=[]) rfl rfl (by decide+kernel)) rfl (ug (pv 1)) (fun _ _ _ _=>(aS (i:=0) (show List.Nodup (["room"]:List Str) by decide+kernel) rfl (Or.inl rfl))) (fun _ _ _ _=>bU) (fun _ _ _ _=>(bE gY (by rfl) T.t8 pG (ae (pv 0) ag)))) ag))))),?_⟩
  have ll:ls.length≤4:=by have:ls.length=b:=hl;omega
  refine⟨_,rfl,_,rfl,k_ hs,_,_,rfl,rfl,by show(Str.ofString (toString ((sn:Nat):Int))).length+1≤_;rw[gb hs];decide,rfl,_,rfl,la,rfl,⟨_,.of ow⟩,fun C hC=>wj ow ll l10 hC rfl fun H1 s1 eC=>?_⟩
  refine⟨_,C,_,rfl,rfl,.of eC,sN ll l10,fun z hz ez=>⟨_,_,rfl,rfl,?_,?_⟩⟩
  ·rw[strLen_append,gb hs]
   have e2:(Str.ofString ":").length=1:=by decide+kernel
   have h1:=gc (c:=46) ((ls.map fun x=>Str.ofString (toString ((x:Nat):Int))).map ak)
   have h2:z.length≤16777000:=by
    rw[bH,ez,wg]
    refine Nat.le_trans h1 ?_
    have:=gx (l:=((ls.map fun x=>Str.ofString (toString ((x:Nat):Int))).map ak).map List.length) (k:=1) (fun y hy=>by
     obtain⟨q,hq,rfl⟩:=List.mem_map.mp hy
     obtain⟨q2,hq2,rfl⟩:=List.mem_map.mp hq
     obtain⟨x,hx,rfl⟩:=List.mem_map.mp hq2
     exact Nat.le_of_eq (by rw[←bH];exact gb (l10 x hx)))
    simp only[List.length_map] at this ⊢
    omega
   rw[e2,PySem.sizeLine_eq]
   omega
  ·rw[ez,pX hs l10 (by rw[a_,kZ hs,oy];rfl)]
   exact k _ s1
def eP (b:Nat):List Nat:=[98,97,115,101,32,48+b]
structure WS (H:Hp) (kvs:List (Key×V)) (ro:List (Str×List (Nat×List Nat))):Prop where
 keys:∃ks:List Str,kvs.map (·.1)=ks.map Sum.inr∧ks.Perm (ro.map (·.1))
 up:rising (ro.map (·.1))=true
 rows:∀p∈ro,∃r,cH kvs (Sum.inr p.1)=some (.ref r)∧dj H r (p.2.map (·.1)) (p.2.map (·.2))
theorem WS.keep {H H':Hp} {kvs:List (Key×V)} {ro:List (Str×List (Nat×List Nat))} (h:WS H kvs ro) (k:bQ H H'):WS H' kvs ro:=
 ⟨h.keys,h.up,fun p hp=>let ⟨r,a,b⟩:=h.rows p hp;⟨r,a,b.keep k⟩⟩
theorem WS.nd {H:Hp} {kvs:List (Key×V)} {ro:List (Str×List (Nat×List Nat))} (h:WS H kvs ro):(ro.map (·.1)).Nodup:=by
 have:=h.up
 unfold rising at this
 rw[Bool.and_eq_true] at this
 exact of_decide_eq_true this.2
theorem WS.sorted {H:Hp} {kvs:List (Key×V)} {ro:List (Str×List (Nat×List Nat))} (h:WS H kvs ro) {ks ss:List Str} (e:kvs.map (·.1)=ks.map Sum.inr) (pm:ss.Perm ks) (so:PyProof.Rows.sortedS ss=true):ss=ro.map (·.1):=by
 obtain⟨ks',e',MF⟩:=h.keys
 have ek:ks=ks':=by
  have:=e.symm.trans e'
  exact(List.map_inj_right (fun a b h=>Sum.inr.inj h)).mp this
 subst ek
 have nd:=h.nd
 have up:=h.up
 unfold rising at up
 rw[Bool.and_eq_true] at up
 exact kg so up.1 ((pm.trans MF).nodup_iff.mpr nd) nd fun y=>(pm.trans MF).mem_iff
def bL (b:Nat) (ro:List (Str×List (Nat×List Nat))):List Str:=txt (eP b)::ro.map fun p=>txt (cA p.1 p.2)
def pY (b:Nat) (ro:List (Str×List (Nat×List Nat))):List Nat:=jn 10 (eP b::ro.map fun p=>cA p.1 p.2)
theorem iR (b:Nat) (ro:List (Str×List (Nat×List Nat))):(bL b ro).map ak=eP b::ro.map fun p=>cA p.1 p.2:=by
 unfold bL
 rw[List.map_cons,aJ,List.map_map]
 congr 1
structure WT (H:Hp) (wa D:Addr) (b:Nat) (kvs:List (Key×V)) (ro:List (Str×List (Nat×List Nat))):Prop where
 wa:H wa=some (.tup [.int (b:Nat),.ref D])
 dict:H D=some (.dK kvs)
 ws:WS H kvs ro
 two:2≤b
 four:b≤4
 few:ro.length≤4
 ok:∀p∈ro,dg b p
theorem WT.same {H H':Hp} {wa D:Addr} {b:Nat} {kvs:List (Key×V)} {ro:List (Str×List (Nat×List Nat))} (h:WT H wa D b kvs ro) (s:Same H H'):WT H' wa D b kvs ro:=
 ⟨s _ _ h.wa,s _ _ h.dict,h.ws.keep s.kt,h.two,h.four,h.few,h.ok⟩
def xI:Sp:=fun vs H Q _=>∃(wa D:Addr) (b:Nat) (kvs:List (Key×V)) (ro:List (Str×List (Nat×List Nat))),vs=[.ref wa]∧WT H wa D b kvs ro∧∀H',Same H H'→Q (.str (txt (pY b ro))) H'
def GL:Sp:=fun vs H Q _=>∃(wa D:Addr) (b:Nat) (kvs:List (Key×V)) (ro:List (Str×List (Nat×List Nat))),vs=[.ref wa]∧WT H wa D b kvs ro∧∀L H',H L=none→Same H H'→H' L=some (.lst ((bL b ro).map V.str))→Q (.ref L) H'
theorem sO {b:Nat} (h:b<10) {pre:Str} (e:ak pre=[98,97,115,101,32]):pre++Str.ofString (toString ((b:Nat):Int))=txt (eP b):=by
 refine ft ?_
 show ak _=ak _
 rw[a_,kZ h,aJ,e];rfl
theorem DZ:ak (Str.ofString "base ")=[98,97,115,101,32]:=by decide+kernel
theorem Fd {ro:List (Str×List (Nat×List Nat))} {i:Nat} {m:Str} (h:(ro.map (·.1))[i]? =some m):∃rm,ro[i]? =some (m,rm):=by
 rw[List.getElem?_map] at h
 cases e:ro[i]? with
 | none=>rw[e] at h;cases h
 | some p=>
  rw[e] at h
  have:p.1=m:=Option.some.inj h
  subst this
  exact⟨p.2,rfl⟩
theorem nV {l:List Str} {k:Nat} (h:∀x∈l,x.length≤k):(l.map (·.length)).sum≤l.length*k:=by
 have:=gx (l:=l.map (·.length)) (k:=k) (fun y hy=>by
  obtain⟨z,hz,rfl⟩:=List.mem_map.mp hy
  exact h z hz)
 rw[List.length_map] at this
 exact this
theorem gT (l:List Nat):(txt l).length=l.length:=by rw[bH,aJ]
theorem oz:bj ["name","row","rooms"] ["name","row"] (aj eY):=⟨rfl,rfl,rfl,by decide+kernel,rfl,by decide+kernel,by decide+kernel⟩
theorem xJ {a:fc} (T:Txt K mg a):bC P w K mg base dE 2 a.jd a.km ["name","row"] CH:=by
 have xK:=wm (P:=P) (w:=w) (base:=base) T
 refine T.zT.ok oz (fun vs H Q E h=>?_) (fun cdv A outer s H vs Q E hr h=>?_)
 ·obtain⟨nm,r,rm,b,rfl,_⟩:=h
  rfl
 ·obtain⟨nm,r,rm,b,rfl,⟨sa,ma,ps,e1,e2,e3,tp⟩,ok,b4,k⟩:=h
  have wo:aO 1 _:=hr
  refine⟨_,(ai (fU (i:=2) (aI.mk' (esc:=aj eY) (N:=["name","row","rooms"]) (own:=["sign","leads"]) (aZ:=[]) (bJ:=[]) rfl rfl (by decide+kernel)) rfl (yq rfl T.ER (ae (aK (bD K) (pv 1) ah (fun _ _=>rfl)) (ae (aK (bD K) (pv 1) ah (fun _ _=>rfl)) ag))) (fun _ _ _ _=>(yj K (n:=2) rfl (dP (aS (i:=0) (show List.Nodup (["sign","leads"]:List Str) by decide+kernel) rfl (Or.inl rfl)) (dP (aS (i:=1) (show List.Nodup (["sign","leads"]:List Str) by decide+kernel) rfl (Or.inl rfl)) kC)))) (fun _ _ _ _=>bU) (fun _ _ _ _=>(aD xK wo rfl T.xm T.xp T.xq .nil bf (ae (pv 0) (ae (pv 1) ag)))) oz.nd rfl rfl)
  (aq (aW (cP PySem.F.plainAttrs_str PySem.F.slot_str_join PySem.F.type_str_join (de K) ay (ae (ao bY (bo (ae ay (ae (pv 0) ag))) (pv 2)) ag))))),?_⟩
  have lp:ps.length=rm.length:=by rw[Paired.length tp,List.length_map,List.length_map]
  have r8:rm.length≤8:=ok.2.2.1
  have nl:nm.length≤3:=(cL ok.1).2.1
  refine⟨_,rfl,r,_,_,_,rfl,rfl,.of e1,aB (j:=0) (v:=.ref sa) rfl,_,rfl,r,_,_,_,rfl,rfl,.of e1,aB (j:=1) (v:=.ref ma) rfl,_,_,rfl,⟨_,.of e2⟩,⟨_,.of e3⟩,fun C hC=>?_⟩
  refine r_ (xs:=(av (rm.map (·.1))).map V.int) (ys:=ps.map V.ref) (fun i σ H'=>∃v0 v1:Option V,σ=[v0,v1]∧Same H H'∧H' C=some (.lst (((rm.take i).map fun p=>txt (bS p.1 p.2)).map V.str))) (by rw[List.length_map,aY,List.length_map,List.length_map,lp])
   ⟨none,none,rfl,Same.new hC,af⟩ (fun i σ H' _ ⟨_,_,_,s,_⟩=>⟨.of (s _ _ e2),.of (s _ _ e3)⟩) ?_ ?_
  ·rintro i y y2 p σ H1 hy hy2 ⟨v0,v1,rfl,s1,eC⟩ hp
   obtain⟨n,rfl,en⟩:=nN hy
   obtain⟨q,rfl,eq⟩:=jm hy2
   obtain⟨l,el,e4⟩:=Ju tp eq
   rw[List.getElem?_map] at el
   cases em:rm[i]? with
   | none=>rw[em] at el;cases el
   | some pr=>
    rw[em] at el
    have Jv:pr.2=l:=Option.some.inj el
    subst Jv
    rw[jS,List.getElem?_map,em] at en
    have en':((pr.1:Nat):Int)=n:=Option.some.inj en
    subst en'
    have hi:=(List.getElem?_eq_some_iff.mp em).1
    have sp:=s1.trans (Same.new (o:=.tup [.int (pr.1:Nat),.ref q]) hp)
    have Fe:=(Same.new (o:=.tup [.int (pr.1:Nat),.ref q]) hp) _ _ eC
    refine⟨p,_,rfl,.of af,rfl,_,_,rfl,_,_,rfl,rfl,_,rfl,_,rfl,pr.1,q,pr.2,b,rfl,sp _ _ e4,ok.2.2.2 pr (List.mem_of_getElem? em),b4,fun H2 s2=>⟨_,s2 _ _ Fe,?_,_,_,rfl,(sp.trans s2).kbn hC KB.write,?_⟩⟩
    ·rw[List.length_map,List.length_map,List.length_take];exact Nat.lt_of_lt_of_le (show min i rm.length<100 by omega) (by decide)
    ·rw[af,List.take_add_one,em,List.map_append,List.map_append];rfl
  ·rintro σ H1 ⟨v0,v1,rfl,s1,eC⟩
   rw[List.length_map,aY,List.length_map,List.take_length] at eC
   refine⟨rfl,_,rfl,by show 2≤sizeLine;decide,fun L hL=>⟨_,rfl,L,C,_,_,rfl,rfl,af,(Same.new hL) _ _ eC,?_,fun M hM=>?_⟩⟩
   ·rw[List.length_map,List.length_map];exact Nat.le_trans (show 2+rm.length≤100 by omega) (by decide)
   have sM:=(s1.trans (Same.new (o:=.lst [.str (Str.ofString "row"),.str nm]) hL)).trans (Same.new (o:=.lst ([.str (Str.ofString "row"),.str nm]++(rm.map fun p=>txt (bS p.1 p.2)).map V.str)) hM)
   refine⟨_,M,(Str.ofString "row")::nm::rm.map fun p=>txt (bS p.1 p.2),rfl,rfl,.of af,?_,fun z hz ez=>?_⟩
   ·have h1:(Str.ofString "row").length=3:=by decide+kernel
    have h2:(Str.ofString " ").length=1:=by decide+kernel
    have h3:=nV (l:=rm.map fun p=>txt (bS p.1 p.2)) (k:=10) (fun x hx=>by
     obtain⟨q,hq,rfl⟩:=List.mem_map.mp hx
     rw[gT]
     have:=lg (ok.2.2.2 q hq)
     omega)
    rw[List.length_map] at h3
    rw[List.map_cons,List.map_cons,List.sum_cons,List.sum_cons,h1,h2,List.length_cons,List.length_cons,List.length_map]
    omega
   ·have Jw:z=txt (cA nm rm):=by
     refine ft ?_
     show ak _=ak _
     rw[ez,pW,aJ,List.map_cons,List.map_cons,List.map_map]
     unfold cA
     rw[show ak (Str.ofString "row")=[114,111,119] from j6]
     congr 3
    rw[Jw]
    exact k _ sM
theorem i3:bj ["world","base","rows"] ["world"] (aj dr):=⟨rfl,rfl,rfl,by decide+kernel,rfl,by decide+kernel,by decide+kernel⟩
theorem tQ {a:fc} (T:Txt K mg a):bC P w K mg base dE 3 a.hJ a.i_ ["world"] xI:=by
 have An:=xJ (P:=P) (w:=w) (base:=base) T
 refine T.vq.ok i3 (fun vs H Q E h=>?_) (fun cdv A outer s H vs Q E hr h=>?_)
 ·obtain⟨wa,D,b,kvs,ro,rfl,_⟩:=h
  rfl
 ·obtain⟨wa,D,b,kvs,ro,rfl,W,k⟩:=h
  have xM:aO 2 _:=hr
  refine⟨_,(ai (aA (i:=1) i3.nd rfl (Or.inl rfl) (aK (bD K) (pv 0) ah (fun _ _=>rfl)))
  (ai (fU (i:=2) (aI.mk' (esc:=aj dr) (N:=["world","base","rows"]) (own:=["name"]) (aZ:=["world"]) (bJ:=[0]) rfl rfl (by decide+kernel)) rfl (eE (aE (i7 rfl) (by rfl) T.jP iN (ae (aK (bD K) (pv 0) ah (fun _ _=>rfl)) ag))) (fun _ _ _ _=>(aS (i:=0) (show List.Nodup (["name","world"]:List Str) by decide+kernel) rfl (Or.inl rfl))) (fun _ _ _ _=>bU) (fun _ _ _ _=>(aD An xM rfl T.zU T.zW T.zX .nil bf (ae (pv 0) (ae (kL (lI hr) (aK (bD K) (pv 1) ah (fun _ _=>rfl)) (pv 0) (fun _ _=>rfl)) ag)))) i3.nd rfl rfl)
  (aq (aW (cP PySem.F.plainAttrs_str PySem.F.slot_str_join PySem.F.type_str_join (de K) ay (ae (ao bY (bo (ae (yv (BV (BW (pv 1) BU))) ag)) (pv 2)) ag)))))),?_⟩
  have b4:=W.four
  have r4:=W.few
  obtain⟨ks,ek,pk⟩:=W.ws.keys
  have lk:ks.length=ro.length:=by rw[pk.length_eq,List.length_map]
  refine⟨_,rfl,wa,_,_,_,rfl,rfl,.of W.wa,aB (j:=0) (v:=.int (b:Nat)) rfl,?_⟩
  refine⟨_,rfl,wa,_,_,_,rfl,rfl,.of W.wa,aB (j:=1) (v:=.ref D) rfl,D,kvs,ks,rfl,W.dict,ek,by omega,fun S ss hS pm so=>?_⟩
  rw[W.ws.sorted ek pm so]
  have sS:=Same.new (o:=.lst ((ro.map (·.1)).map V.str)) hS
  have eS:(upd H S (.lst ((ro.map (·.1)).map V.str))) S=some (.lst ((ro.map (·.1)).map V.str)):=af
  generalize upd H S (.lst ((ro.map (·.1)).map V.str))=H1 at sS eS ⊢
  refine⟨S,rfl,⟨_,.of eS⟩,fun C hC=>?_⟩
  refine eK (xs:=(ro.map (·.1)).map V.str) (fun i σ H'=>∃v:Option V,σ=[v,some (.ref wa)]∧Same H1 H'∧H' C=some (.lst (((ro.take i).map fun p=>txt (cA p.1 p.2)).map V.str)))
   ⟨none,rfl,Same.new hC,af⟩ (fun i σ H' _ ⟨_,_,s,_⟩=>.of (s _ _ eS)) ?_ ?_
  ·rintro i y σ H2 hy ⟨v,rfl,s2,eC⟩
   obtain⟨m,rfl,em⟩:=gN hy
   obtain⟨rm,er⟩:=Fd em
   have hp:(m,rm)∈ro:=List.mem_of_getElem? er
   have hi:=(List.getElem?_eq_some_iff.mp er).1
   have CI:=sS.trans s2
   obtain⟨r,e1,e2⟩:=(W.ws.keep CI.kt).rows _ hp
   refine⟨_,rfl,_,rfl,wa,_,_,_,rfl,rfl,.of (CI _ _ W.wa),aB (j:=1) (v:=.ref D) rfl,_,rfl,D,.ref r,rfl,pT (.inl (CI _ _ W.dict)) e1,m,r,rm,b,rfl,e2,W.ok _ hp,b4,fun H3 s3=>⟨_,s3 _ _ eC,?_,_,rfl,(s2.trans s3).kbn hC KB.write,?_⟩⟩
   ·rw[List.length_map,List.length_map,List.length_take];exact Nat.lt_of_lt_of_le (show min i ro.length<100 by omega) (by decide)
   ·rw[af,List.take_add_one,er,List.map_append,List.map_append];rfl
  ·rintro σ H2 ⟨v,rfl,s2,eC⟩
   rw[List.length_map,List.length_map,List.take_length] at eC
   have CI:=sS.trans s2
   have hb:b<10:=by omega
   have e0:(Str.empty++Str.ofString "base ").length=5:=by decide+kernel
   have ct:ak (Str.empty++Str.ofString "base ")=[98,97,115,101,32]:=by decide+kernel
   refine⟨rfl,by rw[e0];decide,_,rfl,.inl ⟨_,rfl,k_ hb,by rw[strLen_append,e0,gb hb];decide,by rw[strLen_append,e0,gb hb];decide,by show 1≤sizeLine;decide,fun L hL=>?_⟩⟩
   rw[sO hb ct]
   refine⟨_,rfl,L,C,_,_,rfl,rfl,af,(Same.new hL) _ _ eC,?_,fun M hM=>?_⟩
   ·rw[List.length_map,List.length_map];exact Nat.le_trans (show 1+ro.length≤100 by omega) (by decide)
   have sM:=(CI.trans (Same.new (o:=.lst [.str (txt (eP b))]) hL)).trans (Same.new (o:=.lst ([.str (txt (eP b))]++(ro.map fun p=>txt (cA p.1 p.2)).map V.str)) hM)
   refine⟨_,M,bL b ro,rfl,rfl,.of af,?_,fun z hz ez=>?_⟩
   ·have h2:(Str.ofString "\n").length=1:=by decide+kernel
    have h3:=nV (l:=ro.map fun p=>txt (cA p.1 p.2)) (k:=200) (fun x hx=>by
     obtain⟨q,hq,rfl⟩:=List.mem_map.mp hx
     rw[gT]
     exact qJ (W.ok q hq) b4)
    rw[List.length_map] at h3
    have h4:(eP b).length=6:=rfl
    unfold bL
    rw[List.map_cons,List.sum_cons,h2,List.length_cons,List.length_map,gT,h4]
    omega
   ·have Jw:z=txt (pY b ro):=by
     refine ft ?_
     show ak _=ak _
     rw[ez,CG,aJ,iR]
     rfl
    rw[Jw]
    exact k _ sM
theorem gf:bj ["_law_world_here","_law_lines_here","_law_name","_law_signs","_law_moves","_law_words"] ["_law_world_here"] (aj fM):=⟨rfl,rfl,rfl,by decide+kernel,rfl,by decide+kernel,by decide+kernel⟩
theorem Ao {a:fc} (T:Txt K mg a):bC P w K mg base dE 1 a.j_ a.lV ["_law_world_here"] GL:=by
 refine T.Cc.ok gf (fun vs H Q E h=>?_) (fun cdv A outer s H vs Q E hr h=>?_)
 ·obtain⟨wa,D,b,kvs,ro,rfl,_⟩:=h
  rfl
 ·obtain⟨wa,D,b,kvs,ro,rfl,W,k⟩:=h
  refine⟨_,(ai (aA (i:=1) gf.nd rfl (Or.inl rfl) (bo (ae (ao bb ay (bE gY (by rfl) T.t8 pG (ae (aK (bD K) (pv 0) ah (fun _ _=>rfl)) ag))) ag)))
  (ai (gX PassesOwn.never rfl (eE (aE (i7 rfl) (by rfl) T.jP iN (ae (aK (bD K) (pv 0) ah (fun _ _=>rfl)) ag))) (aS (i:=2) gf.nd rfl (Or.inl rfl))
   (ai (mP (kL (lI hr) (aK (bD K) (pv 0) ah (fun _ _=>rfl)) (pv 2) (fun _ _=>rfl)) (oZ rfl (dP (aS (i:=3) gf.nd rfl (Or.inl rfl)) (dP (aS (i:=4) gf.nd rfl (Or.inl rfl)) kC))))
   (ai (fU (i:=5) (aI.mk' (esc:=aj fM) (N:=["_law_world_here","_law_lines_here","_law_name","_law_signs","_law_moves","_law_words"]) (own:=["_law_sign","_law_row_here"]) (aZ:=[]) (bJ:=[]) rfl rfl (by decide+kernel)) rfl (yq rfl T.ER (ae (pv 3) (ae (pv 4) ag))) (fun _ _ _ _=>(yj K (n:=2) rfl (dP (aS (i:=0) (show List.Nodup (["_law_sign","_law_row_here"]:List Str) by decide+kernel) rfl (Or.inl rfl)) (dP (aS (i:=1) (show List.Nodup (["_law_sign","_law_row_here"]:List Str) by decide+kernel) rfl (Or.inl rfl)) kC)))) (fun _ _ _ _=>bU) (fun _ _ _ _=>(ao bb (yv (BW (pv 0) (BV BU))) (Iz K PySem.F.plainAttrs_str PySem.F.slot_str_join PySem.F.type_str_join (de K) ay (ae (fk (aI.mk' (esc:=_) (N:=["_law_sign","_law_row_here"]) (own:=["_law_room"]) (aZ:=[]) (bJ:=[]) rfl rfl (by rfl)) rfl (Gb K (pv 1)) (fun _ _ _ _=>(aS (i:=0) (show List.Nodup (["_law_room"]:List Str) by decide+kernel) rfl (Or.inl rfl))) (fun _ _ _ _=>bU) (fun _ _ _ _=>(bE gY (by rfl) T.t8 pG (ae (pv 0) ag)))) ag)))) gf.nd rfl rfl)
   (aq (eh (cP PySem.F.plainAttrs_list PySem.F.slot_list_append PySem.F.type_list_append fH (pv 1) (ae (ao bb (ao bb (ao bb ay (pv 2)) ay) (cP PySem.F.plainAttrs_str PySem.F.slot_str_join PySem.F.type_str_join (de K) ay (ae (pv 5) ag))) ag)))))))
  (aq (aW (pv 1))))),?_⟩
  have b4:=W.four
  have r4:=W.few
  obtain⟨ks,ek,pk⟩:=W.ws.keys
  have lk:ks.length=ro.length:=by rw[pk.length_eq,List.length_map]
  have hb:b<10:=by omega
  have e5:(Str.ofString "base ").length=5:=by decide+kernel
  refine⟨_,rfl,wa,_,_,_,rfl,rfl,.of W.wa,aB (j:=0) (v:=.int (b:Nat)) rfl,_,rfl,k_ hb,_,_,rfl,rfl,by rw[e5,gb hb];decide,by show 1≤sizeLine;decide,fun L hL=>?_⟩
  rw[sO hb DZ]
  have sL:=Same.new (o:=.lst [.str (txt (eP b))]) hL
  have eL:(upd H L (.lst [.str (txt (eP b))])) L=some (.lst ((bL b (ro.take 0)).map V.str)):=af
  generalize upd H L (.lst [.str (txt (eP b))])=H0 at sL eL ⊢
  refine⟨_,rfl,wa,_,_,_,rfl,rfl,.of (sL _ _ W.wa),aB (j:=1) (v:=.ref D) rfl,D,kvs,ks,rfl,sL _ _ W.dict,ek,by omega,fun S ss hS pm so=>?_⟩
  rw[W.ws.sorted ek pm so]
  have sS:=Same.new (o:=.lst ((ro.map (·.1)).map V.str)) hS
  have eS:(upd H0 S (.lst ((ro.map (·.1)).map V.str))) S=some (.lst ((ro.map (·.1)).map V.str)):=af
  have sP:=sS _ _ eL
  have sS:=sL.trans sS
  have RT:S≠L:=(aH eL hS).symm
  generalize upd H0 S (.lst ((ro.map (·.1)).map V.str))=H1 at sS eS sP ⊢
  refine⟨S,rfl,⟨_,.of eS⟩,oJ (xs:=(ro.map (·.1)).map V.str) (fun i σ H'=>∃v2 v3 v4 v5:Option V,σ=[some (.ref wa),some (.ref L),v2,v3,v4,v5]∧Same H H'∧H' S=some (.lst ((ro.map (·.1)).map V.str))∧H' L=some (.lst ((bL b (ro.take i)).map V.str)))
   ⟨none,none,none,none,rfl,sS,eS,sP⟩ (fun i σ H' _ ⟨_,_,_,_,_,_,h,_⟩=>.of h) ?_ ?_⟩
  ·rintro i y σ H2 hy ⟨v2,v3,v4,v5,rfl,s2,we,cX⟩
   obtain⟨m,rfl,em⟩:=gN hy
   obtain⟨rm,er⟩:=Fd em
   have hp:(m,rm)∈ro:=List.mem_of_getElem? er
   have hi:=(List.getElem?_eq_some_iff.mp er).1
   obtain⟨r,RU,sa,ma,ps,e1,e2,e3,tp⟩:=(W.ws.keep s2.kt).rows _ hp
   have ok:=W.ok _ hp
   have lp:ps.length=rm.length:=by rw[Paired.length tp,List.length_map,List.length_map]
   have r8:rm.length≤8:=ok.2.2.1
   have nl:m.length≤3:=(cL ok.1).2.1
   refine⟨_,rfl,wa,_,_,_,rfl,rfl,.of (s2 _ _ W.wa),aB (j:=1) (v:=.ref D) rfl,_,rfl,D,.ref r,rfl,pT (.inl (s2 _ _ W.dict)) RU,r,_,rfl,.of e1,rfl,_,_,rfl,_,_,rfl,rfl,?_⟩
   refine⟨_,rfl,_,rfl,_,_,rfl,⟨_,.of e2⟩,⟨_,.of e3⟩,fun C hC=>?_⟩
   refine r_ (xs:=(av (rm.map (·.1))).map V.int) (ys:=ps.map V.ref) (fun i σ H'=>∃v0 v1:Option V,σ=[v0,v1]∧Same H2 H'∧H' C=some (.lst (((rm.take i).map fun p=>txt (bS p.1 p.2)).map V.str))) (by rw[List.length_map,aY,List.length_map,List.length_map,lp])
    ⟨none,none,rfl,Same.new hC,af⟩ (fun i σ H' _ ⟨_,_,_,s,_⟩=>⟨.of (s _ _ e2),.of (s _ _ e3)⟩) ?_ ?_
   ·rintro i y y2 p σ H3 hy hy2 ⟨v0,v1,rfl,s3,eC⟩ hp
    obtain⟨n,rfl,en⟩:=nN hy
    obtain⟨q,rfl,eq⟩:=jm hy2
    obtain⟨l,el,e4⟩:=Ju tp eq
    rw[List.getElem?_map] at el
    cases em:rm[i]? with
    | none=>rw[em] at el;cases el
    | some pr=>
     rw[em] at el
     have Jv:pr.2=l:=Option.some.inj el
     subst Jv
     rw[jS,List.getElem?_map,em] at en
     have en':((pr.1:Nat):Int)=n:=Option.some.inj en
     subst en'
     have hi:=(List.getElem?_eq_some_iff.mp em).1
     obtain⟨hs,hl,l10⟩:=ok.2.2.2 pr (List.mem_of_getElem? em)
     have ll:pr.2.length≤4:=by omega
     have sp:=s3.trans (Same.new (o:=.tup [.int (pr.1:Nat),.ref q]) hp)
     have Fe:=(Same.new (o:=.tup [.int (pr.1:Nat),.ref q]) hp) _ _ eC
     have Jx:(upd H3 p (.tup [.int (pr.1:Nat),.ref q])) p=some (.tup [.int (pr.1:Nat),.ref q]):=af
     refine⟨p,_,rfl,.of Jx,rfl,_,_,rfl,_,_,rfl,rfl,?_⟩
     generalize upd H3 p (.tup [.int (pr.1:Nat),.ref q])=H4 at sp Fe
     have z0:(Str.empty++Str.ofString (toString ((pr.1:Nat):Int))).length=1:=by rw[strLen_append,gb hs];rfl
     have z1:(Str.ofString ":").length=1:=by decide+kernel
     have z2:(Str.empty++Str.ofString (toString ((pr.1:Nat):Int))++Str.ofString ":").length=2:=by rw[strLen_append,z0,z1]
     refine⟨_,rfl,.inl ⟨_,rfl,k_ hs,by rw[z0];decide,by rw[z2];decide,by rw[z2];decide,rfl,_,rfl,q,rfl,⟨_,.of (sp _ _ e4)⟩,fun C2 E8=>wj (sp _ _ e4) ll l10 E8 rfl fun H5 s5 vY=>?_⟩⟩
     refine⟨_,C2,_,rfl,rfl,.of vY,sN ll l10,fun z hz ez=>⟨_,_,rfl,rfl,?_,?_⟩⟩
     ·rw[z2]
      have h1:=gc (c:=46) ((pr.2.map fun x=>Str.ofString (toString ((x:Nat):Int))).map ak)
      have h2:z.length≤16777000:=by
       rw[bH,ez,wg]
       refine Nat.le_trans h1 ?_
       have:=gx (l:=((pr.2.map fun x=>Str.ofString (toString ((x:Nat):Int))).map ak).map List.length) (k:=1) (fun y hy=>by
        obtain⟨q,hq,rfl⟩:=List.mem_map.mp hy
        obtain⟨q2,hq2,rfl⟩:=List.mem_map.mp hq
        obtain⟨x,hx,rfl⟩:=List.mem_map.mp hq2
        exact Nat.le_of_eq (by rw[←bH];exact gb (l10 x hx)))
       simp only[List.length_map] at this ⊢
       omega
      rw[PySem.sizeLine_eq]
      omega
     ·rw[ez,pX hs l10 (by rw[a_,a_,kZ hs,oy];rfl)]
      refine⟨_,s5 _ _ Fe,?_,_,_,rfl,(sp.trans s5).kbn hC KB.write,?_⟩
      ·rw[List.length_map,List.length_map,List.length_take];exact Nat.lt_of_lt_of_le (show min i rm.length<100 by omega) (by decide)
      ·rw[af,List.take_add_one,em,List.map_append,List.map_append];rfl
   ·rintro σ H3 ⟨v0,v1,rfl,s3,eC⟩
    rw[List.length_map,aY,List.length_map,List.take_length] at eC
    have vX:=s3 _ _ cX
    have h4:(Str.ofString "row ").length=4:=by decide+kernel
    have h1:(Str.ofString " ").length=1:=by decide+kernel
    have h3:=nV (l:=rm.map fun p=>txt (bS p.1 p.2)) (k:=10) (fun x hx=>by
     obtain⟨q,hq,rfl⟩:=List.mem_map.mp hx
     rw[gT]
     have:=lg (ok.2.2.2 q hq)
     omega)
    rw[List.length_map] at h3
    refine⟨_,rfl,.inl ⟨rfl,_,.of vX⟩,_,rfl,_,_,rfl,rfl,by rw[h4,PySem.sizeLine_eq];omega,_,_,rfl,rfl,by rw[strLen_append,h4,h1,PySem.sizeLine_eq];omega,rfl,_,rfl,_,C,_,rfl,rfl,.of eC,?_,fun z hz ez=>?_⟩
    ·rw[h1,List.length_map];omega
    have hz2:z.length≤1000:=by
     rw[bH,ez,pW]
     refine Nat.le_trans (gc (c:=32) _) ?_
     have:=gx (l:=((rm.map fun p=>txt (bS p.1 p.2)).map ak).map List.length) (k:=10) (fun y hy=>by
      obtain⟨q,hq,rfl⟩:=List.mem_map.mp hy
      obtain⟨q2,hq2,rfl⟩:=List.mem_map.mp hq
      obtain⟨x,hx,rfl⟩:=List.mem_map.mp hq2
      rw[aJ]
      have:=lg (ok.2.2.2 x hx)
      omega)
     simp only[List.length_map] at this ⊢
     omega
    have et:(Str.ofString "row "++m++Str.ofString " ")++z=txt (cA m rm):=by
     refine ft ?_
     show ak _=ak _
     rw[a_,a_,a_,ez,pW,aJ,List.map_map]
     unfold cA
     have e1:ak (Str.ofString "row ")=[114,111,119,32]:=by decide+kernel
     have e2:ak (Str.ofString " ")=[32]:=by decide+kernel
     have ne:(rm.map fun p=>bS p.1 p.2)≠[]:=by
      have:1≤rm.length:=ok.2.1
      intro q
      have q2:=congrArg List.length q
      rw[List.length_map,List.length_nil] at q2
      omega
     rw[jl (by simp),jl ne,e1,e2]
     have e3:(rm.map (ak∘fun p:Nat×List Nat=>txt (bS p.1 p.2)))=rm.map fun p=>bS p.1 p.2:=List.map_congr_left fun p _=>aJ _
     rw[e3]
     simp
    refine⟨_,_,rfl,rfl,?_,?_⟩
    ·rw[strLen_append,strLen_append,h4,h1,PySem.sizeLine_eq];omega
    rw[et]
    refine⟨L,_,_,rfl,rfl,vX,?_,_,_,_,_,rfl,(s2.trans s3).kbn hL KB.write,?_,?_⟩
    ·rw[List.length_map]
     unfold bL
     rw[List.length_cons,List.length_map,List.length_take];exact Nat.lt_of_lt_of_le (show min i ro.length+1<100 by omega) (by decide)
    ·rw[aF RT];exact s3 _ _ we
    ·rw[af,List.take_add_one,er]
     unfold bL
     rw[List.map_append,←List.cons_append,List.map_append];rfl
  ·rintro σ H2 ⟨v2,v3,v4,v5,rfl,s2,we,cX⟩
   rw[List.length_map,List.length_map,List.take_length] at cX
   exact⟨_,rfl,k L H2 hL s2 cX⟩
def Clean (x:Str):Prop:=(∀c∈ak x,c<128∧c≠10∧c≠32)∧x.length≤20
def lh (b:Nat) (x:Str):Prop:=∀p:Nat×List Nat,fB b p→ak x≠bS p.1 p.2
def jq (b:Nat) (x:Str):Prop:=∃ps:List Str,ps≠[]∧ps.length≤2∧(∀p∈ps,Clean p)∧ak x=jn 32 (ps.map ak)∧∃p∈ps,lh b p
theorem nC {d c:Nat}:∀{xs:List (List Nat)},c∈jn d xs→c=d∨∃x∈xs,c∈x
 | [],h=>by cases h
 | [x],h=>.inr ⟨x,List.mem_singleton.mpr rfl,h⟩
 | x::y::r,h=>by
  rcases List.mem_append.mp (show c∈x++d::jn d (y::r) from h) with q | q
  ·exact .inr ⟨x,List.mem_cons_self,q⟩
  ·rcases List.mem_cons.mp q with e | e
   ·exact .inl e
   ·rcases nC e with z | ⟨z,hz,hc⟩
    ·exact .inl z
    ·exact .inr ⟨z,List.mem_cons_of_mem _ hz,hc⟩
theorem sQ {d e:Nat}:∀xs:List (List Nat),(jn d xs).length=(jn e xs).length
 | []=>rfl
 | [x]=>rfl
 | x::y::r=>by
  show(x++d::jn d (y::r)).length=(x++e::jn e (y::r)).length
  rw[List.length_append,List.length_append,List.length_cons,List.length_cons,sQ (y::r)]
theorem sR {c:Nat} {A B ps:List (List Nat)} (h:ps≠[]):jn c (A++[jn c ps]++B)=jn c (A++ps++B):=by
 have key:jn c ([jn c ps]++B)=jn c (ps++B):=by
  cases B with
  | nil=>rw[List.append_nil,List.append_nil];rfl
  | cons b B=>rw[jL c (by simp) (by simp),jL c h (by simp)];rfl
 cases A with
 | nil=>exact key
 | cons a A=>
  have h1:[jn c ps]++B≠[]:=by simp
  have h2:ps++B≠[]:=by intro z;exact h (List.append_eq_nil_iff.mp z).1
  rw[List.append_assoc,List.append_assoc,jL c (by simp) h1,jL c (by simp) h2,key]
theorem pZ:∀(x:Nat) (l:List Nat),(jn 46 ((x::l).map fun x=>[48+x])).length=2*l.length+1
 | x,[]=>rfl
 | x,y::l=>by
  show([48+x]++46::jn 46 ((y::l).map fun x=>[48+x])).length=_
  have:=pZ y l
  simp only[List.length_append,List.length_cons,List.length_nil]
  omega
theorem p_ {ls:List Nat} (h:∀x∈ls,x<10) {c:Nat} (hc:c∈jn 46 (ls.map fun x=>[48+x])):46≤c∧c≤57:=by
 rcases nC hc with e | ⟨x,hx,e⟩
 ·omega
 ·obtain⟨y,hy,rfl⟩:=List.mem_map.mp hx
  have:=List.mem_singleton.mp e
  have:=h y hy
  omega
theorem mr {b:Nat} {p:Nat×List Nat} (b2:2≤b) (h:fB b p):∃(x:Nat) (R:List Nat),bS p.1 p.2=(48+p.1)::58::(48+x)::46::R∧p.1<10∧x<10∧R.length+3=2*b∧∀c∈R,46≤c∧c≤57:=by
 obtain⟨s,ls⟩:=p
 obtain⟨hs,hl,hx⟩:=h
 match ls,hl,hx with
 | [],hl,_=>exact absurd hl (by show ¬0=b;omega)
 | [x],hl,_=>exact absurd hl (by show ¬1=b;omega)
 | x::y::l,hl,hx=>
  refine⟨x,_,rfl,hs,hx x List.mem_cons_self,?_,fun c hc=>p_ (ls:=y::l) (fun z hz=>hx z (List.mem_cons_of_mem _ hz)) hc⟩
  have e:=pZ y l
  have:l.length+1+1=b:=hl
  show(jn 46 ((y::l).map fun x=>[48+x])).length+3=2*b
  omega
theorem D_ {b:Nat} {p:Nat×List Nat} (b2:2≤b) (h:fB b p):(bS p.1 p.2).length=2*b+1:=by
 obtain⟨x,R,e,_,_,hl,_⟩:=mr b2 h
 rw[e]
 simp only[List.length_cons]
 omega
theorem oA {b:Nat} {x:Str} (b2:2≤b) (h:(ak x).length≠2*b+1):lh b x:=fun p hp e=>h (by rw[e];exact D_ b2 hp)
theorem Ap {b:Nat} {x:Str} {i c:Nat} (e:(ak x)[i]? =some c) (b2:2≤b) (h:(i=0∧58≤c)∨(i=1∧c≠58)∨(i=2∧c<48)∨(i=3∧c≠46)):lh b x:=fun p hp e2=>by
 obtain⟨y,R,e3,hs,hy,_⟩:=mr b2 hp
 rw[e2,e3] at e
 rcases h with⟨rfl,hc⟩ | ⟨rfl,hc⟩ | ⟨rfl,hc⟩ | ⟨rfl,hc⟩
 ·have:=Option.some.inj (show some (48+p.1)=some c from e);omega
 ·exact hc (Option.some.inj (show some 58=some c from e)).symm
 ·have:=Option.some.inj (show some (48+y)=some c from e);omega
 ·exact hc (Option.some.inj (show some 46=some c from e)).symm
theorem qK {b:Nat} {x:Str} (c:Clean x) (h:lh b x):jq b x:=⟨[x],by simp,by simp,fun p hp=>List.mem_singleton.mp hp▸c,rfl,x,List.mem_singleton.mpr rfl,h⟩
theorem wq (a:Nat) (l:List Nat):m7 (a::l) (some 1) none=l:=by
 show((a::l).drop (min 1 (l.length+1))).take ((l.length+1)-min 1 (l.length+1))=l
 rw[show min 1 (l.length+1)=1 by omega]
 show l.take _=l
 exact List.take_of_length_le (by omega)
theorem GN (a c:Nat) (l:List Nat):m7 (a::c::l) none (some 2)=[a,c]:=by
 show((a::c::l).drop 0).take (min 2 (l.length+1+1)-0)=[a,c]
 rw[show min 2 (l.length+1+1)-0=2 by omega]
 rfl
theorem CJ (a c e:Nat) (l:List Nat):m7 (a::c::e::l) (some 3) none=l:=by
 show((a::c::e::l).drop (min 3 (l.length+1+1+1))).take ((l.length+1+1+1)-min 3 (l.length+1+1+1))=l
 rw[show min 3 (l.length+1+1+1)=3 by omega]
 show l.take _=l
 exact List.take_of_length_le (by omega)
theorem yC (l:List Nat) (k:Nat) (h0:0<k):m7 l none (some (-(k:Int)))=l.take (l.length-k):=by
 show(l.drop 0).take ((if(-(k:Int))<0 then(-(k:Int)+(l.length:Int)).toNat else min (-(k:Int)).toNat l.length)-0)=_
 rw[if_pos (by omega),show(-(k:Int)+(l.length:Int)).toNat-0=l.length-k by omega,List.drop_zero]
theorem mx (x z:Str) (c:Nat):Txt.replace x ⟨#[c]⟩ z=Str.join z (spl c x):=StrLaws.replace_one x z c
def D0 (z:Str):List Str:=[Str.ofString "",z++Str.ofString ".0",Txt.slice z none (some (-2)),Str.ofString "x"++Txt.slice z (some 1) none,Txt.slice z (some 1) none,z++Str.ofString "0",Txt.replace z (Str.ofString ":") (Str.ofString ";")]
def D3 (z:Str):List Str:=[Txt.replace z (Str.ofString ".") (Str.ofString ","),Str.ofString "-"++z,Txt.slice z none (some 2)++Str.ofString "+"++Txt.slice z (some 3) none,z++Str.ofString " ",Str.ofString " "++z,Txt.slice z none (some (-1))]
def D4 (z:Str):List Str:=[Txt.replace z (Str.ofString ":") (Str.ofString ":."),Str.ofString "0"]
def wt (z:Str):List Str:=D0 z++D3 z++D4 z
section
variable {b:Nat} {p:Nat×List Nat} {z:Str}
theorem Aq {s:Nat} {R:List Nat} (hz:ak z=(48+s)::58::R) (hs:s<10) (hR:58 ∉ R):spl 58 z=[txt [48+s],txt R]:=by
 refine fK (by simp) (fun p hp=>?_) ?_
 ·rcases List.mem_cons.mp hp with q | q
  ·rw[q];show 58 ∉ ak (txt _);rw[aJ]
   intro z;have:=List.mem_singleton.mp z;omega
  ·rw[List.mem_singleton.mp q];show 58 ∉ ak (txt _);rw[aJ];exact hR
 ·show ak z=ak (txt _)++58::ak (txt _)
  rw[hz,aJ,aJ];rfl
theorem D5 (b2:2≤b) (b4:b≤4) (h:fB b p) (hz:ak z=bS p.1 p.2):∀x∈wt z,jq b x:=by
 obtain⟨y,R,e,hs,hy,hl,hR⟩:=mr b2 h
 have ez:ak z=(48+p.1)::58::(48+y)::46::R:=hz.trans e
 have lz:(ak z).length=2*b+1:=by rw[ez];simp only[List.length_cons];omega
 have cz:∀c∈ak z,c<128∧c≠10∧c≠32:=by
  intro c hc
  rw[ez] at hc
  simp only[List.mem_cons] at hc
  rcases hc with q | q | q | q | q
  ·omega
  ·omega
  ·omega
  ·omega
  ·have:=hR c q;omega
 have c1:ak (Str.ofString "")=[]:=by decide+kernel
 have c2:ak (Str.ofString ".0")=[46,48]:=by decide+kernel
 have c3:ak (Str.ofString "x")=[120]:=by decide+kernel
 have c4:ak (Str.ofString "0")=[48]:=by decide+kernel
 have c5:Str.ofString ":"=⟨#[58]⟩:=by decide+kernel
 have c6:Str.ofString ";"=⟨#[59]⟩:=by decide+kernel
 have c7:Str.ofString "."=⟨#[46]⟩:=by decide+kernel
 have c8:Str.ofString ","=⟨#[44]⟩:=by decide+kernel
 have c9:ak (Str.ofString "-")=[45]:=by decide+kernel
 have c10:ak (Str.ofString "+")=[43]:=by decide+kernel
 have c11:ak (Str.ofString " ")=[32]:=by decide+kernel
 have c12:Str.ofString ":."=⟨#[58,46]⟩:=by decide+kernel
 have clean:∀{x:Str} {ex:List Nat},ak x=ex→(∀c∈ex,c<128∧c≠10∧c≠32)→ex.length≤20→Clean x:=fun e h1 h2=>⟨by rw[e];exact h1,by rw[bH,e];exact h2⟩
 have MG:Clean z:=clean rfl cz (by omega)
 have e10:Clean (Str.ofString ""):=clean c1 (fun c h=>by cases h) (by decide)
 have n0:lh b (Str.ofString ""):=oA b2 (by rw[c1];show 0≠_;omega)
 have one:∀(x:Str) (ex:List Nat),ak x=ex→(∀c∈ex,c<128∧c≠10∧c≠32)→ex.length≤20→ex.length≠2*b+1→jq b x:=fun x ex e h1 h2 h3=>qK (clean e h1 h2) (oA b2 (by rw[e];exact h3))
 have Ff:∀(x:Str) (ex:List Nat) (i c:Nat),ak x=ex→(∀c∈ex,c<128∧c≠10∧c≠32)→ex.length≤20→ex[i]? =some c→((i=0∧58≤c)∨(i=1∧c≠58)∨(i=2∧c<48)∨(i=3∧c≠46))→jq b x:=fun x ex i c e h1 h2 h3 h4=>qK (clean e h1 h2) (Ap (by rw[e];exact h3) b2 h4)
 have RV:58 ∉ (48+y)::46::R:=by
  intro q
  simp only[List.mem_cons] at q
  rcases q with q | q | q
  ·omega
  ·omega
  ·have:=hR _ q;omega
 have MH:=Aq ez hs RV
 have Fg:∀c∈(48+y)::46::R,c<128∧c≠10∧c≠32:=fun c hc=>cz c (by rw[ez];exact List.mem_cons_of_mem _ (List.mem_cons_of_mem _ hc))
 have lR:((48+y)::46::R).length=2*b-1:=by simp only[List.length_cons];omega
 have iS:∀{A:List Nat} {q:Nat},(∀c∈A,c<128∧c≠10∧c≠32)→(q<128∧q≠10∧q≠32)→∀c∈q::A,c<128∧c≠10∧c≠32:=fun hA hq c hc=>(List.mem_cons.mp hc).elim (fun e=>e▸hq) (hA c)
 have MI:∀{A B:List Nat},(∀c∈A,c<128∧c≠10∧c≠32)→(∀c∈B,c<128∧c≠10∧c≠32)→∀c∈A++B,c<128∧c≠10∧c≠32:=fun hA hB c hc=>(List.mem_append.mp hc).elim (hA c) (hB c)
 have Jy:∀c∈([]:List Nat),c<128∧c≠10∧c≠32:=fun c hc=>by cases hc
 have ok:∀{q:Nat},33≤q→q<128→(q<128∧q≠10∧q≠32):=fun h1 h2=>⟨h2,by omega,by omega⟩
 intro x hx
 unfold wt D0 D3 D4 at hx
 simp only[List.cons_append,List.nil_append,List.mem_cons,List.not_mem_nil,or_false] at hx
 rcases hx with rfl | rfl | rfl | rfl | rfl | rfl | rfl | rfl | rfl | rfl | rfl | rfl | rfl | rfl | rfl
 ·exact qK e10 n0
 ·exact one _ (ak z++[46,48]) (by rw[a_,c2]) (MI cz (iS (iS Jy (ok (by decide) (by decide))) (ok (by decide) (by decide)))) (by simp only[List.length_append,List.length_cons,List.length_nil];omega) (by simp only[List.length_append,List.length_cons,List.length_nil];omega)
 ·exact one _ ((ak z).take ((ak z).length-2)) ((dS _ _ _).trans (yC (ak z) 2 (by decide))) (fun c hc=>cz c (List.mem_of_mem_take hc)) (by rw[List.length_take];omega) (by rw[List.length_take];omega)
 ·refine Ff _ (120::58::(48+y)::46::R) 0 120 (by rw[a_,c3];show[120]++ak (Txt.slice z (some 1) none)=_;rw[show ak (Txt.slice z (some 1) none)=_ from dS _ _ _,show z.cps.toList=_ from ez,wq];rfl) (iS (iS Fg (ok (by decide) (by decide))) (ok (by decide) (by decide))) (by simp only[List.length_cons];omega) rfl (.inl ⟨rfl,by decide⟩)
 ·refine one _ (58::(48+y)::46::R) (by rw[show ak (Txt.slice z (some 1) none)=_ from dS _ _ _,show z.cps.toList=_ from ez,wq]) (iS Fg (ok (by decide) (by decide))) (by simp only[List.length_cons];omega) (by simp only[List.length_cons];omega)
 ·exact one _ (ak z++[48]) (by rw[a_,c4]) (MI cz (iS Jy (ok (by decide) (by decide)))) (by simp only[List.length_append,List.length_cons,List.length_nil];omega) (by simp only[List.length_append,List.length_cons,List.length_nil];omega)
 ·refine Ff _ ((48+p.1)::59::(48+y)::46::R) 1 59 ?_ (iS (iS Fg (ok (by decide) (by decide))) (ok (by omega) (by omega))) (by simp only[List.length_cons];omega) rfl (.inr (.inl ⟨rfl,by decide⟩))
  rw[c5,c6,mx,MH]
  show ak (Str.join ⟨#[59]⟩ _)=_
  rw[show ak (Str.join ⟨#[59]⟩ _)=_ from df 59 _]
  show ak (txt _)++59::ak (txt _)=_
  rw[aJ,aJ];rfl
 ·have RW:spl 46 z=txt [48+p.1,58,48+y]::spl 46 (txt R):=by
   refine fK (by simp) (fun p hp=>?_) ?_
   ·rcases List.mem_cons.mp hp with q | q
    ·rw[q];show 46 ∉ ak (txt _);rw[aJ]
     intro z;simp only[List.mem_cons,List.not_mem_nil,or_false] at z;omega
    ·exact ve 46 _ p q
   ·show ak z=jn 46 (ak (txt _)::(spl 46 (txt R)).map ak)
    rw[jl (by simpa using nh 46 (txt R)),show jn 46 ((spl 46 (txt R)).map ak)=ak (txt R) from eX 46 _,aJ,aJ,ez];rfl
  have sj:jn 46 ((spl 46 (txt R)).map ak)=R:=(eX 46 (txt R)).trans (aJ R)
  refine Ff _ ((48+p.1)::58::(48+y)::44::jn 44 ((spl 46 (txt R)).map ak)) 3 44 ?_ (iS (iS (iS (iS ?_ (ok (by decide) (by decide))) (ok (by omega) (by omega))) (ok (by decide) (by decide))) (ok (by omega) (by omega))) ?_ rfl (.inr (.inr (.inr ⟨rfl,by decide⟩)))
  ·rw[c7,c8,mx,RW]
   show ak (Str.join ⟨#[44]⟩ _)=_
   rw[show ak (Str.join ⟨#[44]⟩ _)=_ from df 44 _]
   show jn 44 (ak (txt _)::(spl 46 (txt R)).map ak)=_
   rw[jl (by simpa using nh 46 (txt R)),aJ];rfl
  ·intro c hc
   rcases nC hc with e | ⟨x,hx,hc'⟩
   ·omega
   ·have:=hR c (by rw[←sj];exact vT hx hc')
    omega
  ·have:=sQ (d:=44) (e:=46) ((spl 46 (txt R)).map ak)
   rw[sj] at this
   simp only[List.length_cons]
   omega
 ·exact one _ (45::ak z) (by rw[a_,c9];rfl) (iS cz (ok (by decide) (by decide))) (by rw[List.length_cons];omega) (by rw[List.length_cons];omega)
 ·refine Ff _ ((48+p.1)::58::43::46::R) 2 43 ?_ (fun c hc=>?_) (by simp only[List.length_cons];omega) rfl (.inr (.inr (.inl ⟨rfl,by decide⟩)))
  ·rw[a_,a_,c10,show ak (Txt.slice z none (some 2))=_ from dS _ _ _,show ak (Txt.slice z (some 3) none)=_ from dS _ _ _,show z.cps.toList=_ from ez,GN,CJ];rfl
  ·simp only[List.mem_cons] at hc
   rcases hc with q | q | q | q | q
   ·omega
   ·omega
   ·omega
   ·omega
   ·have:=hR c q;omega
 ·exact⟨[z,Str.ofString ""],by simp,by simp,fun q hq=>by
   rcases List.mem_cons.mp hq with e | e
   ·exact e▸MG
   ·exact List.mem_singleton.mp e▸e10,by rw[a_,c11];show _=ak z++32::ak (Str.ofString "");rw[c1],Str.ofString "",by simp,n0⟩
 ·exact⟨[Str.ofString "",z],by simp,by simp,fun q hq=>by
   rcases List.mem_cons.mp hq with e | e
   ·exact e▸e10
   ·exact List.mem_singleton.mp e▸MG,by rw[a_,c11];show _=ak (Str.ofString "")++32::ak z;rw[c1];rfl,Str.ofString "",by simp,n0⟩
 ·exact one _ ((ak z).take ((ak z).length-1)) ((dS _ _ _).trans (yC (ak z) 1 (by decide))) (fun c hc=>cz c (List.mem_of_mem_take hc)) (by rw[List.length_take];omega) (by rw[List.length_take];omega)
 ·refine one _ ((48+p.1)::58::46::(48+y)::46::R) ?_ (iS (iS (iS Fg (ok (by decide) (by decide))) (ok (by decide) (by decide))) (ok (by omega) (by omega))) (by simp only[List.length_cons];omega) (by simp only[List.length_cons];omega)
  rw[c5,c12,mx,MH]
  show ak (txt [48+p.1]++⟨#[58,46]⟩++txt _)=_
  rw[a_,a_,aJ,aJ];rfl
 ·exact one _ [48] c4 (iS Jy (ok (by decide) (by decide))) (by simp) (by show 1≠_;omega)
end
def cu (y:Str):Prop:=(∀c∈ak y,c<128∧c≠10)∧y.length≤1000
def iB (b:Nat) (y:Str):Prop:=dY b y=none∧cu y
theorem words_of {y:Str} {ws:List Str} (h:ws≠[]) (cl:∀p∈ws,Clean p) (e:ak y=jn 32 (ws.map ak)):spl 32 y=ws:=fK h (fun p hp c=>((cl p hp).1 32 c).2.2 rfl) e
theorem jr {y:Str} {ws:List Str} (cl:∀p∈ws,Clean p) (n:ws.length≤30) (e:ak y=jn 32 (ws.map ak)):cu y:=by
 refine⟨fun c hc=>?_,?_⟩
 ·rw[e] at hc
  rcases nC hc with q | ⟨x,hx,hc'⟩
  ·omega
  ·obtain⟨p,hp,rfl⟩:=List.mem_map.mp hx
   have:=(cl p hp).1 c hc'
   exact⟨this.1,this.2.1⟩
 ·rw[bH,e]
  have h1:=gc (c:=32) (ws.map ak)
  have h2:=gx (l:=(ws.map ak).map List.length) (k:=20) (fun x hx=>by
   obtain⟨q,hq,rfl⟩:=List.mem_map.mp hx
   obtain⟨p,hp,rfl⟩:=List.mem_map.mp hq
   rw[←bH];exact(cl p hp).2)
  simp only[List.length_map] at h1 h2
  omega
theorem eQ {b:Nat} {y:Str} {ws:List Str} (e:spl 32 y=ws) (h:∀nm rest,ws=("row":Str)::nm::rest→nameB cf nm=true→rest.length≤8→(∀w∈rest,∃p,fB b p∧ak w=bS p.1 p.2)→False):dY b y=none:=by
 cases q:dY b y with
 | none=>rfl
 | some r=>
  obtain⟨nm,rs⟩:=r
  obtain⟨ws',e',ok,pr⟩:=mn q
  refine(h nm ws' (e.symm.trans e') ok.1 (by rw[Paired.length pr];exact ok.2.2.1) fun w hw=>?_).elim
  have:∀{l:List Str} {m:List (Nat×List Nat)},Paired (fun w p=>ak w=bS p.1 p.2) l m→(∀r∈m,fB b r)→∀w∈l,∃p,fB b p∧ak w=bS p.1 p.2:=by
   intro l m pr
   induction pr with
   | nil=>intro _ w hw;cases hw
   | cons h t ih=>
    intro ok w hw
    rcases List.mem_cons.mp hw with z | z
    ·exact⟨_,ok _ List.mem_cons_self,z▸h⟩
    ·exact ih (fun r hr=>ok r (List.mem_cons_of_mem _ hr)) w z
  exact this pr ok.2.2.2 w hw
theorem tR {b:Nat} {y x:Str} {pre post:List Str} (h2:2≤pre.length) (n:pre.length+post.length≤20) (cl1:∀p∈pre,Clean p) (cl2:∀p∈post,Clean p) (bp:jq b x) (e:ak y=jn 32 ((pre++[x]++post).map ak)):iB b y:=by
 obtain⟨ps,ne,lp,cl,ex,p,hp,np⟩:=bp
 have e2:ak y=jn 32 ((pre++ps++post).map ak):=by
  rw[e,List.map_append,List.map_append,List.map_cons,List.map_nil,ex,sR (by simpa using ne),List.map_append,List.map_append]
 have j7:∀p∈pre++ps++post,Clean p:=fun p hp=>by
  rcases List.mem_append.mp hp with q | q
  ·rcases List.mem_append.mp q with q | q
   ·exact cl1 p q
   ·exact cl p q
  ·exact cl2 p q
 have ws:=words_of (by intro z;exact ne (List.append_eq_nil_iff.mp (List.append_eq_nil_iff.mp z).1).2) j7 e2
 refine⟨eQ ws fun nm rest er _ _ hr=>?_,jr j7 (by simp only[List.length_append];omega) e2⟩
 have hm:p∈rest:=by
  have e3:rest=(pre++ps++post).drop 2:=by rw[er];rfl
  rw[e3,List.append_assoc,List.drop_append_of_le_length h2]
  exact List.mem_append.mpr (.inr (List.mem_append.mpr (.inl hp)))
 obtain⟨q,hq,eq⟩:=hr p hm
 exact np q hq eq
def qL:List Str:=[Str.ofString "Row",Str.ofString "rows",Str.ofString "",Str.ofString "row row"]
theorem CK {b:Nat} {y x:Str} {rest:List Str} (hx:x∈qL) (n:rest.length≤20) (cl:∀p∈rest,Clean p) (e:ak y=jn 32 (([x]++rest).map ak)):iB b y:=by
 have key:∀z∈[Str.ofString "Row",Str.ofString "rows",Str.ofString "",Str.ofString "row"],Clean z:=by
  unfold Clean ak
  decide+kernel
 have plain:x∈[Str.ofString "Row",Str.ofString "rows",Str.ofString ""]→iB b y:=fun hx'=>by
  have j7:∀p∈[x]++rest,Clean p:=fun p hp=>by
   rcases List.mem_append.mp hp with q | q
   ·rw[List.mem_singleton.mp q]
    refine key x ?_
    simp only[List.mem_cons,List.not_mem_nil,or_false] at hx' ⊢
    rcases hx' with h | h | h
    ·exact .inl h
    ·exact .inr (.inl h)
    ·exact .inr (.inr (.inl h))
   ·exact cl p q
  refine⟨eQ (words_of (by simp) j7 e) fun nm r er _ _ _=>?_,jr j7 (by simp only[List.length_append,List.length_singleton];omega) e⟩
  have e0:x=("row":Str):=(List.cons.inj er).1
  rw[e0] at hx'
  exact absurd hx' (by decide+kernel)
 unfold qL at hx
 simp only[List.mem_cons,List.not_mem_nil,or_false] at hx plain
 rcases hx with h | h | h | h
 ·exact plain (.inl h)
 ·exact plain (.inr (.inl h))
 ·exact plain (.inr (.inr h))
 ·have ex:ak x=jn 32 ([Str.ofString "row",Str.ofString "row"].map ak):=by rw[h];decide+kernel
  have e2:ak y=jn 32 (([Str.ofString "row",Str.ofString "row"]++rest).map ak):=by
   rw[e,List.map_append,List.map_cons,List.map_nil,ex]
   have:=sR (c:=32) (A:=[]) (B:=rest.map ak) (ps:=[Str.ofString "row",Str.ofString "row"].map ak) (by simp)
   rw[List.nil_append,List.nil_append] at this
   rw[this,List.map_append]
  have j7:∀p∈[Str.ofString "row",Str.ofString "row"]++rest,Clean p:=fun p hp=>by
   rcases List.mem_append.mp hp with q | q
   ·refine key p ?_
    simp only[List.mem_cons,List.not_mem_nil,or_false,or_self] at q
    rw[q];simp
   ·exact cl p q
  refine⟨eQ (words_of (by simp) j7 e2) fun nm r er hn _ _=>?_,jr j7 (by simp only[List.length_append,List.length_cons,List.length_nil];omega) e2⟩
  have e0:Str.ofString "row"=nm:=(List.cons.inj (List.cons.inj er).2).1
  rw[←e0] at hn
  exact absurd hn (by decide+kernel)
def D6 (x:Str):Str:=⟨x.cps.map PyProof.Rows.lo1⟩
def qM (nm:Str):List Str:=[Str.ofString "",D6 nm,nm++Str.ofString "0",nm++nm++nm++nm,Str.ofString "A-B"]
theorem wu {nm:Str} (hn:nameB cf nm=true):∀x∈qM nm,Clean x∧nameB cf x=false:=by
 obtain⟨n1,n3,ng⟩:=cL hn
 have cn:∀c∈ak nm,c<128∧c≠10∧c≠32:=fun c hc=>by have:=ng c hc;omega
 have no:∀{x:Str},(nameB cf x=true→False)→nameB cf x=false:=fun {x} h=>by
  cases q:nameB cf x with
  | false=>rfl
  | true=>exact(h q).elim
 have c0:ak (Str.ofString "0")=[48]:=by decide+kernel
 intro x hx
 unfold qM at hx
 simp only[List.mem_cons,List.not_mem_nil,or_false] at hx
 rcases hx with rfl | rfl | rfl | rfl | rfl
 ·exact⟨by unfold Clean ak;decide+kernel,by decide+kernel⟩
 ·have el:ak (D6 nm)=(ak nm).map PyProof.Rows.lo1:=by unfold D6 ak;simp
  have lo:∀c,65≤c∧c≤90→PyProof.Rows.lo1 c=c+32:=fun c hc=>by
   have:∀k:Fin 26,PyProof.Rows.lo1 (65+k.val)=65+k.val+32:=by decide+kernel
   have:=this ⟨c-65,by omega⟩
   rw[show 65+(c-65)=c by omega] at this
   exact this
  refine⟨⟨fun c hc=>?_,?_⟩,no fun h=>?_⟩
  ·rw[el] at hc
   obtain⟨d,hd,rfl⟩:=List.mem_map.mp hc
   have:=ng d hd
   rw[lo d this];omega
  ·rw[bH,el,List.length_map,←bH];omega
  ·obtain⟨_,_,g⟩:=cL h
   have hl:0<(ak nm).length:=by rw[←bH];omega
   have hm:(ak nm)[0]∈ak nm:=List.getElem_mem hl
   have h2:=g (PyProof.Rows.lo1 (ak nm)[0]) (by rw[el];exact List.mem_map.mpr ⟨_,hm,rfl⟩)
   rw[lo _ (ng _ hm)] at h2
   have:=ng _ hm
   omega
 ·refine⟨⟨fun c hc=>?_,?_⟩,no fun h=>?_⟩
  ·rw[a_,c0] at hc
   rcases List.mem_append.mp hc with q | q
   ·exact cn c q
   ·have:=List.mem_singleton.mp q;omega
  ·rw[bH,a_,c0,List.length_append,←bH];show _+1≤20;omega
  ·have:=(cL h).2.2 48 (by rw[a_,c0];simp)
   omega
 ·refine⟨⟨fun c hc=>?_,?_⟩,no fun h=>?_⟩
  ·rw[a_,a_,a_] at hc
   simp only[List.mem_append] at hc
   exact cn c (by rcases hc with((h | h) | h) | h<;>exact h)
  ·rw[bH,a_,a_,a_];simp only[List.length_append,←bH];omega
  ·have h3:=(cL h).2.1
   rw[bH,a_,a_,a_] at h3
   simp only[List.length_append,←bH] at h3
   omega
 ·exact⟨by unfold Clean ak;decide+kernel,by decide+kernel⟩
theorem Ar {b:Nat} {y x nm:Str} {rest:List Str} (hn:nameB cf nm=true) (hx:x∈qM nm) (n:rest.length≤20) (cl:∀p∈rest,Clean p) (e:ak y=jn 32 (([("row":Str),x]++rest).map ak)):iB b y:=by
 obtain⟨cx,nx⟩:=wu hn x hx
 have j7:∀p∈[("row":Str),x]++rest,Clean p:=fun p hp=>by
  rcases List.mem_append.mp hp with q | q
  ·rcases List.mem_cons.mp q with z | z
   ·rw[z];unfold Clean ak;decide+kernel
   ·rw[List.mem_singleton.mp z];exact cx
  ·exact cl p q
 refine⟨eQ (words_of (by simp) j7 e) fun nm' r er hn' _ _=>?_,jr j7 (by simp only[List.length_append,List.length_cons,List.length_nil];omega) e⟩
 have e0:x=nm':=(List.cons.inj (List.cons.inj er).2).1
 rw[←e0,nx] at hn'
 exact absurd hn' (by decide)
abbrev Rows:=List (Str×List (Nat×List Nat))
def gy:List Str→Option (Nat×Rows)
 | l0::ls=>match f_ l0 with
  | some b=>match bR (dY b) ls with
   | some rs=>if rs.length≤4∧rising (rs.map (·.1))=true then some (b,rs) else none
   | none=>none
  | none=>none
 | []=>none
theorem wx (z:Str):dN z=gy (spl 10 z):=by
 unfold dN gy
 cases spl 10 z with
 | nil=>rfl
 | cons a l=>rfl
def lj (ls:List Str):Prop:=ls≠[]∧ls.length≤12∧gy ls=none∧∀y∈ls,cu y
theorem jh {z:Str} {ls:List Str} (ne:ls≠[]) (n:ls.length≤12) (ok:∀y∈ls,cu y) (e:ak z=jn 10 (ls.map ak)):dN z=gy ls∧j4 z:=by
 refine⟨by rw[wx,fK ne (fun p hp c=>((ok p hp).1 10 c).2 rfl) e],fun c hc=>?_,?_⟩
 ·rw[show z.cps.toList=_ from e] at hc
  rcases nC hc with q | ⟨x,hx,hc'⟩
  ·omega
  ·obtain⟨p,hp,rfl⟩:=List.mem_map.mp hx
   exact((ok p hp).1 c hc').1
 ·rw[bH,e]
  have h1:=gc (c:=10) (ls.map ak)
  have h2:=gx (l:=(ls.map ak).map List.length) (k:=1000) (fun x hx=>by
   obtain⟨q,hq,rfl⟩:=List.mem_map.mp hx
   obtain⟨p,hp,rfl⟩:=List.mem_map.mp hq
   rw[←bH];exact(ok p hp).2)
  simp only[List.length_map] at h1 h2
  omega
theorem kK {b:Nat} (b2:2≤b) (b4:b≤4):f_ (txt (eP b))=some b:=by
 have:b=2∨b=3∨b=4:=by omega
 rcases this with rfl | rfl | rfl<;>decide+kernel
theorem p6 {b:Nat} {y:Str} {ls:List Str} (b2:2≤b) (b4:b≤4) (hy:y∈ls) (h:dY b y=none):gy (txt (eP b)::ls)=none:=by
 unfold gy
 dsimp only
 rw[kK b2 b4]
 dsimp only
 rw[iQ hy h]
theorem oB {b:Nat} {ro:Rows} (b2:2≤b) (b4:b≤4) (ok:∀p∈ro,dg b p):gy (bL b ro)=if ro.length≤4∧rising (ro.map (·.1))=true then some (b,ro) else none:=by
 unfold gy bL
 dsimp only
 rw[kK b2 b4]
 dsimp only
 rw[nU (ys:=ro) (gF fun p hp=>GK (by omega) (ok p hp) (aJ _))]
theorem p7 {b:Nat} {p:Nat×List Nat} (b4:b≤4) (h:fB b p):Clean (txt (bS p.1 p.2)):=by
 refine⟨fun c hc=>?_,?_⟩
 ·rw[aJ] at hc
  unfold bS at hc
  rcases List.mem_cons.mp hc with q | q
  ·have:=h.1;omega
  ·rcases List.mem_cons.mp q with q | q
   ·omega
   ·have:=p_ h.2.2 q;omega
 ·rw[gT]
  have:=lg h
  omega
theorem As {x:Str} (h:nameB cf x=true):Clean x:=by
 obtain⟨_,n3,g⟩:=cL h
 exact⟨fun c hc=>by have:=g c hc;omega,by omega⟩
def oW (p:Str×List (Nat×List Nat)):List Str:=p.2.map fun q=>txt (bS q.1 q.2)
def gU (p:Str×List (Nat×List Nat)):List Str:=[("row":Str),p.1]++oW p
theorem qN (p:Str×List (Nat×List Nat)):(gU p).map ak=[114,111,119]::ak p.1::p.2.map fun q=>bS q.1 q.2:=by
 unfold gU oW
 rw[List.map_append,List.map_map]
 show ak "row"::ak p.1::_=_
 have e:p.2.map (ak∘fun q:Nat×List Nat=>txt (bS q.1 q.2))=p.2.map fun q=>bS q.1 q.2:=List.map_congr_left fun q _=>aJ _
 rw[show ak "row"=[114,111,119] from j6,e]
 rfl
theorem Au {b:Nat} {p:Str×List (Nat×List Nat)} (b4:b≤4) (h:dg b p):∀x∈oW p,Clean x:=fun x hx=>by
 obtain⟨q,hq,rfl⟩:=List.mem_map.mp hx
 exact p7 b4 (h.2.2.2 q hq)
theorem CL:Clean ("row":Str):=by unfold Clean ak;decide+kernel
theorem j8 {b:Nat} {p:Str×List (Nat×List Nat)} (b4:b≤4) (h:dg b p):∀x∈gU p,Clean x:=fun x hx=>by
 rcases List.mem_append.mp hx with q | q
 ·rcases List.mem_cons.mp q with z | z
  ·exact z▸CL
  ·exact List.mem_singleton.mp z▸As h.1
 ·exact Au b4 h x q
theorem GO {b:Nat} {p:Str×List (Nat×List Nat)} {y:Str} (b4:b≤4) (h:dg b p) (e:ak y=cA p.1 p.2):spl 32 y=gU p:=words_of (by unfold gU;simp) (j8 b4 h) (by rw[e,qN];rfl)
theorem js (p:Str×List (Nat×List Nat)):(gU p).length=p.2.length+2:=by unfold gU oW;simp
theorem D7 {b:Nat} {p:Str×List (Nat×List Nat)} (b4:b≤4) (h:dg b p):cu (txt (cA p.1 p.2)):=by
 have:=h.2.2.1
 exact jr (j8 b4 h) (by rw[js];omega) (by rw[aJ,qN];rfl)
theorem sT {b:Nat} (b4:b≤4):cu (txt (eP b)):=by
 refine⟨fun c hc=>?_,by rw[gT];decide+revert⟩
 rw[aJ] at hc
 unfold eP at hc
 simp only[List.mem_cons,List.not_mem_nil,or_false] at hc
 omega
theorem gK {b:Nat} {ro:Rows} (b4:b≤4) (ok:∀p∈ro,dg b p):∀y∈bL b ro,cu y:=fun y hy=>by
 rcases List.mem_cons.mp hy with q | q
 ·exact q▸sT b4
 ·obtain⟨p,hp,rfl⟩:=List.mem_map.mp q
  exact D7 b4 (ok p hp)
def eT (ro:Rows):List Str:=ro.map fun p=>txt (cA p.1 p.2)
theorem Av (b:Nat) (ro:Rows):bL b ro=txt (eP b)::eT ro:=rfl
theorem my {b:Nat} {ro:Rows} (b2:2≤b) (b4:b≤4) (ok:∀p∈ro,dg b p) (n:ro.length≤11) (h:4<ro.length∨rising (ro.map (·.1))=false):lj (bL b ro):=by
 refine⟨by unfold bL;simp,by unfold bL;simp;omega,?_,gK b4 ok⟩
 rw[oB b2 b4 ok,if_neg]
 rintro⟨h1,h2⟩
 rcases h with h | h
 ·omega
 ·rw[h] at h2;cases h2
theorem ji {b:Nat} {ls:List Str} {y:Str} (b2:2≤b) (b4:b≤4) (ok:∀x∈ls,cu x) (n:ls.length≤11) (hy:y∈ls) (h:dY b y=none):lj (txt (eP b)::ls):=by
 refine⟨by simp,by simp;omega,p6 b2 b4 hy h,fun x hx=>?_⟩
 rcases List.mem_cons.mp hx with e | e
 ·exact e▸sT b4
 ·exact ok x e
def qO:List Str:=[Str.ofString "base 1",Str.ofString "base 5",Str.ofString "base",Str.ofString "base 02",Str.ofString "base 2 ",Str.ofString "Base 2",Str.ofString "",Str.ofString "base  2",Str.ofString "base 2 3",Str.ofString "base x"]++[Str.ofString " base 2"]
theorem GP:∀x∈qO,f_ x=none∧cu x:=by
 unfold qO cu ak
 decide+kernel
theorem Aw {ls:List Str} {x:Str} (hx:x∈qO) (ok:∀x∈ls,cu x) (n:ls.length≤11):lj (x::ls):=by
 obtain⟨hb,hl⟩:=GP x hx
 refine⟨by simp,by simp;omega,?_,fun y hy=>?_⟩
 ·unfold gy;dsimp only;rw[hb]
 ·rcases List.mem_cons.mp hy with e | e
  ·exact e▸hl
  ·exact ok y e
theorem qP {b:Nat} {ro:Rows} (b4:b≤4) (ok:∀p∈ro,dg b p) (ne:ro≠[]) (n:ro.length≤11):lj (eT ro):=by
 refine⟨by unfold eT;simpa using ne,by unfold eT;simp;omega,?_,fun y hy=>gK b4 ok y (List.mem_cons_of_mem _ hy)⟩
 match ro,ne with
 | p::ro,_=>
  have hb:f_ (txt (cA p.1 p.2))=none:=by
   have h0:(ak (txt (cA p.1 p.2)))[0]? =some 114:=by
    rw[aJ]
    unfold cA
    rw[jl (by simp)]
    rfl
   unfold f_
   rw[if_neg (fun z=>by rw[z] at h0;revert h0;decide+kernel),if_neg (fun z=>by rw[z] at h0;revert h0;decide+kernel),if_neg (fun z=>by rw[z] at h0;revert h0;decide+kernel)]
  unfold gy eT
  rw[List.map_cons]
  dsimp only
  rw[hb]
theorem Ax {ns:List Str} {x:Str} (h:x∈ns):rising (ns++[x])=false:=by
 unfold rising
 rw[decide_eq_false (p:=(ns++[x]).Nodup) (fun z=>?_),Bool.and_false]
 rw[List.nodup_append] at z
 exact z.2.2 x h x (List.mem_singleton.mpr rfl) rfl
theorem Ay {ns:List Str} (h:rising ns=true) (n:2≤ns.length):rising ns.reverse=false:=by
 cases q:rising ns.reverse with
 | false=>rfl
 | true=>
  unfold rising at h q
  rw[Bool.and_eq_true] at h q
  have h0:=of_decide_eq_true h.2
  have e0:ns.reverse[0]? =some ns[ns.length-1]:=by rw[List.getElem?_reverse (by omega)];rw[List.getElem?_eq_getElem];rfl
  have e1:ns.reverse[ns.length-1]? =some ns[0]:=by rw[List.getElem?_reverse (by omega),show ns.length-1-(ns.length-1)=0 by omega,List.getElem?_eq_getElem]
  have l1:=i8 q.1 (Nat.zero_le _) e0 e1
  have l2:=i8 h.1 (Nat.zero_le (ns.length-1)) (List.getElem?_eq_getElem (by omega)) (List.getElem?_eq_getElem (by omega))
  have:ns[0]=ns[ns.length-1]:=ft (Std.le_antisymm l2 l1)
  have:=(List.getElem_inj h0).mp this
  omega
theorem D8 {b:Nat} {p:Str×List (Nat×List Nat)} {y:Str} (b4:b≤4) (h:dg b p) (e:ak y=cA p.1 p.2++(List.replicate 9 [32,48,58,48,46,48]).flatten):iB b y:=by
 have e2:ak y=jn 32 ((gU p++List.replicate 9 (txt [48,58,48,46,48])).map ak):=by
  rw[e,List.map_append,jL 32 (by unfold gU;simp) (by simp),qN]
  have:(32::jn 32 ((List.replicate 9 (txt [48,58,48,46,48])).map ak))=(List.replicate 9 [32,48,58,48,46,48]).flatten:=by
   rw[List.map_replicate,aJ];rfl
  rw[this];rfl
 have j7:∀x∈gU p++List.replicate 9 (txt [48,58,48,46,48]),Clean x:=fun x hx=>by
  rcases List.mem_append.mp hx with q | q
  ·exact j8 b4 h x q
  ·rw[(List.mem_replicate.mp q).2];unfold Clean ak txt;decide+kernel
 have h8:=h.2.2.1
 refine⟨eQ (words_of (by simp) j7 e2) fun nm rest er _ r8 _=>?_,jr j7 (by rw[List.length_append,js,List.length_replicate];omega) e2⟩
 have:=congrArg List.length er
 rw[List.length_append,js,List.length_replicate] at this
 simp only[List.length_cons] at this
 omega
theorem iT {b:Nat}:∀x∈[Str.ofString "",Str.ofString " ",Str.ofString "base 2",Str.ofString "row ZZZ"],iB b x:=by
 have k1:∀x∈[Str.ofString "",Str.ofString " ",Str.ofString "base 2",Str.ofString "row ZZZ"],cu x:=by unfold cu ak;decide+kernel
 intro x hx
 refine⟨?_,k1 x hx⟩
 simp only[List.mem_cons,List.not_mem_nil,or_false] at hx
 rcases hx with h | h | h | h
 ·refine eQ (ws:=[txt []]) (fK (by simp) (by unfold txt;decide) (by rw[h];decide+kernel)) fun nm rest er _ _ _=>?_
  exact absurd (congrArg List.length er) (by simp)
 ·refine eQ (ws:=[txt [],txt []]) (fK (by simp) (by unfold txt;decide) (by rw[h];decide+kernel)) fun nm rest er _ _ _=>?_
  exact absurd (List.cons.inj er).1 (by decide+kernel)
 ·refine eQ (ws:=[Str.ofString "base",Str.ofString "2"]) (fK (by simp) (by decide+kernel) (by rw[h];decide+kernel)) fun nm rest er _ _ _=>?_
  exact absurd (List.cons.inj er).1 (by decide+kernel)
 ·cases q:dY b x with
  | none=>rfl
  | some r=>
   obtain⟨nm,rs⟩:=r
   obtain⟨ws',e',ok,pr⟩:=mn q
   rw[show spl 32 x=[Str.ofString "row",Str.ofString "ZZZ"] from fK (by simp) (by decide+kernel) (by rw[h];decide+kernel)] at e'
   have l1:=congrArg List.length e'
   simp only[List.length_cons,List.length_nil] at l1
   have l2:=Paired.length pr
   have l3:1≤rs.length:=ok.2.1
   omega
section
variable {K:PySem.W.Frag} {H:Hp} {p l m:Addr} {xs zs:List V} {Q:VK}
theorem p8 (k:Nat) (e:H p=some (.lst xs)) (h:∀q H',H q=none→Same H H'→H' q=some (.lst (xs.take k))→Q (.ref q) H'):y4 K (.ref p) none (some (k:Int)) H Q:=⟨p,xs,rfl,.of e,fun q hq=>by rw[Jq];exact h q _ hq (Same.new hq) af⟩
theorem iU {σ:St} (k:Nat) (hk:k≤xs.length) (e:H p=some (.lst xs)) (h:∀q H',H q=none→Same H H'→H' q=some (.lst (xs.drop k))→Q (.ref q) H'):qh σ H fun u H3=>y4 K (.ref p) (some (k:Int)) u H3 Q:=⟨p,xs,rfl,.of e,fun q hq=>by rw[oS k xs hk];exact h q _ hq (Same.new hq) af⟩
theorem dO (e1:H l=some (.lst xs)) (e2:H m=some (.lst zs)) (n:xs.length+zs.length≤1000) (h:∀q H',H q=none→Same H H'→H' q=some (.lst (xs++zs))→Q (.ref q) H'):Hs (.ref l) (.ref m) H Q:=
 ⟨l,m,xs,zs,rfl,rfl,e1,e2,Nat.le_trans n (by decide),fun q hq=>h q _ hq (Same.new hq) af⟩
end
theorem ia {a b:Str} (ha:a.length≤100) (hb:b.length≤100):a.length+b.length≤sizeLine:=by rw[PySem.sizeLine_eq];omega
theorem KR (z:Str) (lo hi:Option Int):(Txt.slice z lo hi).length≤z.length:=by
 rw[bH,show ak (Txt.slice z lo hi)=_ from dS _ _ _,bH]
 unfold m7 ak
 rw[List.length_take,List.length_drop]
 omega
theorem wy {l:List Str} {k n:Nat} (h:∀x∈l,x.length≤k) (hn:l.length≤n):(l.map (·.length)).sum≤n*k:=Nat.le_trans (nV h) (Nat.mul_le_mul_right k hn)
def Az:Sp:=fun vs H Q _=>∃(d:Addr) (b:Nat) (p:Str×List (Nat×List Nat)),vs=[.ref d,.str (txt (cA p.1 p.2))]∧bA H d∧2≤b∧b≤4∧dg b p∧∀y H',KB d H H'→bA H' d→iB b y→Q (.str y) H'
theorem D9 {b:Nat} {x:Str} (h:jq b x):x.length≤100:=by
 obtain⟨ps,_,lp,cl,e,_⟩:=h
 rw[bH,e]
 have h1:=gc (c:=32) (ps.map ak)
 have h2:=gx (l:=(ps.map ak).map List.length) (k:=20) (fun x hx=>by
  obtain⟨q,hq,rfl⟩:=List.mem_map.mp hx
  obtain⟨p,hp,rfl⟩:=List.mem_map.mp hq
  rw[←bH];exact(cl p hp).2)
 simp only[List.length_map] at h1 h2
 omega
theorem mz {K:PySem.W.Frag} {H:Hp} {L:Addr} {l:List Str} {Q:VK} (e:H L=some (.lst (l.map V.str))) (h:∀x∈l,x.length≤100) (n:l.length≤30) (k:∀y:Str,ak y=jn 32 (l.map ak)→Q (.str y) H):rJoin K (.str (Str.ofString " ")) [.ref L] H Q:=by
 refine⟨Str.ofString " ",L,l,rfl,rfl,.of e,?_,fun z hz ez=>k z ?_⟩
 ·have h1:(Str.ofString " ").length=1:=by decide+kernel
  have h2:=wy h n
  rw[h1]
  omega
 ·rw[ez];exact pW l
theorem bN:bj ["_law_deck_here","_law_line","_law_words","_law_at","_law_word","_law_bad","_law_goes","_law_name","_law_some"] ["_law_deck_here","_law_line"] (aj dz):=⟨rfl,rfl,rfl,by decide+kernel,rfl,by decide+kernel,by decide+kernel⟩
theorem qQ {a:fc} (T:Txt K mg a):bC P w K mg base dE 2 a.gC a.iw ["_law_deck_here","_law_line"] Az:=by
 have aV:=fO (P:=P) (w:=w) (base:=base) T
 refine T.tG.ok bN (fun vs H Q E h=>?_) (fun cdv A outer s H vs Q E hr h=>?_)
 ·obtain⟨d,b,p,rfl,_⟩:=h
  rfl
 ·obtain⟨d,b,p,rfl,d0,b2,b4,ok,k⟩:=h
  have aN:aO 1 _:=hr
  refine⟨_,(BQ (Gd (i:=2) bN.nd rfl (Or.inl rfl) (IJ PySem.F.plainAttrs_str PySem.F.slot_str_split PySem.F.type_str_split jJ (pv 1)))
  (iO (PS.one (aA (i:=3) bN.nd rfl (Or.inl rfl) (ao cp ah (aD aV aN rfl T.bu T.bw T.bz .nil bf (ae (pv 0) (ae (ao jv (aE (aQ K) (by rfl) T.bT bK (ae (pv 2) ag)) ah) ag))))))
  (iO (PS.one (aA (i:=4) bN.nd rfl (Or.inl rfl) (aK (aU K) (pv 2) (pv 3) (fun _ _=>rfl))))
  (iO (qv (i:=5) bN.nd rfl (Or.inl rfl) (qu (cm (PE.one ay) (cm (PE.one (ao bb (pv 4) ay)) (cm (PE.one (br jE (pv 4) bG (bF (o5 mQ ah)))) (cm (PE.one (ao bb ay (br jE (pv 4) (bF ah) bG))) (cm (PE.one (br jE (pv 4) (bF ah) bG)) (cm (PE.one (ao bb (pv 4) ay)) (cm (ki (by decide+kernel) (by decide+kernel) (pv 4)) (PA.one ag))))))))))
  (iO (qv (i:=5) bN.nd rfl (Or.inl rfl) (BP bY (PE.one (pv 5)) (qu (cm (ki (by decide+kernel) (by decide+kernel) (pv 4)) (cm (PE.one (ao bb ay (pv 4))) (cm (PE.one (ao bb (ao bb (br jE (pv 4) bG (bF ah)) ay) (br jE (pv 4) (bF ah) bG))) (cm (PE.one (ao bb (pv 4) ay)) (cm (PE.one (ao bb ay (pv 4))) (cm (PE.one (br jE (pv 4) bG (bF (o5 mQ ah)))) (PA.one ag))))))))))
  (iO (qv (i:=5) bN.nd rfl (Or.inl rfl) (BP bY (PE.one (pv 5)) (qu (cm (ki (by decide+kernel) (by decide+kernel) (pv 4)) (cm (PE.one ay) (PA.one ag))))))
  (gL.one (ai (aA (i:=6) bN.nd rfl (Or.inl rfl) (aD aV aN rfl T.bu T.bw T.bz .nil bf (ae (pv 0) (ae ah ag))))
  (ai (bM (aL o6 (pv 6) ah (aR _))
   (aq (aW (cP PySem.F.plainAttrs_str PySem.F.slot_str_join PySem.F.type_str_join (de K) ay (ae (ao bY (ao bY (br (ck K) (pv 2) bG (bF (pv 3))) (bo (ae (aK (aU K) (pv 5) (pv 6) (fun _ _=>rfl)) ag))) (br (ck K) (pv 2) (bF (ao cp (pv 3) ah)) bG)) ag))))
   bh)
  (ai (aA (i:=7) bN.nd rfl (Or.inl rfl) (aK (aU K) (pv 2) ah (fun _ _=>rfl)))
  (ai (aA (i:=8) bN.nd rfl (Or.inl rfl) (bo (ae ay (ae ay (ae ay (ae ay ag))))))
  (ai (bM (aL o6 (pv 6) ah (aR _))
   (aq (aW (cP PySem.F.plainAttrs_str PySem.F.slot_str_join PySem.F.type_str_join (de K) ay (ae (ao bY (bo (ae (aK (aU K) (pv 8) (ao jv (pv 6) ah) (fun _ _=>rfl)) ag)) (br (ck K) (pv 2) (bF ah) bG)) ag))))
   bh)
  (ai (aA (i:=8) bN.nd rfl (Or.inl rfl) (bo (ae ay (ae (pb PySem.F.plainAttrs_str PySem.F.slot_str_lower PySem.F.type_str_lower DE (pv 7)) (ae (ao bb (pv 7) ay) (ae (ao bb (ao bb (ao bb (pv 7) (pv 7)) (pv 7)) (pv 7)) (ae ay ag)))))))
  (aq (aW (cP PySem.F.plainAttrs_str PySem.F.slot_str_join PySem.F.type_str_join (de K) ay (ae (ao bY (bo (ae (aK (aU K) (pv 2) ah (fun _ _=>rfl)) (ae (aK (aU K) (pv 8) (ao jv (pv 6) ah) (fun _ _=>rfl)) ag))) (br (ck K) (pv 2) (bF ah) bG)) ag))))))))))))))))),?_⟩
  have lz:(txt (cA p.1 p.2)).length≤200:=by rw[gT];exact qJ ok b4
  have n1:1≤p.2.length:=ok.2.1
  have n8:p.2.length≤8:=ok.2.2.1
  refine⟨_,rfl,rfl,_,_,rfl,rfl,by omega,by decide,fun W hW=>?_⟩
  rw[Jp,GO b4 ok (aJ _)]
  have MJ:W≠d:=(d0.ne hW).symm
  have sW:=Same.new (o:=.lst ((gU p).map V.str)) hW
  have eW:(upd H W (.lst ((gU p).map V.str))) W=some (.lst ((gU p).map V.str)):=af
  generalize upd H W (.lst ((gU p).map V.str))=H1 at sW eW ⊢
  have d1:=d0.same sW
  refine⟨_,rfl,_,rfl,_,_,rfl,.inl ⟨_,.of eW,rfl⟩,_,_,rfl,rfl,d,_,rfl,d1,?_,fun r H2 r0 r1 k2 d2=>⟨_,_,rfl,rfl,?_⟩⟩
  ·rw[List.length_map,js];omega
  rw[List.length_map,js] at r1
  obtain⟨j,rfl⟩:∃j:Nat,r=(j:Int):=⟨r.toNat,by omega⟩
  have hj:j<p.2.length:=by omega
  have RX:(2:Int)+(j:Int)=((j+2:Nat):Int):=by omega
  dsimp only[eU]
  rw[RX]
  have MK:=k2 _ _ eW MJ
  have kA:KB d H H2:=sW.kb.trans k2
  obtain⟨q,eq⟩:∃q,p.2[j]? =some q:=⟨p.2[j],List.getElem?_eq_getElem hj⟩
  have rq:fB b q:=ok.2.2.2 q (List.mem_of_getElem? eq)
  have eR:(oW p)[j]? =some (txt (bS q.1 q.2)):=by unfold oW;rw[List.getElem?_map,eq];rfl
  have yD:((gU p).map V.str)[j+2]? =some (.str (txt (bS q.1 q.2))):=by
   rw[List.getElem?_map]
   show Option.map V.str ((oW p)[j]?)=_
   rw[eR];rfl
  refine⟨_,rfl,_,rfl,W,_,_,_,rfl,rfl,.of MK,aB yD,?_⟩
  have bp:=D5 (z:=txt (bS q.1 q.2)) b2 b4 rq (aJ _)
  have zl:(txt (bS q.1 q.2)).length≤20:=(p7 b4 rq).2
  generalize Vv:txt (bS q.1 q.2)=z at bp zl
  have yE:z.length≤sizeLine:=by rw[PySem.sizeLine_eq];omega
  have qR:z.length≤100:=by omega
  have AA:∀lo hi,(Txt.slice z lo hi).length≤100:=fun lo hi=>Nat.le_trans (KR z lo hi) qR
  refine⟨_,rfl,_,_,rfl,rfl,ia qR (by decide+kernel),_,rfl,_,rfl,_,rfl,z,rfl,yE,_,rfl,_,rfl,z,rfl,yE,_,_,rfl,rfl,ia (by decide+kernel) (AA _ _),_,rfl,_,rfl,z,rfl,yE,_,rfl,_,_,rfl,rfl,ia qR (by decide+kernel),_,rfl,z,rfl,by omega,by show 7≤sizeLine;decide,fun L1 hL1=>?_⟩
  generalize h3:upd H2 L1 _=H3
  have s3:Same H2 H3:=h3▸Same.new hL1
  have sP:H3 L1=some (.lst ((D0 z).map V.str)):=by rw[←h3];exact af
  clear h3
  refine⟨_,rfl,_,rfl,z,rfl,by omega,_,rfl,_,_,rfl,rfl,ia (by decide+kernel) qR,_,rfl,_,rfl,z,rfl,yE,_,_,rfl,rfl,ia (AA _ _) (by decide+kernel),_,rfl,_,rfl,z,rfl,yE,_,_,rfl,rfl,?_,_,rfl,_,_,rfl,rfl,ia qR (by decide+kernel),_,rfl,_,_,rfl,rfl,ia (by decide+kernel) qR,_,rfl,_,rfl,_,rfl,z,rfl,yE,by show 6≤sizeLine;decide,fun L2 hL2=>?_⟩
  ·have h1:=AA none (some 2)
   have h2:=AA (some 3) none
   rw[strLen_append,PySem.sizeLine_eq,show(Str.ofString "+").length=1 by decide+kernel]
   omega
  generalize h4:upd H3 L2 _=H4
  have s4:Same H3 H4:=h4▸Same.new hL2
  have cX:H4 L2=some (.lst ((D3 z).map V.str)):=by rw[←h4];exact af
  clear h4
  refine dO (s4 _ _ sP) cX (by show 13≤1000;decide) fun L3 H5 Vw s5 vX=>?_
  refine⟨_,rfl,_,rfl,z,rfl,by omega,by show 2≤sizeLine;decide,fun L4 RY=>?_⟩
  generalize h6:upd H5 L4 _=H6
  have s6:Same H5 H6:=h6▸Same.new RY
  have vG:H6 L4=some (.lst ((D4 z).map V.str)):=by rw[←h6];exact af
  clear h6
  refine dO (s6 _ _ vX) vG (by show 15≤1000;decide) fun L5 H7 RZ s7 wA=>?_
  rw[←List.map_append,←List.map_append] at wA
  have wA:H7 L5=some (.lst ((wt z).map V.str)):=wA
  have sA:Same H2 H7:=s3.trans (s4.trans (s5.trans (s6.trans s7)))
  have kX:L5≠d:=((d2.same (s3.trans (s4.trans (s5.trans s6)))).ne RZ).symm
  clear sP cX vX vG s3 s4 s5 s6 s7
  refine⟨_,rfl,d,24,rfl,d2.same sA,by decide,fun g H8 g0 g1 k8 d8=>?_⟩
  obtain⟨g,rfl⟩:∃n:Nat,g=(n:Int):=⟨g.toNat,by omega⟩
  have yF:=k8 _ _ (sA _ _ MK) MJ
  have R_:=k8 _ _ wA kX
  have kB:KB d H H8:=kA.trans (sA.kb.trans k8)
  have lw:(gU p).length=p.2.length+2:=js p
  have cw:=j8 b4 ok
  refine⟨_,rfl,_,_,rfl,rfl,_,rfl,cN (fun hg=>?_) (fun hg=>?_)⟩
  ·have hg:=of_decide_eq_true hg
   have hg':g<15:=by omega
   obtain⟨x,ex⟩:∃x,(wt z)[g]? =some x:=⟨(wt z)[g]'hg',List.getElem?_eq_getElem hg'⟩
   have bx:=bp x (List.mem_of_getElem? ex)
   refine⟨rfl,_,rfl,_,rfl,_,rfl,p8 (j+2) yF fun A HA hA Fh eA=>?_⟩
   refine⟨_,rfl,_,rfl,L5,_,_,.str x,rfl,rfl,.of (Fh _ _ R_),aB (by rw[List.getElem?_map,ex];rfl),by show 1≤sizeLine;decide,fun B hB=>?_⟩
   generalize h9:upd HA B _=HB
   have sB:Same HA HB:=h9▸Same.new hB
   have eB:HB B=some (.lst ([x].map V.str)):=by rw[←h9];exact af
   clear h9
   refine dO (sB _ _ eA) eB (by rw[List.length_take,List.length_map];show _+1≤_;omega) fun C HC hC sC eC=>?_
   refine⟨_,rfl,_,rfl,_,_,rfl,rfl,_,rfl,?_⟩
   rw[show(((j+2:Nat):Int)+1)=((j+3:Nat):Int) by omega]
   refine iU (j+3) (by rw[List.length_map];omega) (sC _ _ (sB _ _ (Fh _ _ yF))) fun D HD hD sD eD=>?_
   refine dO (sD _ _ eC) eD (by rw[List.length_append,List.length_take,List.length_drop,List.length_map];show _+1+_≤_;omega) fun F HF hF sF eF=>?_
   rw[←List.map_take,←List.map_drop,←List.map_append,←List.map_append] at eF
   have ct:∀y∈(gU p).take (j+2),Clean y:=fun y hy=>cw y (List.mem_of_mem_take hy)
   have cd:∀y∈(gU p).drop (j+3),Clean y:=fun y hy=>cw y (List.mem_of_mem_drop hy)
   refine mz eF (fun y hy=>?_) ?_ fun y ey=>?_
   ·rcases List.mem_append.mp hy with hy | hy
    ·rcases List.mem_append.mp hy with hy | hy
     ·exact Nat.le_trans (ct y hy).2 (by decide)
     ·exact List.mem_singleton.mp hy▸D9 bx
    ·exact Nat.le_trans (cd y hy).2 (by decide)
   ·simp only[List.length_append,List.length_take,List.length_drop,List.length_cons,List.length_nil];omega
   ·exact k y HF (kB.trans (Fh.trans (sB.trans (sC.trans (sD.trans sF)))).kb) (d8.same (Fh.trans (sB.trans (sC.trans (sD.trans sF))))) (tR (by rw[List.length_take];omega) (by rw[List.length_take,List.length_drop];omega) ct cd bx ey)
  have hg:¬((g:Int)<15):=fun z=>hg (decide_eq_true z)
  refine⟨_,rfl,W,_,_,.str p.1,rfl,rfl,.of yF,aB (j:=1) rfl,?_⟩
  refine⟨by show 4≤sizeLine;decide,fun S hS=>?_⟩
  generalize h9:upd H8 S _=H9
  have s9:Same H8 H9:=h9▸Same.new hS
  have eS:H9 S=some (.lst (qL.map V.str)):=by rw[←h9];exact af
  clear h9
  refine⟨_,rfl,_,_,rfl,rfl,_,rfl,cN (fun hg2=>?_) (fun hg2=>?_)⟩
  ·have hg2:=of_decide_eq_true hg2
   have CM:g-15<4:=by omega
   obtain⟨x,ex⟩:∃x,qL[g-15]? =some x:=⟨qL[g-15]'CM,List.getElem?_eq_getElem CM⟩
   have hx:=List.mem_of_getElem? ex
   refine⟨rfl,_,rfl,_,rfl,_,_,rfl,rfl,S,_,_,.str x,rfl,rfl,.of eS,ny (j:=g-15) (by omega) (by rw[List.getElem?_map,ex];rfl),by show 1≤sizeLine;decide,fun B hB=>?_⟩
   generalize h10:upd H9 B _=HB
   have sB:Same H9 HB:=h10▸Same.new hB
   have eB:HB B=some (.lst ([x].map V.str)):=by rw[←h10];exact af
   clear h10
   refine⟨_,rfl,_,rfl,iU 1 (by rw[List.length_map];omega) (sB _ _ (s9 _ _ yF)) fun D HD hD sD eD=>?_⟩
   refine dO (sD _ _ eB) eD (by rw[List.length_drop,List.length_map,List.length_map];show 1+_≤_;omega) fun F HF hF sF eF=>?_
   rw[←List.map_drop,←List.map_append] at eF
   have cd:∀y∈(gU p).drop 1,Clean y:=fun y hy=>cw y (List.mem_of_mem_drop hy)
   have x100:∀y∈qL,y.length≤100:=by decide+kernel
   refine mz eF (fun y hy=>?_) ?_ fun y ey=>?_
   ·rcases List.mem_append.mp hy with hy | hy
    ·exact List.mem_singleton.mp hy▸x100 x hx
    ·exact Nat.le_trans (cd y hy).2 (by decide)
   ·simp only[List.length_append,List.length_drop,List.length_cons,List.length_nil];omega
   ·exact k y HF (kB.trans (s9.trans (sB.trans (sD.trans sF))).kb) (d8.same (s9.trans (sB.trans (sD.trans sF)))) (CK hx (by rw[List.length_drop];omega) cd ey)
  have hg2:¬((g:Int)<19):=fun z=>hg2 (decide_eq_true z)
  obtain⟨Vx,Vy,ku⟩:=cL ok.1
  have wB:p.1.length≤100:=by omega
  have n6:(p.1++p.1).length=p.1.length+p.1.length:=strLen_append _ _
  have n9:(p.1++p.1++p.1).length=p.1.length+p.1.length+p.1.length:=by rw[strLen_append,n6]
  refine⟨_,rfl,rfl,p.1,rfl,rfl,(fun c hc=>by have:=ku c hc;omega),by omega,_,rfl,_,_,rfl,rfl,ia wB (by decide+kernel),_,rfl,_,rfl,_,_,rfl,rfl,ia wB wB,_,rfl,_,_,rfl,rfl,ia (by omega) wB,_,rfl,_,_,rfl,rfl,ia (by omega) wB,by show 5≤sizeLine;decide,fun S2 hS2=>?_⟩
  generalize h11:upd H9 S2 _=fE
  have fJ:Same H9 fE:=h11▸Same.new hS2
  have we:fE S2=some (.lst ((qM p.1).map V.str)):=by rw[←h11];exact af
  clear h11
  have CM:g-19<5:=by omega
  obtain⟨x,ex⟩:∃x,(qM p.1)[g-19]? =some x:=⟨(qM p.1)[g-19]'CM,List.getElem?_eq_getElem CM⟩
  have hx:=List.mem_of_getElem? ex
  refine⟨rfl,_,rfl,W,_,_,.str "row",rfl,rfl,.of (fJ _ _ (s9 _ _ yF)),aB (j:=0) rfl,_,rfl,_,rfl,_,_,rfl,rfl,S2,_,_,.str x,rfl,rfl,.of we,ny (j:=g-19) (by omega) (by rw[List.getElem?_map,ex];rfl),by show 2≤sizeLine;decide,fun B hB=>?_⟩
  generalize h12:upd fE B _=HB
  have sB:Same fE HB:=h12▸Same.new hB
  have eB:HB B=some (.lst ([("row":Str),x].map V.str)):=by rw[←h12];exact af
  clear h12
  refine⟨_,rfl,_,rfl,iU 2 (by rw[List.length_map];omega) (sB _ _ (fJ _ _ (s9 _ _ yF))) fun D HD hD sD eD=>?_⟩
  refine dO (sD _ _ eB) eD (by rw[List.length_drop,List.length_map,List.length_map];show 2+_≤_;omega) fun F HF hF sF eF=>?_
  rw[←List.map_drop,←List.map_append] at eF
  have cd:∀y∈(gU p).drop 2,Clean y:=fun y hy=>cw y (List.mem_of_mem_drop hy)
  refine mz eF (fun y hy=>?_) ?_ fun y ey=>?_
  ·rcases List.mem_append.mp hy with hy | hy
   ·rcases List.mem_cons.mp hy with hy | hy
    ·rw[hy];decide+kernel
    ·exact List.mem_singleton.mp hy▸Nat.le_trans (wu ok.1 x hx).1.2 (by decide)
   ·exact Nat.le_trans (cd y hy).2 (by decide)
  ·simp only[List.length_append,List.length_drop,List.length_cons,List.length_nil];omega
  ·exact k y HF (kB.trans (s9.trans (fJ.trans (sB.trans (sD.trans sF)))).kb) (d8.same (s9.trans (fJ.trans (sB.trans (sD.trans sF))))) (Ar ok.1 hx (by rw[List.length_drop];omega) cd ey)
theorem Ea {c d:Bool} {S1 S2 T:Prop} (hT:(if d=true then S1 else S2)→T) (h1:c=true→d=true→S1) (h2:(c=true→d=true→False)→S2):if c=true then T else(if false=true then S1 else S2):=by
 cases c with
 | false=>exact bZ (bZ (h2 fun z=>nomatch z))
 | true=>
  refine b_ (hT ?_)
  cases d with
  | false=>exact bZ (h2 fun _ z=>nomatch z)
  | true=>exact b_ (h1 rfl rfl)
def GQ:Sp:=fun vs H Q _=>∃(d L:Addr) (b:Nat) (ro:Rows),vs=[.ref d,.ref L]∧bA H d∧H L=some (.lst ((bL b ro).map V.str))∧L≠d∧2≤b∧b≤4∧1≤ro.length∧ro.length≤4∧(∀p∈ro,dg b p)∧rising (ro.map (·.1))=true∧
 ∀ws M H',KB d H H'→bA H' d→H' M=some (.lst (ws.map V.str))→lj ws→Q (.ref M) H'
theorem AB:ak (Txt.mul (Str.ofString " 0:0.0") 9)=(List.replicate 9 [32,48,58,48,46,48]).flatten:=by decide+kernel
theorem mem_mid {α:Type} {A B:List α} {x:α}:x∈A++[x]++B:=List.mem_append.mpr (.inl (List.mem_append.mpr (.inr (List.mem_singleton.mpr rfl))))
theorem wC {ls:List Str} {x:Str} {i j:Nat} (h:∀y∈ls,cu y) (hx:cu x):∀y∈ls.take i++[x]++ls.drop j,cu y:=fun y hy=>by
 rcases List.mem_append.mp hy with hy | hy
 ·rcases List.mem_append.mp hy with hy | hy
  ·exact h y (List.mem_of_mem_take hy)
  ·exact List.mem_singleton.mp hy▸hx
 ·exact h y (List.mem_of_mem_drop hy)
theorem jj:bj ["_law_deck_here","_law_lines_here","_law_goes","_law_at","_law_some"] ["_law_deck_here","_law_lines_here"] (aj gQ):=⟨rfl,rfl,rfl,by decide+kernel,rfl,by decide+kernel,by decide+kernel⟩
theorem AE {a:fc} (T:Txt K mg a):bC P w K mg base dE 3 a.j0 a.lW ["_law_deck_here","_law_lines_here"] GQ:=by
 have aV:=fO (P:=P) (w:=w) (base:=base) T
 have tS:=qQ (P:=P) (w:=w) (base:=base) T
 refine T.Cd.ok jj (fun vs H Q E h=>?_) (fun cdv A outer s H vs Q E hr h=>?_)
 ·obtain⟨d,L,b,ro,rfl,_⟩:=h
  rfl
 ·obtain⟨d,L,b,ro,rfl,d0,eL,kX,b2,b4,n1,n4,ok,up,k⟩:=h
  have aN:aO 1 _:=hr.mono (by decide)
  have qS:aO 2 _:=hr
  refine⟨_,(ai (aA (i:=2) jj.nd rfl (Or.inl rfl) (aD aV aN rfl T.bu T.bw T.bz .nil bf (ae (pv 0) (ae ah ag))))
  (ai (aA (i:=3) jj.nd rfl (Or.inl rfl) (ao cp ah (aD aV aN rfl T.bu T.bw T.bz .nil bf (ae (pv 0) (ae (ao jv (aE (aQ K) (by rfl) T.bT bK (ae (pv 1) ag)) ah) ag)))))
  (ai (bM (aL dZ (pv 2) ah (aR _))
   (ai (aA (i:=4) jj.nd rfl (Or.inl rfl) (bo (ae ay (ae ay (ae ay (ae ay (ae ay (ae ay (ae ay (ae ay (ae ay (ae ay ag))))))))))))
   (aq (aW (ao bY (bo (ae (aK (aU K) (ao bY (pv 4) (bo (ae ay ag))) (aD aV aN rfl T.bu T.bw T.bz .nil bf (ae (pv 0) (ae ah ag))) (fun _ _=>rfl)) ag)) (br (ck K) (pv 1) (bF ah) bG)))))
   bh)
  (ai (bM (aL dZ (pv 2) ah (aR _))
   (aq (aW (ao bY (ao bY (br (ck K) (pv 1) bG (bF (pv 3))) (bo (ae ay ag))) (br (ck K) (pv 1) (bF (pv 3)) bG))))
   bh)
  (ai (bM (aL dZ (pv 2) ah (aR _))
   (aq (aW (ao bY (pv 1) (bo (ae (aK (aU K) (bo (ae ay (ae ay (ae (aK (aU K) (pv 1) (pv 3) (fun _ _=>rfl)) (ae ay (ae ay ag)))))) (aD aV aN rfl T.bu T.bw T.bz .nil bf (ae (pv 0) (ae ah ag))) (fun _ _=>rfl)) ag)))))
   bh)
  (ai (bM (aL dZ (pv 2) ah (aR _))
   (aq (aW (br (ck K) (pv 1) (bF ah) bG)))
   bh)
  (ai (bM (PW.pt (ky (aL dZ (pv 2) ah (aR _)) (nK (aL nL (aE (aQ K) (by rfl) T.bT bK (ae (pv 1) ag)) ah (aR _)))))
   (aq (aW (ao bY (bo (ae (aK (aU K) (pv 1) ah (fun _ _=>rfl)) ag)) (DF K (pv 1) bG (bF ah) (bF (o5 mQ ah))))))
   bh)
  (ai (bM (aL dZ (pv 2) ah (aR _))
   (aq (aW (ao bY (ao bY (br (ck K) (pv 1) bG (bF (pv 3))) (bo (ae (ao bb (aK (aU K) (pv 1) (pv 3) (fun _ _=>rfl)) (ao F' ay ah)) ag))) (br (ck K) (pv 1) (bF (ao cp (pv 3) ah)) bG))))
   bh)
  (ai (bM (aL dZ (pv 2) ah (aR _))
   (aq (aW (ao bY (pv 1) (ao Ht (bo (ae (aK (aU K) (pv 1) (pv 3) (fun _ _=>rfl)) ag)) ah))))
   bh)
  (aq (aW (ao bY (ao bY (br (ck K) (pv 1) bG (bF (pv 3))) (bo (ae (aD tS qS rfl T.tH T.tI T.tK .nil bf (ae (pv 0) (ae (aK (aU K) (pv 1) (pv 3) (fun _ _=>rfl)) ag))) ag))) (br (ck K) (pv 1) (bF (ao cp (pv 3) ah)) bG))))))))))))),?_⟩
  have R1:=gK b4 ok
  have CN:∀y∈eT ro,cu y:=fun y hy=>R1 y (List.mem_cons_of_mem _ hy)
  have i5:(eT ro).length=ro.length:=by unfold eT;rw[List.length_map]
  rw[Av] at eL
  refine⟨_,rfl,d,8,rfl,d0,by decide,fun g H1 g0 g1 k1 d1=>?_⟩
  obtain⟨g,rfl⟩:∃n:Nat,g=(n:Int):=⟨g.toNat,by omega⟩
  have sP:=k1 _ _ eL kX
  refine⟨_,rfl,_,rfl,_,_,rfl,.inl ⟨_,.of sP,rfl⟩,_,_,rfl,rfl,d,_,rfl,d1,?_,fun r H2 r0 r1 k2 d2=>⟨_,_,rfl,rfl,?_⟩⟩
  ·rw[List.length_map,List.length_cons,i5];omega
  rw[List.length_map,List.length_cons,i5] at r1
  obtain⟨j,rfl⟩:∃j:Nat,r=(j:Int):=⟨r.toNat,by omega⟩
  have hj:j<ro.length:=by omega
  have R3:(1:Int)+(j:Int)=((j+1:Nat):Int):=by omega
  dsimp only[eU]
  rw[R3]
  have cX:=k2 _ _ sP kX
  have kA:KB d H H2:=k1.trans k2
  obtain⟨p,ep⟩:∃p,ro[j]? =some p:=⟨ro[j],List.getElem?_eq_getElem hj⟩
  have hp:=List.mem_of_getElem? ep
  have jU:=ok p hp
  have eC:(eT ro)[j]? =some (txt (cA p.1 p.2)):=by unfold eT;rw[List.getElem?_map,ep];rfl
  have yD:((txt (eP b)::eT ro).map V.str)[j+1]? =some (.str (txt (cA p.1 p.2))):=by
   rw[List.getElem?_map]
   show Option.map V.str ((eT ro)[j]?)=_
   rw[eC];rfl
  have Vz:(txt (cA p.1 p.2)).length≤200:=by rw[gT];exact qJ jU b4
  refine⟨_,rfl,rfl,_,rfl,cN (fun _=>?_) (fun _=>?_)⟩
  ·refine⟨by show 10≤sizeLine;decide,fun S hS=>?_⟩
   generalize h3:upd H2 S _=H3
   have s3:Same H2 H3:=h3▸Same.new hS
   have eS:H3 S=some (.lst ([Str.ofString "base 1",Str.ofString "base 5",Str.ofString "base",Str.ofString "base 02",Str.ofString "base 2 ",Str.ofString "Base 2",Str.ofString "",Str.ofString "base  2",Str.ofString "base 2 3",Str.ofString "base x"].map V.str)):=by rw[←h3];exact af
   clear h3
   refine⟨_,rfl,by show 1≤sizeLine;decide,fun B hB=>?_⟩
   generalize h4:upd H3 B _=H4
   have s4:Same H3 H4:=h4▸Same.new hB
   have eB:H4 B=some (.lst ([Str.ofString " base 2"].map V.str)):=by rw[←h4];exact af
   clear h4
   refine dO (s4 _ _ eS) eB (by show 11≤1000;decide) fun C H5 hC s5 oE=>?_
   rw[←List.map_append] at oE
   have oE:H5 C=some (.lst (qO.map V.str)):=oE
   have d5:=d2.same (s3.trans (s4.trans s5))
   have Jd:C≠d:=((d2.same (s3.trans s4)).ne hC).symm
   refine⟨_,rfl,d,11,rfl,d5,by decide,fun x H6 x0 x1 k6 d6=>?_⟩
   obtain⟨x,rfl⟩:∃n:Nat,x=(n:Int):=⟨x.toNat,by omega⟩
   have hx:x<11:=by omega
   obtain⟨y,ey⟩:∃y,qO[x]? =some y:=⟨qO[x]'hx,List.getElem?_eq_getElem hx⟩
   have Fb:=k6 _ _ oE Jd
   have Jz:=k6 _ _ (s5 _ _ (s4 _ _ (s3 _ _ cX))) kX
   refine⟨C,_,_,.str y,rfl,rfl,.of Fb,aB (by rw[List.getElem?_map,ey];rfl),by show 1≤sizeLine;decide,fun F hF=>?_⟩
   generalize h7:upd H6 F _=H7
   have s7:Same H6 H7:=h7▸Same.new hF
   have eF:H7 F=some (.lst ([y].map V.str)):=by rw[←h7];exact af
   clear h7
   refine⟨_,rfl,_,rfl,iU 1 (by rw[List.length_map,List.length_cons];omega) (s7 _ _ Jz) fun G H8 hG s8 eG=>?_⟩
   refine dO (s8 _ _ eF) eG (by simp only[List.length_drop,List.length_map,List.length_cons,List.length_nil,i5];omega) fun M H9 hM s9 eM=>?_
   rw[←List.map_drop,←List.map_append] at eM
   exact k (y::eT ro) M H9 (kA.trans ((s3.trans (s4.trans s5)).kb.trans (k6.trans (s7.trans (s8.trans s9)).kb))) (d6.same (s7.trans (s8.trans s9))) eM (Aw (List.mem_of_getElem? ey) CN (by omega))
  refine⟨_,rfl,rfl,_,rfl,cN (fun _=>?_) (fun _=>?_)⟩
  ·refine⟨_,rfl,_,rfl,_,rfl,p8 (j+1) cX fun A1 H3 hA s3 eA=>?_⟩
   refine⟨by show 1≤sizeLine;decide,fun B hB=>?_⟩
   generalize h4:upd H3 B _=H4
   have s4:Same H3 H4:=h4▸Same.new hB
   have eB:H4 B=some (.lst ([Str.ofString ""].map V.str)):=by rw[←h4];exact af
   clear h4
   refine dO (s4 _ _ eA) eB (by rw[List.length_take,List.length_map,List.length_cons,i5];show _+1≤_;omega) fun C H5 hC s5 oE=>?_
   refine⟨_,rfl,_,rfl,_,rfl,iU (j+1) (by rw[List.length_map,List.length_cons,i5];omega) (s5 _ _ (s4 _ _ (s3 _ _ cX))) fun D H6 hD s6 eD=>?_⟩
   refine dO (s6 _ _ oE) eD (by rw[List.length_append,List.length_take,List.length_drop,List.length_map,List.length_map,List.length_cons,i5];show _+1+_≤_;omega) fun M H7 hM s7 eM=>?_
   rw[←List.map_take,←List.map_drop,←List.map_append,←List.map_append] at eM
   exact k (txt (eP b)::((eT ro).take j++[Str.ofString ""]++(eT ro).drop j)) M H7 (kA.trans (s3.trans (s4.trans (s5.trans (s6.trans s7)))).kb) (d2.same (s3.trans (s4.trans (s5.trans (s6.trans s7))))) eM
    (ji b2 b4 (wC CN (iT (b:=b) _ (by simp)).2) (by simp only[List.length_append,List.length_take,List.length_drop,List.length_singleton];omega) mem_mid (iT _ (by simp)).1)
  refine⟨_,rfl,rfl,_,rfl,cN (fun _=>?_) (fun _=>?_)⟩
  ·refine⟨_,rfl,_,rfl,_,rfl,L,_,_,_,rfl,rfl,.of cX,aB yD,by show 5≤sizeLine;decide,fun S hS=>?_⟩
   generalize h3:upd H2 S _=H3
   have s3:Same H2 H3:=h3▸Same.new hS
   have eS:H3 S=some (.lst ([Str.ofString "",Str.ofString " ",txt (cA p.1 p.2),Str.ofString "base 2",Str.ofString "row ZZZ"].map V.str)):=by rw[←h3];exact af
   clear h3
   have sk:S≠d:=(d2.ne hS).symm
   refine⟨_,rfl,d,5,rfl,d2.same s3,by decide,fun x H6 x0 x1 k6 d6=>?_⟩
   obtain⟨x,rfl⟩:∃n:Nat,x=(n:Int):=⟨x.toNat,by omega⟩
   have hx:x<5:=by omega
   obtain⟨y,ey⟩:∃y,([Str.ofString "",Str.ofString " ",txt (cA p.1 p.2),Str.ofString "base 2",Str.ofString "row ZZZ"]:List Str)[x]? =some y:=⟨_,List.getElem?_eq_getElem (by exact hx)⟩
   have R4:=k6 _ _ eS sk
   have Jz:=k6 _ _ (s3 _ _ cX) kX
   refine⟨S,_,_,.str y,rfl,rfl,.of R4,aB (by rw[List.getElem?_map,ey];rfl),by show 1≤sizeLine;decide,fun F hF=>?_⟩
   generalize h7:upd H6 F _=H7
   have s7:Same H6 H7:=h7▸Same.new hF
   have eF:H7 F=some (.lst ([y].map V.str)):=by rw[←h7];exact af
   clear h7
   refine dO (s7 _ _ Jz) eF (by rw[List.length_map,List.length_cons,i5];show _+1≤_;omega) fun M H9 hM s9 eM=>?_
   rw[←List.map_append] at eM
   have kk:=kA.trans (s3.kb.trans (k6.trans (s7.trans s9).kb))
   have dd:=d6.same (s7.trans s9)
   by_cases h2:x=2
   ·subst h2
    obtain rfl:txt (cA p.1 p.2)=y:=Option.some.inj ey
    have:=k (bL b (ro++[p])) M H9 kk dd (by rw[eM];exact congrArg (fun l=>some (HO.lst (List.map V.str (txt (eP b)::l)))) (List.map_append (f:=fun p:Str×List (Nat×List Nat)=>txt (cA p.1 p.2)) (l₁:=ro) (l₂:=[p])).symm) (my b2 b4 (fun q hq=>(List.mem_append.mp hq).elim (ok q) fun z=>List.mem_singleton.mp z▸jU) (by rw[List.length_append,List.length_singleton];omega) (.inr (by rw[List.map_append];exact Ax (List.mem_map.mpr ⟨p,hp,rfl⟩))))
    exact this
   ·have hy:y∈[Str.ofString "",Str.ofString " ",Str.ofString "base 2",Str.ofString "row ZZZ"]:=by
     have:x=0∨x=1∨x=3∨x=4:=by omega
     rcases this with rfl | rfl | rfl | rfl
     ·exact(Option.some.inj ey)▸by simp
     ·exact(Option.some.inj ey)▸by simp
     ·exact(Option.some.inj ey)▸by simp
     ·exact(Option.some.inj ey)▸by simp
    obtain⟨yu,R5⟩:=iT (b:=b) y hy
    exact k (txt (eP b)::(eT ro++[y])) M H9 kk dd eM (ji b2 b4 (fun z hz=>(List.mem_append.mp hz).elim (CN z) fun q=>List.mem_singleton.mp q▸R5) (by rw[List.length_append,List.length_singleton];omega) (List.mem_append.mpr (.inr (List.mem_singleton.mpr rfl))) yu)
  refine⟨_,rfl,rfl,_,rfl,cN (fun _=>?_) (fun _=>?_)⟩
  ·refine⟨_,rfl,_,rfl,iU 1 (by rw[List.length_map,List.length_cons];omega) cX fun M H3 hM s3 eM=>?_⟩
   rw[←List.map_drop] at eM
   exact k (eT ro) M H3 (kA.trans s3.kb) (d2.same s3) eM (qP b4 ok (fun z=>by rw[z] at n1;exact absurd n1 (by decide)) (by omega))
  refine⟨_,rfl,rfl,_,rfl,Ea (d:=decide ((((txt (eP b)::eT ro).map V.str).length:Int)>2)) (fun h=>⟨_,rfl,_,_,rfl,.inl ⟨_,.of cX,rfl⟩,_,_,rfl,rfl,_,rfl,h⟩) (fun _ h5=>?_) (fun _=>?_)⟩
  ·have h5:=of_decide_eq_true h5
   rw[List.length_map,List.length_cons,i5] at h5
   refine⟨_,rfl,L,_,_,.str (txt (eP b)),rfl,rfl,.of cX,aB (j:=0) rfl,by show 1≤sizeLine;decide,fun F hF=>?_⟩
   generalize h7:upd H2 F _=H7
   have s7:Same H2 H7:=h7▸Same.new hF
   have eF:H7 F=some (.lst ([txt (eP b)].map V.str)):=by rw[←h7];exact af
   clear h7
   refine⟨_,rfl,_,rfl,_,rfl,_,rfl,L,_,rfl,rfl,rfl,rfl,.of (s7 _ _ cX),by rw[List.length_map,List.length_cons];omega,fun G hG=>?_⟩
   generalize h8:upd H7 G _=H8
   have s8:Same H7 H8:=h8▸Same.new hG
   have eG:H8 G=some (.lst (((eT ro).reverse).map V.str)):=by rw[←h8,af,List.map_reverse];rfl
   clear h8
   refine dO (s8 _ _ eF) eG (by rw[List.length_map,List.length_map,List.length_reverse,i5];show 1+_≤_;omega) fun M H9 hM s9 eM=>?_
   rw[←List.map_append] at eM
   refine k (bL b ro.reverse) M H9 (kA.trans (s7.trans (s8.trans s9)).kb) (d2.same (s7.trans (s8.trans s9))) ?_ (my b2 b4 (fun q hq=>ok q (List.mem_reverse.mp hq)) (by rw[List.length_reverse];omega) (.inr ?_))
   ·rw[eM];unfold bL eT;rw[List.map_reverse];rfl
   ·rw[List.map_reverse];exact Ay up (by rw[List.length_map];omega)
  refine⟨_,rfl,rfl,_,rfl,cN (fun _=>?_) (fun _=>?_)⟩
  ·have m9:(Txt.mul (Str.ofString " 0:0.0") 9).length≤100:=by decide+kernel
   refine⟨_,rfl,_,rfl,_,rfl,p8 (j+1) cX fun A1 H3 hA s3 eA=>?_⟩
   refine⟨_,rfl,_,rfl,L,_,_,_,rfl,rfl,.of (s3 _ _ cX),aB yD,_,_,rfl,rfl,by decide,by decide,by decide+kernel,_,_,rfl,rfl,by rw[PySem.sizeLine_eq];omega,by show 1≤sizeLine;decide,fun B hB=>?_⟩
   generalize h4:upd H3 B _=H4
   have s4:Same H3 H4:=h4▸Same.new hB
   have eB:H4 B=some (.lst ([txt (cA p.1 p.2)++Txt.mul (Str.ofString " 0:0.0") 9].map V.str)):=by rw[←h4];exact af
   clear h4
   refine dO (s4 _ _ eA) eB (by rw[List.length_take,List.length_map,List.length_cons,i5];show _+1≤_;omega) fun C H5 hC s5 oE=>?_
   refine⟨_,rfl,_,rfl,_,_,rfl,rfl,_,rfl,?_⟩
   rw[show(((j+1:Nat):Int)+1)=((j+2:Nat):Int) by omega]
   refine iU (j+2) (by rw[List.length_map,List.length_cons,i5];omega) (s5 _ _ (s4 _ _ (s3 _ _ cX))) fun D H6 hD s6 eD=>?_
   refine dO (s6 _ _ oE) eD (by rw[List.length_append,List.length_take,List.length_drop,List.length_map,List.length_map,List.length_cons,i5];show _+1+_≤_;omega) fun M H7 hM s7 eM=>?_
   rw[←List.map_take,←List.map_drop,←List.map_append,←List.map_append] at eM
   obtain⟨R6,R7⟩:=D8 (y:=txt (cA p.1 p.2)++Txt.mul (Str.ofString " 0:0.0") 9) b4 jU (by rw[a_,aJ,AB])
   exact k (txt (eP b)::((eT ro).take j++[txt (cA p.1 p.2)++Txt.mul (Str.ofString " 0:0.0") 9]++(eT ro).drop (j+1))) M H7 (kA.trans (s3.trans (s4.trans (s5.trans (s6.trans s7)))).kb) (d2.same (s3.trans (s4.trans (s5.trans (s6.trans s7))))) eM
    (ji b2 b4 (wC CN R7) (by simp only[List.length_append,List.length_take,List.length_drop,List.length_singleton];omega) mem_mid R6)
  refine⟨_,rfl,rfl,_,rfl,cN (fun _=>?_) (fun _=>?_)⟩
  ·refine⟨_,rfl,_,rfl,_,rfl,L,_,_,_,rfl,rfl,.of cX,aB yD,by show 1≤sizeLine;decide,fun B hB=>?_⟩
   generalize h4:upd H2 B _=H4
   have s4:Same H2 H4:=h4▸Same.new hB
   have eB:H4 B=some (.lst ([txt (cA p.1 p.2)].map V.str)):=by rw[←h4];exact af
   clear h4
   refine⟨B,5,_,rfl,rfl,eB,by decide,by decide,by show 5≤sizeLine;decide,fun G hG=>?_⟩
   generalize h8:upd H4 G _=H8
   have s8:Same H4 H8:=h8▸Same.new hG
   have eG:H8 G=some (.lst ((List.replicate 5 (txt (cA p.1 p.2))).map V.str)):=by rw[←h8];exact af
   clear h8
   refine dO (s8 _ _ (s4 _ _ cX)) eG (by rw[List.length_map,List.length_map,List.length_cons,i5,List.length_replicate];omega) fun M H9 hM s9 eM=>?_
   rw[←List.map_append] at eM
   refine k (bL b (ro++List.replicate 5 p)) M H9 (kA.trans (s4.trans (s8.trans s9)).kb) (d2.same (s4.trans (s8.trans s9))) ?_ (my b2 b4 (fun q hq=>(List.mem_append.mp hq).elim (ok q) fun z=>(List.mem_replicate.mp z).2▸jU) (by rw[List.length_append,List.length_replicate];omega) (.inl (by rw[List.length_append,List.length_replicate];omega)))
   rw[eM]
   have e5:(ro++List.replicate 5 p).map (fun p=>txt (cA p.1 p.2))=eT ro++List.replicate 5 (txt (cA p.1 p.2)):=by rw[List.map_append,List.map_replicate];rfl
   exact congrArg (fun l=>some (HO.lst (List.map V.str (txt (eP b)::l)))) e5.symm
  refine⟨_,rfl,_,rfl,_,rfl,p8 (j+1) cX fun A1 H3 hA s3 eA=>?_⟩
  have R8:A1≠d:=(d2.ne hA).symm
  refine⟨_,rfl,_,rfl,_,rfl,L,_,_,_,rfl,rfl,.of (s3 _ _ cX),aB yD,d,b,p,rfl,d2.same s3,b2,b4,jU,fun y H4 k4 d4 yu=>⟨by show 1≤sizeLine;decide,fun B hB=>?_⟩⟩
  generalize h5:upd H4 B _=H5
  have s5:Same H4 H5:=h5▸Same.new hB
  have eB:H5 B=some (.lst ([y].map V.str)):=by rw[←h5];exact af
  clear h5
  refine dO (s5 _ _ (k4 _ _ eA R8)) eB (by rw[List.length_take,List.length_map,List.length_cons,i5];show _+1≤_;omega) fun C H6 hC s6 oE=>?_
  refine⟨_,rfl,_,rfl,_,_,rfl,rfl,_,rfl,?_⟩
  rw[show(((j+1:Nat):Int)+1)=((j+2:Nat):Int) by omega]
  refine iU (j+2) (by rw[List.length_map,List.length_cons,i5];omega) (s6 _ _ (s5 _ _ (k4 _ _ (s3 _ _ cX) kX))) fun D H7 hD s7 eD=>?_
  refine dO (s7 _ _ oE) eD (by rw[List.length_append,List.length_take,List.length_drop,List.length_map,List.length_map,List.length_cons,i5];show _+1+_≤_;omega) fun M H8 hM s8 eM=>?_
  rw[←List.map_take,←List.map_drop,←List.map_append,←List.map_append] at eM
  exact k (txt (eP b)::((eT ro).take j++[y]++(eT ro).drop (j+1))) M H8 (kA.trans (s3.kb.trans (k4.trans (s5.trans (s6.trans (s7.trans s8))).kb))) (d4.same (s5.trans (s6.trans (s7.trans s8)))) eM
   (ji b2 b4 (wC CN yu.2) (by simp only[List.length_append,List.length_take,List.length_drop,List.length_singleton];omega) mem_mid yu.1)
theorem mL:bootBuiltins "ValueError"=some (.type "ValueError"):=by decide+kernel
theorem kit_is {K:PySem.W.Frag} {C D G:Addr} {bm:List Value} (c:XC K C (.ref D::dm)) (cG:XC K G bm):PySem.W.kitOne K (.ref C) (.ref G)=some (decide (G=C)||decide (G=D)):=by
 rw[FY c cG,List.contains_cons,List.contains_cons]
 have e:dm.contains (Value.ref G)=false:=rfl
 rw[e,Bool.or_false]
 have z:∀A B:Addr,(Value.ref A == Value.ref B)=decide (A=B):=fun A B=>by
  by_cases h:A=B
  ·subst h;simp
  ·rw[decide_eq_false h]
   exact beq_eq_false_iff_ne.mpr fun q=>h (by cases q;rfl)
 rw[z,z]
theorem nE {K:PySem.W.Frag} {C D G:Addr} {bm:List Value} (c:XC K C (.ref D::dm)) (cG:XC K G bm) (n1:¬G=C) (n2:¬G=D):PySem.W.kitOne K (.ref C) (kh (.ref G))=some false:=by
 show PySem.W.kitOne K (.ref C) (.ref G)=_
 rw[kit_is c cG,decide_eq_false n1,decide_eq_false n2];rfl
theorem CO {K:PySem.W.Frag} {C D:Addr} {bm:List Value} (c:XC K C (.ref D::dm)) (cD:XC K D bm):PySem.W.kitOne K (.ref C) (kh (.ref D))=some true:=by
 show PySem.W.kitOne K (.ref C) (.ref D)=_
 rw[kit_is c cD,show decide (D=D)=true from decide_eq_true rfl,Bool.or_true]
def CP:Sp:=fun vs H Q _=>∃z:Str,vs=[.str z]∧j4 z∧((dN z=none∧∀H',Same H H'→Q (.str (Str.ofString "none")) H')∨
 ∃(b:Nat) (rs:Rows) (p:Str×List (Nat×List Nat)),dN z=some (b,rs)∧p∈rs∧cR b p.2=false∧(∀q∈rs,cR b q.2=false→p.1.cps.toList≤q.1.cps.toList)∧∀H',Same H H'→Q (.str p.1) H')
theorem JA {C D G:Addr} (n1:¬G=C) (n2:¬G=D):(Value.ref C::Value.ref D::dm).contains (.ref G)=false:=by
 rw[List.contains_cons,List.contains_cons]
 have e:dm.contains (Value.ref G)=false:=rfl
 have z:∀A B:Addr,¬A=B→(Value.ref A == Value.ref B)=false:=fun A B h=>beq_eq_false_iff_ne.mpr fun q=>h (by cases q;rfl)
 rw[e,z _ _ n1,z _ _ n2];rfl
theorem wD {K:PySem.W.Frag} {H:Hp}:∀l:List Bool,aP K H (l.map V.bl) (l.map Dt.bl)
 | []=>by simp[aP]
 | x::l=>by rw[List.map_cons,List.map_cons,aP];exact⟨by rw[au],wD l⟩
theorem wF:∀l:List Bool,Dt.deps (l.map Dt.bl)=0
 | []=>by simp[Dt.deps]
 | x::l=>by rw[List.map_cons,Dt.deps,wF l];simp[Dt.dep]
theorem gV {K:PySem.W.Frag} {H:Hp} {F:Addr} {l:List Bool} (e:H F=some (.lst (l.map V.bl))):au K H (.ref F) (.lst (l.map Dt.bl)):=by rw[au];exact⟨F,_,rfl,.of e,wD l⟩
theorem nW (l:List Bool):(Dt.lst (l.map Dt.bl)).dep≤40:=by rw[Dt.dep,wF];decide
theorem wG:(Dt.lst ([true,true,false,false,false].map Dt.bl)).beq (Dt.lst (([]:List Bool).map Dt.bl))=false:=by simp[Dt.beq,Dt.dh]
theorem sU:(Dt.lst ([true,true,false,false,false].map Dt.bl)).beq (Dt.lst (([true,true,false,false,false]:List Bool).map Dt.bl))=true:=by simp[Dt.beq,Dt.dh]
theorem cY:bj ["_law_text","_law_found","_law_kinds","_law_name","e"] ["_law_text"] (aj iu):=⟨rfl,rfl,rfl,by decide+kernel,rfl,by decide+kernel,by decide+kernel⟩
theorem CQ {a:fc} {x:iz} (T:Txt K mg a) (TE:TX K mg x):bC P w K mg base dE 7 a.jO a.j1 ["_law_text"] CP:=by
 have fQ:bC P w K mg base (cy P w) 6 a.eJ a.fh ["text"] (mq x.c1 x.c4):=mK T TE
 refine T.DM.ok cY (fun vs H Q E h=>?_) (fun cdv A outer s H vs Q E hr h=>?_)
 ·obtain⟨z,rfl,_⟩:=h
  rfl
 ·obtain⟨z,rfl,az,k⟩:=h
  have fj:aO 6 _:=hr
  refine⟨_,(ai (aA (i:=1) cY.nd rfl (Or.inl rfl) AV)
  (ai (aA (i:=2) cY.nd rfl (Or.inl rfl) (bo ag))
  (ai (aA (i:=3) cY.nd rfl (Or.inl rfl) ay)
  (ai (Gf (i:=1) (j:=4) fQ fj (by rfl) T.hU T.hV T.hZ (ae (pv 0) ag) cY.nd rfl (Or.inl rfl) ⟨rfl,rfl⟩ (by rfl) TE.m1 TE.x1 (by rfl) TE.m4 TE.x4 rfl rfl
   (fun _=>ai (aA (i:=3) cY.nd rfl (Or.inl rfl) (Iu K (pv 4) rfl))
    (ai (aA (i:=2) cY.nd rfl (Or.inl rfl) (bo (ae (aE (dG K) (by rfl) T.cI cj (ae (pv 4) (ae (dv (v:=.ref x.D) (by rfl) TE.mD rfl) ag))) (ae (aE (dG K) (by rfl) T.cI cj (ae (pv 4) (ae (xT (v:=.ty "ValueError") rfl TE.zV mL rfl) ag))) ag))))
    (aq (aA (i:=2) cY.nd rfl (Or.inl rfl) (ao bY (pv 2) (bo (ae (aE (dG K) (by rfl) T.cI cj (ae (pv 4) (ae (dv (v:=.ref x.c4) (by rfl) TE.m4 rfl) ag))) (ae (aE (dG K) (by rfl) T.cI cj (ae (pv 4) (ae (dv (v:=.ref x.c2) (by rfl) TE.m2 rfl) ag))) (ae (aE (dG K) (by rfl) T.cI cj (ae (pv 4) (ae (dv (v:=.ref x.c3) (by rfl) TE.m3 rfl) ag))) ag)))))))))
   (fun _=>ai (aA (i:=3) cY.nd rfl (Or.inl rfl) ay)
    (ai (aA (i:=2) cY.nd rfl (Or.inl rfl) (bo (ae (aE (dG K) (by rfl) T.cI cj (ae (pv 4) (ae (dv (v:=.ref x.D) (by rfl) TE.mD rfl) ag))) (ae (aE (dG K) (by rfl) T.cI cj (ae (pv 4) (ae (xT (v:=.ty "ValueError") rfl TE.zV mL rfl) ag))) (ae fC ag)))))
    (aq (aA (i:=2) cY.nd rfl (Or.inl rfl) (ao bY (pv 2) (bo (ae (aE (dG K) (by rfl) T.cI cj (ae (pv 4) (ae (dv (v:=.ref x.c2) (by rfl) TE.m2 rfl) ag))) (ae (aE (dG K) (by rfl) T.cI cj (ae (pv 4) (ae (dv (v:=.ref x.c3) (by rfl) TE.m3 rfl) ag))) ag)))))))))
  (ai (bM (aL (Bn K hr.units) (pv 2) (bo ag) (aR _))
   (aq (aW (pv 1)))
   bh)
  (aq (aW (aK (aU K) (bo (ae AV (ae (pv 3) ag))) (bE mR (by rfl) T.pR mV (ae (jk (Bn K hr.units) (pv 2) (bo (ae fC (ae fC (ae fC (ae fC (ae fC ag)))))) (aR _)) ag)) (fun _ _=>rfl))))))))),?_⟩
  have ne:=TE.ne
  simp only[List.nodup_cons,List.mem_cons,List.not_mem_nil,or_false,not_or] at ne
  obtain⟨⟨n12,n13,n14,R9⟩,⟨n23,n24,ML⟩,⟨n34,MM⟩,R',_⟩:=ne
  obtain⟨h0,n_⟩:=TE.n_
  refine⟨by decide,fun L hL=>?_⟩
  have sL:=Same.new (o:=.lst []) hL
  have eL:(upd H L (.lst [])) L=some (.lst ([].map V.bl)):=af
  generalize upd H L (.lst [])=H0 at sL eL ⊢
  refine⟨_,rfl,z,rfl,az,fun wn H1 y s1 Hy=>?_,fun b rs wr=>⟨fun all=>?_,fun p hp fp hmin H1 y dx s1 Hy JB=>?_⟩⟩
  ·rcases k with⟨_,k⟩ | ⟨b,rs,p,e,_⟩
   case inr=>rw[wn] at e;cases e
   have hod:∀jV,(none:Option Addr)=some jV→∃fs,H1 jV=some (.xd fs):=fun jV z=>by cases z
   refine⟨y,x.c4,_,rfl,Hy,TE.x4,.inr ⟨JA n14 R9,by simp,?_⟩⟩
   refine⟨_,rfl,y,x.c4,none,_,false,true,.ref x.D,rfl,Hy,hod,TE.x4,CO TE.x4 TE.xD,_,rfl,y,x.c4,none,_,false,true,.ty "ValueError",rfl,Hy,hod,TE.x4,BE n_ TE.x4,by show 3≤sizeLine;decide,fun M hM=>?_⟩
   generalize h2:upd H1 M _=H2
   have s2:Same H1 H2:=h2▸Same.new hM
   have eM:H2 M=some (.lst ([true,true,false].map V.bl)):=by rw[←h2];exact af
   clear h2
   have yG:=s2 _ _ Hy
   have qT:∀jV,(none:Option Addr)=some jV→∃fs,H2 jV=some (.xd fs):=fun jV z=>by cases z
   refine⟨_,rfl,_,rfl,y,x.c4,none,_,false,false,.ref x.c2,rfl,yG,qT,TE.x4,nE TE.x4 TE.x2 n24 ML,_,rfl,y,x.c4,none,_,false,false,.ref x.c3,rfl,yG,qT,TE.x4,nE TE.x4 TE.x3 n34 MM,by show 2≤sizeLine;decide,fun N hN=>?_⟩
   generalize h3:upd H2 N _=H3
   have s3:Same H2 H3:=h3▸Same.new hN
   have eN:H3 N=some (.lst ([false,false].map V.bl)):=by rw[←h3];exact af
   clear h3
   refine⟨M,N,_,_,rfl,rfl,s3 _ _ eM,eN,by show 5≤sizeLine;decide,fun F hF=>?_⟩
   generalize h4:upd H3 F _=H4
   have s4:Same H3 H4:=h4▸Same.new hF
   have eF:H4 F=some (.lst ([true,true,false,false,false].map V.bl)):=by rw[←h4];exact af
   clear h4
   refine⟨_,rfl,by decide,fun E1 JC=>?_⟩
   generalize h5:upd H4 E1 _=H5
   have s5:Same H4 H5:=h5▸Same.new JC
   have JD:H5 E1=some (.lst (([]:List Bool).map V.bl)):=by rw[←h5];exact af
   clear h5
   refine⟨_,_,gV (s5 _ _ eF),gV JD,rfl,rfl,nW _,_,rfl,?_⟩
   rw[wG]
   refine bZ ⟨_,rfl,by show 2≤sizeLine;decide,fun R hR=>?_⟩
   generalize h6:upd H5 R _=H6
   have s6:Same H5 H6:=h6▸Same.new hR
   have eR:H6 R=some (.lst [.non,.str (Str.ofString "none")]):=by rw[←h6];exact af
   clear h6
   refine⟨_,rfl,by show 5≤sizeLine;decide,fun V5 JE=>?_⟩
   generalize h7:upd H6 V5 _=H7
   have s7:Same H6 H7:=h7▸Same.new JE
   have eV:H7 V5=some (.lst (([true,true,false,false,false]:List Bool).map V.bl)):=by rw[←h7];exact af
   clear h7
   refine⟨_,_,gV (s7 _ _ (s6 _ _ (s5 _ _ eF))),gV eV,rfl,rfl,nW _,?_⟩
   rw[sU]
   refine .inr ⟨true,rfl,R,_,_,.str (Str.ofString "none"),rfl,rfl,.of (s7 _ _ eR),aB (j:=1) rfl,?_⟩
   exact k H7 (sL.trans (s1.trans (s2.trans (s3.trans (s4.trans (s5.trans (s6.trans s7)))))))
  ·rcases k with⟨e,_⟩ | ⟨b',rs',p,e,hp,fp,_⟩
   ·rw[wr] at e;cases e
   ·rw[wr] at e
    cases e
    rw[all p hp] at fp
    cases fp
  ·rcases k with⟨e,_⟩ | ⟨b',rs',p',e,hp',fp',hmin',k⟩
   ·rw[wr] at e;cases e
   rw[wr] at e
   cases e
   have Jx:p'.1=p.1:=ft (Std.le_antisymm (hmin' p hp fp) (hmin p' hp' fp'))
   rw[Jx] at k
   have hod:∀jV,some dx=some jV→∃fs,H1 jV=some (.xd fs):=fun jV z=>by cases z;exact⟨_,JB⟩
   refine⟨y,x.c1,_,rfl,Hy,TE.x1,.inl ⟨by simp,?_⟩⟩
   refine⟨_,rfl,y,x.c1,dx,_,false,_,.str p.1,rfl,Hy,JB,TE.x1,TE.n1,rfl,?_⟩
   refine⟨_,rfl,y,x.c1,some dx,_,false,true,.ref x.D,rfl,Hy,hod,TE.x1,CO TE.x1 TE.xD,_,rfl,y,x.c1,some dx,_,false,true,.ty "ValueError",rfl,Hy,hod,TE.x1,BE n_ TE.x1,by show 2≤sizeLine;decide,fun M hM=>?_⟩
   generalize h2:upd H1 M _=H2
   have s2:Same H1 H2:=h2▸Same.new hM
   have eM:H2 M=some (.lst ([true,true].map V.bl)):=by rw[←h2];exact af
   clear h2
   have yG:=s2 _ _ Hy
   have qT:∀jV,some dx=some jV→∃fs,H2 jV=some (.xd fs):=fun jV z=>by cases z;exact⟨_,s2 _ _ JB⟩
   refine⟨_,rfl,_,rfl,y,x.c1,some dx,_,false,false,.ref x.c4,rfl,yG,qT,TE.x1,nE TE.x1 TE.x4 (Ne.symm n14) R',_,rfl,y,x.c1,some dx,_,false,false,.ref x.c2,rfl,yG,qT,TE.x1,nE TE.x1 TE.x2 (Ne.symm n12) ML,_,rfl,y,x.c1,some dx,_,false,false,.ref x.c3,rfl,yG,qT,TE.x1,nE TE.x1 TE.x3 (Ne.symm n13) MM,by show 3≤sizeLine;decide,fun N hN=>?_⟩
   generalize h3:upd H2 N _=H3
   have s3:Same H2 H3:=h3▸Same.new hN
   have eN:H3 N=some (.lst ([false,false,false].map V.bl)):=by rw[←h3];exact af
   clear h3
   refine⟨M,N,_,_,rfl,rfl,s3 _ _ eM,eN,by show 5≤sizeLine;decide,fun F hF=>?_⟩
   generalize h4:upd H3 F _=H4
   have s4:Same H3 H4:=h4▸Same.new hF
   have eF:H4 F=some (.lst ([true,true,false,false,false].map V.bl)):=by rw[←h4];exact af
   clear h4
   refine⟨_,rfl,by decide,fun E1 JC=>?_⟩
   generalize h5:upd H4 E1 _=H5
   have s5:Same H4 H5:=h5▸Same.new JC
   have JD:H5 E1=some (.lst (([]:List Bool).map V.bl)):=by rw[←h5];exact af
   clear h5
   refine⟨_,_,gV (s5 _ _ eF),gV JD,rfl,rfl,nW _,_,rfl,?_⟩
   rw[wG]
   refine bZ ⟨_,rfl,by show 2≤sizeLine;decide,fun R hR=>?_⟩
   generalize h6:upd H5 R _=H6
   have s6:Same H5 H6:=h6▸Same.new hR
   have eR:H6 R=some (.lst [.non,.str p.1]):=by rw[←h6];exact af
   clear h6
   refine⟨_,rfl,by show 5≤sizeLine;decide,fun V5 JE=>?_⟩
   generalize h7:upd H6 V5 _=H7
   have s7:Same H6 H7:=h7▸Same.new JE
   have eV:H7 V5=some (.lst (([true,true,false,false,false]:List Bool).map V.bl)):=by rw[←h7];exact af
   clear h7
   refine⟨_,_,gV (s7 _ _ (s6 _ _ (s5 _ _ eF))),gV eV,rfl,rfl,nW _,?_⟩
   rw[sU]
   refine .inr ⟨true,rfl,R,_,_,.str p.1,rfl,rfl,.of (s7 _ _ eR),aB (j:=1) rfl,?_⟩
   exact k H7 (sL.trans (s1.trans (s2.trans (s3.trans (s4.trans (s5.trans (s6.trans s7)))))))
theorem right_of {b:Nat} {sg:List Nat} {mv:List (List Nat)} (R:Right b sg mv):fP b (av sg) (mv.map av)=true:=by
 refine sv (by rw[List.length_map,aY,R.len]) fun i l e=>?_
 rw[List.getElem?_map] at e
 cases em:mv[i]? with
 | none=>rw[em] at e;cases e
 | some l0=>
  rw[em] at e
  have:=Option.some.inj e
  subst this
  obtain⟨lb,ls⟩:=R.lead l0 (List.mem_of_getElem? em)
  have VA:0<l0.length:=by have:=R.two;omega
  have cg:∀(zs:List Nat) (i:Nat),(av zs).getD i 0=((zs.getD i 0:Nat):Int):=fun zs i=>by
   rw[List.getD_eq_getElem?_getD,jS,List.getD_eq_getElem?_getD]
   cases zs[i]? <;>rfl
  unfold gD
  rw[decide_eq_true (show(av l0).length=b by rw[aY,lb]),cg l0,Int.toNat_natCast,cg sg,cg sg,R.like i l0 em,decide_eq_true rfl,Bool.and_true,Bool.true_and]
  refine List.all_eq_true.mpr fun x hx=>?_
  obtain⟨n,hn,rfl⟩:=List.mem_map.mp hx
  have:=ls n hn
  unfold inB
  rw[aY,decide_eq_true (show(0:Int)≤(n:Int) by omega),decide_eq_true (show(n:Int)<(sg.length:Int) by omega)]
  rfl
theorem xN (l:List Str):∃ss:List Str,ss.Perm l∧PyProof.Rows.sortedS ss=true:=by
 refine⟨l.mergeSort fun a b=>decide (a.cps.toList≤b.cps.toList),List.mergeSort_perm _ _,PyProof.Rows.sortedS_of_pairwise _ ?_⟩
 refine(List.pairwise_mergeSort (le:=fun a b:Str=>decide (a.cps.toList≤b.cps.toList)) (fun a b c h1 h2=>decide_eq_true (List.le_trans (of_decide_eq_true h1) (of_decide_eq_true h2))) (fun a b=>?_) l).imp fun {a b} h=>?_
 ·rcases Std.le_total (a:=a.cps.toList) (b:=b.cps.toList) with h | h
  ·rw[decide_eq_true h];rfl
  ·rw[decide_eq_true h,Bool.or_true]
 ·rw[PyProof.Rows.ltCps_eq]
  exact decide_eq_false (List.not_lt.mpr (of_decide_eq_true h))
theorem build {α β:Type} {R:α×β→Prop}:∀{ss:List α},(∀x∈ss,∃y,R (x,y))→∃ro:List (α×β),ro.map (·.1)=ss∧∀p∈ro,R p
 | [],_=>⟨[],rfl,fun p hp=>by cases hp⟩
 | x::ss,h=>by
  obtain⟨y,hy⟩:=h x List.mem_cons_self
  obtain⟨ro,e,hr⟩:=build fun z hz=>h z (List.mem_cons_of_mem _ hz)
  exact⟨(x,y)::ro,by rw[List.map_cons,e],fun p hp=>(List.mem_cons.mp hp).elim (fun z=>z▸hy) (hr p)⟩
theorem yH {α β:Type}:∀{l:List α} {m:List β},m.length=l.length→(l.zip m).map (·.1)=l
 | [],_,_=>by simp
 | _::_,[],h=>by simp at h
 | x::l,y::m,h=>by
  rw[List.zip_cons_cons,List.map_cons,yH (by simpa using h)]
theorem yI {α β:Type}:∀{l:List α} {m:List β},m.length=l.length→(l.zip m).map (·.2)=m
 | [],[],_=>rfl
 | [],_::_,h=>by simp at h
 | _::_,[],h=>by simp at h
 | x::l,y::m,h=>by
  rw[List.zip_cons_cons,List.map_cons,yI (by simpa using h)]
theorem AF {x:Str} (h:md true x):nameB cf x=true:=by
 obtain⟨h1,h2,h3,h4⟩:=h
 unfold nameB
 rw[decide_eq_true h1,decide_eq_true h2,decide_eq_false h4]
 have:mh x cf=true:=by
  unfold mh
  rw[List.all_eq_true]
  exact fun c hc=>decide_eq_true (h3 c hc)
 rw[this];rfl
theorem Ks.rows {H:Hp} {b:Nat} {kvs:List (Key×V)} {ks:List Str} (h:Ks H b kvs ks) (b2:2≤b):∃ro:Rows,WS H kvs ro∧(∀p∈ro,dg b p)∧(∀p∈ro,cR b p.2=true)∧ro.length=ks.length:=by
 obtain⟨ss,pm,so⟩:=xN ks
 obtain⟨ro,er,hr⟩:=build (R:=fun p:Str×List (Nat×List Nat)=>(∃r,cH kvs (Sum.inr p.1)=some (.ref r)∧dj H r (p.2.map (·.1)) (p.2.map (·.2)))∧dg b p∧cR b p.2=true) (ss:=ss) fun x hx=>by
  obtain⟨r,sg,mv,h1,h2,h3,h4,h5,h6,h7⟩:=h.good x (pm.mem_iff.mp hx)
  have z1:=yH (l:=sg) (m:=mv) h3.len
  have z2:=yI (l:=sg) (m:=mv) h3.len
  refine⟨sg.zip mv,⟨r,h1,?_⟩,⟨AF h7,?_,?_,fun q hq=>?_⟩,?_⟩
  ·show dj H r ((sg.zip mv).map (·.1)) ((sg.zip mv).map (·.2))
   rw[z1,z2];exact h2
  ·show 1≤(sg.zip mv).length
   rw[List.length_zip,h3.len];omega
  ·show(sg.zip mv).length≤8
   rw[List.length_zip,h3.len];omega
  ·have m1:q.1∈sg:=by rw[←z1];exact List.mem_map.mpr ⟨q,hq,rfl⟩
   have m2:q.2∈mv:=by rw[←z2];exact List.mem_map.mpr ⟨q,hq,rfl⟩
   obtain⟨l1,l2⟩:=h3.lead _ m2
   exact⟨h6 _ m1,l1,fun y hy=>by have:=l2 y hy;omega⟩
  ·show fP b (av ((sg.zip mv).map (·.1))) (((sg.zip mv).map (·.2)).map av)=true
   rw[z1,z2];exact right_of h3
 refine⟨ro,⟨⟨ks,h.keys,er▸pm.symm⟩,?_,fun p hp=>(hr p hp).1⟩,fun p hp=>(hr p hp).2.1,fun p hp=>(hr p hp).2.2,?_⟩
 ·rw[er]
  unfold rising
  rw[so,decide_eq_true (pm.nodup_iff.mpr h.nd)];rfl
 ·rw[←pm.length_eq,←er,List.length_map]
theorem nG {K:PySem.W.Frag} {H:Hp}:∀l:List Int,aP K H (l.map V.int) (l.map Dt.int)
 | []=>by simp[aP]
 | x::l=>by rw[List.map_cons,List.map_cons,aP];exact⟨by rw[au],nG l⟩
theorem nH:∀l:List Int,Dt.deps (l.map Dt.int)=0
 | []=>by simp[Dt.deps]
 | x::l=>by rw[List.map_cons,Dt.deps,nH l];simp[Dt.dep]
theorem sV {K:PySem.W.Frag} {H:Hp}:∀{ps:List Addr} {ls:List (List Int)},cb H ps ls→aP K H (ps.map V.ref) (ls.map fun l=>Dt.tup (l.map Dt.int))
 | _,_,.nil=>by simp[aP]
 | _,_,.cons h t=>by
  rw[List.map_cons,List.map_cons,aP]
  exact⟨by rw[au];exact⟨_,_,rfl,.of h,nG _⟩,sV t⟩
theorem sX:∀ls:List (List Int),Dt.deps (ls.map fun l=>Dt.tup (l.map Dt.int))≤1
 | []=>by simp[Dt.deps]
 | l::ls=>by
  rw[List.map_cons,Dt.deps,Dt.dep,nH]
  have:=sX ls
  omega
def AG (sg:List Nat) (mv:List (List Nat)):Dt:=.tup [.tup ((av sg).map Dt.int),.tup ((mv.map av).map fun l=>Dt.tup (l.map Dt.int))]
theorem yJ {K:PySem.W.Frag} {H:Hp} {r:Addr} {sg:List Nat} {mv:List (List Nat)} (h:dj H r sg mv):au K H (.ref r) (AG sg mv):=by
 obtain⟨sa,ma,ps,h1,h2,h3,h4⟩:=h
 unfold AG
 rw[au]
 refine⟨r,_,rfl,.of h1,?_⟩
 rw[aP,aP,aP,au,au]
 exact⟨⟨sa,_,rfl,.of h2,nG _⟩,⟨ma,_,rfl,.of h3,sV h4⟩,trivial⟩
theorem GR (sg:List Nat) (mv:List (List Nat)):(AG sg mv).dep≤30:=by
 unfold AG
 have:=sX (mv.map av)
 simp only[Dt.dep,Dt.deps,nH]
 omega
theorem p9 {K:PySem.W.Frag} {H:Hp} {k1 k2:List (Key×V)} {ro:Rows} (h1:WR H k1 ro) (h2:WS H k2 ro):t7 K H k1 k2:=by
 obtain⟨ks,ek,pk⟩:=h2.keys
 have nd:=h2.nd
 have Fc:(k1.map (·.1)).Nodup:=by
  rw[h1.keys,show(ro.map fun p=>(Sum.inr p.1:Key))=(ro.map (·.1)).map fun x=>(Sum.inr x:Key) by rw[List.map_map];rfl]
  exact sI nd
 refine⟨?_,fun p hp=>?_⟩
 ·have l1:=congrArg List.length h1.keys
  have l2:=congrArg List.length ek
  have l3:=pk.length_eq
  simp only[List.length_map] at l1 l2 l3
  omega
 ·have:p.1∈k1.map (·.1):=List.mem_map.mpr ⟨p,hp,rfl⟩
  rw[h1.keys] at this
  obtain⟨q,hq,eq⟩:=List.mem_map.mp this
  obtain⟨r,er,ra⟩:=h1.rows q hq
  obtain⟨r',Sb,Sd⟩:=h2.rows q hq
  have ev:=qI (k:=p.1) (v:=p.2) Fc hp
  rw[←eq] at ev ⊢
  rw[er] at ev
  rw[←Option.some.inj ev]
  exact⟨_,_,Sb,yJ ra,yJ Sd,GR _ _⟩
theorem qa {b:Nat} {ro:Rows} {z:Str} (b2:2≤b) (b4:b≤4) (few:ro.length≤4) (ok:∀p∈ro,dg b p) (up:rising (ro.map (·.1))=true) (e:ak z=pY b ro):dN z=some (b,ro)∧j4 z:=by
 have h:=jh (z:=z) (ls:=bL b ro) (by unfold bL;simp) (by unfold bL;simp;omega) (gK b4 ok) (by rw[e,iR];rfl)
 rw[oB b2 b4 ok,if_pos ⟨few,up⟩] at h
 exact h
theorem cb.app {H:Hp}:∀{ps qs:List Addr} {ls ms:List (List Int)},cb H ps ls→cb H qs ms→cb H (ps++qs) (ls++ms)
 | [],_,_,_,.nil,h=>h
 | _::_,_,_::_,_,.cons a t,h=>.cons a (cb.app t h)
theorem cb.take {H:Hp}:∀{ps:List Addr} {ls:List (List Int)} (n:Nat),cb H ps ls→cb H (ps.take n) (ls.take n)
 | _,_,0,_=>.nil
 | [],_,_+1,.nil=>.nil
 | _::_,_::_,n+1,.cons a t=>.cons a (cb.take n t)
theorem cb.drop {H:Hp}:∀{ps:List Addr} {ls:List (List Int)} (n:Nat),cb H ps ls→cb H (ps.drop n) (ls.drop n)
 | _,_,0,h=>h
 | [],_,_+1,.nil=>.nil
 | _::_,_::_,n+1,.cons _ t=>cb.drop n t
theorem cb.one {H:Hp} {p:Addr} {l:List Int} (h:H p=some (.tup (l.map V.int))):cb H [p] [l]:=.cons h .nil
theorem nI {d g:Addr} {H H':Hp} {o:HO} (k:KB d H H') (hg:H g=none):KB d H (upd H' g o):=fun b u e n=>by
 rw[aF (aH e hg)]
 exact k b u e n
def ib (ro:Rows) (nm:Str) (rm:List (Nat×List Nat)):Rows:=ro.map fun p=>if p.1=nm then(nm,rm) else p
theorem qb (ro:Rows) (nm:Str) (rm:List (Nat×List Nat)):(ib ro nm rm).map (·.1)=ro.map (·.1):=by
 unfold ib
 rw[List.map_map]
 refine List.map_congr_left fun p _=>?_
 show(if p.1=nm then(nm,rm) else p).1=p.1
 split
 ·rename_i h;exact h.symm
 ·rfl
theorem oX {ro:Rows} {nm:Str} {rm:List (Nat×List Nat)} {q:Str×List (Nat×List Nat)} (h:q∈ib ro nm rm):q=(nm,rm)∨(q∈ro∧q.1≠nm):=by
 obtain⟨p,hp,rfl⟩:=List.mem_map.mp h
 by_cases e:p.1=nm
 ·rw[if_pos e];exact .inl rfl
 ·rw[if_neg e];exact .inr ⟨hp,e⟩
theorem GS {ro:Rows} {nm:Str} {rm:List (Nat×List Nat)} (h:nm∈ro.map (·.1)):(nm,rm)∈ib ro nm rm:=by
 obtain⟨p,hp,e⟩:=List.mem_map.mp h
 exact List.mem_map.mpr ⟨p,hp,if_pos e⟩
theorem GU {H:Hp} {wa D:Addr} {b:Nat} {kvs:List (Key×V)} {ro:Rows} {mM D' r':Addr} {nm:Str} {rm:List (Nat×List Nat)} (W:WT H wa D b kvs ro) (hn:nm∈ro.map (·.1)) (e1:H mM=some (.tup [.int (b:Nat),.ref D'])) (e2:H D'=some (.dK (putK kvs (Sum.inr nm) (.ref r')))) (ra:dj H r' (rm.map (·.1)) (rm.map (·.2))) (ok:dg b (nm,rm)):
  WT H mM D' b (putK kvs (Sum.inr nm) (.ref r')) (ib ro nm rm):=by
 obtain⟨ks,ek,pk⟩:=W.ws.keys
 refine⟨e1,e2,⟨⟨ks,ou ek _ (pk.mem_iff.mpr hn),by rw[qb];exact pk⟩,by rw[qb];exact W.ws.up,fun q hq=>?_⟩,W.two,W.four,?_,fun q hq=>?_⟩
 ·rcases oX hq with rfl | ⟨h1,h2⟩
  ·exact⟨r',by rw[lJ,if_pos rfl],ra⟩
  ·obtain⟨r,er,h⟩:=W.ws.rows q h1
   exact⟨r,by rw[lJ,if_neg (fun z=>h2 (Sum.inr.inj z))];exact er,h⟩
 ·have:=W.few
  unfold ib
  rw[List.length_map];exact this
 ·rcases oX hq with rfl | ⟨h1,h2⟩
  ·exact ok
  ·exact W.ok q h1
theorem CS (l:List Nat) (i x:Nat):(av l).set i (x:Int)=av (l.set i x):=by unfold av;rw[List.map_set]
theorem Eb {b:Nat} {rm:List (Nat×List Nat)} {j f x s:Nat} {l:List Nat} (e:rm[j]? =some (s,l)) (hf:f<l.length) (hx:rm.length≤x):cR b (rm.set j (s,l.set f x))=false:=by
 have hj:=(List.getElem?_eq_some_iff.mp e).1
 unfold cR
 refine oQ (i:=j) (l:=av (l.set f x)) ?_ ?_
 ·rw[List.getElem?_map,List.getElem?_map,List.getElem?_set_self hj];rfl
 ·unfold gD
  have:(av (l.set f x)).all (inB (av ((rm.set j (s,l.set f x)).map (·.1))).length)=false:=by
   rw[List.all_eq_false]
   refine⟨(x:Int),?_,?_⟩
   ·unfold av
    refine List.mem_map.mpr ⟨x,?_,rfl⟩
    exact List.mem_of_getElem? (List.getElem?_set_self hf)
   ·unfold inB
    rw[aY,List.length_map,List.length_set,decide_eq_false (p:=(x:Int)<((rm.length:Nat):Int)) (by omega),Bool.and_false]
    decide
  rw[this,Bool.false_and,Bool.and_false]
def CT (b x:Nat):List (Nat×List Nat):=[(1,List.replicate b x),(2,List.replicate b 0)]
theorem GV {b x:Nat} (b1:1≤b):cR b (CT b x)=false:=by
 unfold cR
 refine oQ (i:=1) (l:=av (List.replicate b 0)) rfl ?_
 unfold gD
 have e0:(av (List.replicate b 0)).getD 0 0=0:=by
  obtain⟨n,rfl⟩:∃n,b=n+1:=⟨b-1,by omega⟩
  rfl
 rw[e0]
 have:decide ((av ((CT b x).map (·.1))).getD (0:Int).toNat 0=(av ((CT b x).map (·.1))).getD 1 0)=false:=rfl
 rw[this,Bool.and_false,Bool.and_false]
theorem GW {rm:List (Nat×List Nat)} {j s:Nat} {l l':List Nat} (e:rm[j]? =some (s,l)):(rm.set j (s,l')).map (·.1)=rm.map (·.1):=by
 rw[List.map_set]
 have hj:=(List.getElem?_eq_some_iff.mp e).1
 apply List.ext_getElem?
 intro i
 rw[List.getElem?_set]
 split
 ·rename_i h
  subst h
  rw[List.getElem?_map,e,if_pos (by rw[List.length_map];exact hj)];rfl
 ·rfl
theorem GX {rm:List (Nat×List Nat)} {j s:Nat} {l':List Nat}:(rm.set j (s,l')).map (·.2)=(rm.map (·.2)).set j l':=by rw[List.map_set]
theorem tT {α:Type} {l:List α} {j:Nat} {x:α} (h:j<l.length):l.take j++[x]++l.drop (j+1)=l.set j x:=by
 rw[List.set_eq_take_append_cons_drop,if_pos h,List.append_assoc];rfl
theorem CU {c:Bool} {T:Prop} {S1 S2:Hp→Prop} {H:Hp} (Good:Hp→Prop) (g0:Good H) (hT:(∀(d:Bool) H',Good H'→c=true→(if d=true then S1 H' else S2 H'))→c=true→T) (h1:∀H',Good H'→c=true→S1 H') (h2:∀H',Good H'→S2 H'):if c=true then T else(if false=true then S1 H else S2 H):=by
 cases c with
 | false=>exact bZ (bZ (h2 H g0))
 | true=>
  refine b_ (hT (fun d H' g _=>?_) rfl)
  cases d with
  | false=>exact bZ (h2 H' g)
  | true=>exact b_ (h1 H' g rfl)
theorem CV {n k:Nat} (h:k<n):oh n (k:Int)=some k:=by
 unfold oh
 rw[if_pos (by omega),if_pos (by omega)];rfl
theorem nX {d g:Addr} {H H':Hp} (k:KB d H H') (n:g≠d) (h:H' g=none):H g=none:=by
 cases z:H g with
 | none=>rfl
 | some o=>have:=k g o z n;rw[h] at this;cases this
theorem yK (b y:Nat):(some (HO.tup (List.replicate b [V.int (y:Nat)]).flatten))=some (HO.tup ((av (List.replicate b y)).map V.int)):=by
 congr 2
 unfold av
 rw[List.map_replicate,List.map_replicate]
 induction b with
 | zero=>rfl
 | succ n ih=>rw[List.replicate_succ,List.flatten_cons,ih,List.replicate_succ];rfl
def GY:Sp:=fun vs H Q _=>∃(d wa D:Addr) (b:Nat) (kvs:List (Key×V)) (ro:Rows) (nm:Str),vs=[.ref d,.ref wa,.str nm]∧bA H d∧WT H wa D b kvs ro∧nm∈ro.map (·.1)∧(∀p∈ro,cR b p.2=true)∧
 ∀(mM D':Addr) (kvs':List (Key×V)) (rm:List (Nat×List Nat)) (H':Hp),KB d H H'→bA H' d→WT H' mM D' b kvs' (ib ro nm rm)→cR b rm=false→Q (.ref mM) H'
theorem cT:bj ["_law_deck_here","_law_world_here","_law_name","_law_signs","_law_moves","_law_at","_law_figure","_law_row_here","_law_rows","_law_bad"] ["_law_deck_here","_law_world_here","_law_name"] (aj fY):=⟨rfl,rfl,rfl,by decide+kernel,rfl,by decide+kernel,by decide+kernel⟩
theorem xO {a:fc} (T:Txt K mg a):bC P w K mg base dE 2 a.je a.kn ["_law_deck_here","_law_world_here","_law_name"] GY:=by
 have aV:=fO (P:=P) (w:=w) (base:=base) T
 refine T.zY.ok cT (fun vs H Q E h=>?_) (fun cdv A outer s H vs Q E hr h=>?_)
 ·obtain⟨d,wa,D,b,kvs,ro,nm,rfl,_⟩:=h
  rfl
 ·obtain⟨d,wa,D,b,kvs,ro,nm,rfl,d0,W,hn,rt,k⟩:=h
  have aN:aO 1 _:=hr
  refine⟨_,(ai (mP (kL (lI hr) (aK (bD K) (pv 1) ah (fun _ _=>rfl)) (pv 2) (fun _ _=>rfl)) (oZ rfl (dP (aS (i:=3) cT.nd rfl (Or.inl rfl)) (dP (aS (i:=4) cT.nd rfl (Or.inl rfl)) kC))))
  (ai (aA (i:=5) cT.nd rfl (Or.inl rfl) (aD aV aN rfl T.bu T.bw T.bz .nil bf (ae (pv 0) (ae (aE (aQ K) (by rfl) T.bT bK (ae (pv 3) ag)) ag))))
  (ai (aA (i:=6) cT.nd rfl (Or.inl rfl) (aD aV aN rfl T.bu T.bw T.bz .nil bf (ae (pv 0) (ae (aK (bD K) (pv 1) ah (fun _ _=>rfl)) ag))))
  (ai (aA (i:=7) cT.nd rfl (Or.inl rfl) (bE (zj K) (by rfl) T.IW FT (ae (aK (bD K) (pv 4) (pv 5) (fun _ _=>rfl)) ag)))
  (ai (bM (PW.pt (ky (aL o6 (aE (aQ K) (by rfl) T.bT bK (ae (pv 3) ag)) ah (aR _)) (nK (aL dZ (aD aV aN rfl T.bu T.bw T.bz .nil bf (ae (pv 0) (ae ah ag))) ah (aR _)))))
   (ai (mP (ao cp (aE (aQ K) (by rfl) T.bT bK (ae (pv 3) ag)) (aD aV aN rfl T.bu T.bw T.bz .nil bf (ae (pv 0) (ae (ao jv ah (aE (aQ K) (by rfl) T.bT bK (ae (pv 3) ag))) ag)))) (uf (pv 7) (pv 6) set_list))
   (aq (aA (i:=8) cT.nd rfl (Or.inl rfl) (yc (uE (pv 2) (cU (ae (pv 3) (ae (ao (yr K) (ao (yr K) (br (yo K) (pv 4) bG (bF (pv 5))) (cU (ae (bE (dQ K) (by rfl) T.ix gG (ae (pv 7) ag)) ag))) (br (yo K) (pv 4) (bF (ao cp (pv 5) ah)) bG)) ag))) yb) rfl rfl (fun z=>nomatch z) (by decide)))))
   (ai (mP (ao cq (ao cp (pv 5) ah) ah) (uf (pv 7) ah set_list))
   (aq (aA (i:=8) cT.nd rfl (Or.inl rfl) (yc (uE (pv 2) (cU (ae (cU (ae ah (ae ah ag))) (ae (cU (ae (ao (uY K) (cU (ae (aK (aU K) (pv 7) ah (fun _ _=>rfl)) ag)) (aK (bD K) (pv 1) ah (fun _ _=>rfl))) (ae (ao (uY K) (cU (ae ah ag)) (aK (bD K) (pv 1) ah (fun _ _=>rfl))) ag))) ag))) yb) rfl rfl (fun z=>nomatch z) (by decide))))))
  (ai (aA (i:=9) cT.nd rfl (Or.inl rfl) (bE zp (by rfl) T.Ci yg (ae (aK (bD K) (pv 1) ah (fun _ _=>rfl)) ag)))
  (ai (ya (lI hr) (pv 9) (pv 2) (kL (lI hr) (pv 8) (pv 2) (fun _ _=>rfl)) rfl)
  (aq (aW (cU (ae (aK (bD K) (pv 1) ah (fun _ _=>rfl)) (ae (pv 9) ag)))))))))))),?_⟩
  obtain⟨p,hp,ep⟩:=List.mem_map.mp hn
  subst ep
  obtain⟨r,er,sa,ma,ps,e1,e2,e3,tp⟩:=W.ws.rows p hp
  have jU:=W.ok p hp
  have VB:=rt p hp
  have b2:=W.two
  have b4:=W.four
  have n1:1≤p.2.length:=jU.2.1
  have n8:p.2.length≤8:=jU.2.2.1
  have lp:ps.length=p.2.length:=by rw[Paired.length tp,List.length_map,List.length_map]
  have ls:((av (p.2.map (·.1))).map V.int).length=p.2.length:=by rw[List.length_map,aY,List.length_map]
  refine⟨_,rfl,wa,_,_,_,rfl,rfl,.of W.wa,aB (j:=1) (v:=.ref D) rfl,_,rfl,D,.ref r,rfl,pT (.inl W.dict) er,r,_,rfl,.of e1,rfl,_,_,rfl,_,_,rfl,rfl,?_⟩
  refine⟨_,rfl,_,rfl,_,_,rfl,.inr ⟨_,.of e2,rfl⟩,d,_,rfl,d0,by rw[ls];omega,fun q H1 q0 q1 k1 d1=>?_⟩
  rw[ls] at q1
  obtain⟨j,rfl⟩:∃j:Nat,q=(j:Int):=⟨q.toNat,by omega⟩
  have hj:j<p.2.length:=by omega
  have Se:bQ H H1:=by obtain⟨xs,ex⟩:=d0.is;exact bQ.kb ex k1
  refine⟨_,rfl,_,rfl,wa,_,_,_,rfl,rfl,.of (Se _ _ W.wa),aB (j:=0) (v:=.int (b:Nat)) rfl,d,_,rfl,d1,by omega,fun f H2 f0 f1 k2 d2=>?_⟩
  obtain⟨f,rfl⟩:∃j:Nat,f=(j:Int):=⟨f.toNat,by omega⟩
  have hf:f<b:=by omega
  have Fi:=k1.trans k2
  have MN:bQ H H2:=by obtain⟨xs,ex⟩:=d0.is;exact bQ.kb ex Fi
  obtain⟨q,eq⟩:∃q,p.2[j]? =some q:=⟨p.2[j],List.getElem?_eq_getElem hj⟩
  have rq:fB b q:=jU.2.2.2 q (List.mem_of_getElem? eq)
  obtain⟨pj,MO⟩:∃pj,ps[j]? =some pj:=⟨ps[j]'(by omega),List.getElem?_eq_getElem (by omega)⟩
  have Sf:=tp.keep MN
  obtain⟨l',hl',el⟩:=Sf.get MO
  rw[List.getElem?_map,List.getElem?_map,eq] at hl'
  obtain rfl:av q.2=l':=Option.some.inj hl'
  refine⟨_,rfl,_,rfl,ma,_,_,_,rfl,rfl,.of (MN _ _ e3),aB (v:=.ref pj) (by rw[List.getElem?_map,MO];rfl),pj,_,rfl,.inr (.of el),fun G hG=>?_⟩
  have wH:G≠d:=(d2.ne hG).symm
  generalize h3:upd H2 G _=H3
  have sG:Same H2 H3:=h3▸Same.new hG
  have eG:H3 G=some (.lst ((av q.2).map V.int)):=by rw[←h3];exact af
  clear h3
  have d3:=d2.same sG
  have su:D≠d:=by obtain⟨xs,ex⟩:=d0.is;exact lB W.dict ex (fun z=>nomatch z)
  have JF:KB d H H3:=Fi.trans sG.kb
  have qc:∀{H':Hp},KB d H H'→bQ H H':=fun k=>by obtain⟨xs,ex⟩:=d0.is;exact bQ.kb ex k
  dsimp only[eU]
  refine r6 (t:=ud _ _ _) (fun σ H'=>∃(G R r':Addr) (yL:List (Nat×List Nat)),σ=[some (.ref d),some (.ref wa),some (.str p.1),some (.ref sa),some (.ref ma),some (.int (j:Nat)),some (.int (f:Nat)),some (.ref G),some (.ref R),none]∧KB d H H'∧bA H' d∧H' R=some (.dK [(Sum.inr p.1,.ref r')])∧dj H' r' (yL.map (·.1)) (yL.map (·.2))∧dg b (p.1,yL)∧cR b yL=false) ?re (fun Rr MP=>?_)
  case re=>
   rintro σ H4 ⟨G,R,r',yL,rfl,k4,d4,eR,ra,ok',bad⟩
   have kt:=qc k4
   have W4:WT H4 wa D b kvs ro:=⟨kt _ _ W.wa,k4 _ _ W.dict su,W.ws.keep kt,W.two,W.four,W.few,W.ok⟩
   refine⟨_,rfl,wa,_,_,_,rfl,rfl,.of W4.wa,aB (j:=1) (v:=.ref D) rfl,D,kvs,rfl,.inl W4.dict,fun B hB=>?_⟩
   generalize h5:upd H4 B _=H5
   have s5:Same H4 H5:=h5▸Same.new hB
   have eB:H5 B=some (.dK kvs):=by rw[←h5];exact af
   clear h5
   have lk:kvs.length≤100:=by
    obtain⟨ks,ek,pk⟩:=W.ws.keys
    have l2:=congrArg List.length ek
    have l3:=pk.length_eq
    simp only[List.length_map] at l2 l3
    have:=W.few
    omega
   have pS:B≠d:=(d4.ne hB).symm
   refine⟨_,rfl,_,rfl,R,.ref r',rfl,pT (.inl (s5 _ _ eR)) (cS rfl),_,rfl,_,rfl,B,_,rfl,qk.k (k:=Sum.inr p.1) eB (Nat.lt_of_le_of_lt lk (by decide)),?_⟩
   have k6:KB d H4 (upd H5 B (.dK (putK kvs (Sum.inr p.1) (.ref r')))):=nI s5.kb hB
   have d6:bA (upd H5 B (.dK (putK kvs (Sum.inr p.1) (.ref r')))) d:=(d4.same s5).kb KB.write pS.symm
   have MQ:(upd H5 B (.dK (putK kvs (Sum.inr p.1) (.ref r')))) B=some (.dK (putK kvs (Sum.inr p.1) (.ref r'))):=af
   generalize upd H5 B (.dK (putK kvs (Sum.inr p.1) (.ref r')))=H6 at k6 d6 MQ ⊢
   have lu:=k4.trans k6
   have yM:=qc lu
   refine⟨_,rfl,wa,_,_,_,rfl,rfl,.of (yM _ _ W.wa),aB (j:=0) (v:=.int (b:Nat)) rfl,_,rfl,by show 2≤sizeLine;decide,fun w' hw'=>?_⟩
   generalize h7:upd H6 w' _=H7
   have s7:Same H6 H7:=h7▸Same.new hw'
   have ew:H7 w'=some (.tup [.int (b:Nat),.ref B]):=by rw[←h7];exact af
   clear h7
   have Fj:=lu.trans s7.kb
   have W7:WT H7 wa D b kvs ro:=⟨qc Fj _ _ W.wa,Fj _ _ W.dict su,W.ws.keep (qc Fj),W.two,W.four,W.few,W.ok⟩
   have Sg:bQ H4 H7:=by obtain⟨xs,ex⟩:=d4.is;exact bQ.kb ex (k6.trans s7.kb)
   exact k w' B _ yL H7 Fj (d6.same s7) (GU W7 hn ew (s7 _ _ MQ) (ra.keep Sg) ok') bad
  have f2:=qc JF _ _ e2
  refine⟨_,rfl,_,_,rfl,.inr ⟨_,.of f2,rfl⟩,_,_,rfl,rfl,_,rfl,CU (fun H'=>KB d H3 H'∧bA H' d) ⟨KB.refl _ _,d3⟩ (fun h c=>⟨_,rfl,d,2,rfl,d3,by decide,fun r H4 r0 r1 k4 d4=>⟨rfl,_,rfl,h _ H4 ⟨k4,d4⟩ c⟩⟩) (fun H4 ⟨k4,d4⟩ c=>?_) (fun H4 ⟨k4,d4⟩=>?_)⟩
  ·have c:=of_decide_eq_true c
   rw[ls] at c
   have Fl:=JF.trans k4
   have g2:=qc Fl _ _ e2
   refine⟨_,rfl,_,_,rfl,.inr ⟨_,.of g2,rfl⟩,_,rfl,_,rfl,_,_,rfl,.inr ⟨_,.of g2,rfl⟩,_,_,rfl,rfl,d,_,rfl,d4,by rw[ls];omega,fun x H5 x0 x1 k5 d5=>?_⟩
   rw[ls] at x1
   obtain⟨x,rfl⟩:∃j:Nat,x=(j:Int):=⟨x.toNat,by omega⟩
   have hx:p.2.length+x<10:=by omega
   have Sh:=k5 _ _ (k4 _ _ eG wH) wH
   refine⟨_,_,rfl,rfl,_,rfl,_,rfl,G,_,_,f,rfl,rfl,Sh,CV (by rw[List.length_map,aY,rq.2.1];exact hf),?_⟩
   rw[ls]
   have es:((av q.2).map V.int).set f (.int ((p.2.length:Nat)+(x:Nat):Int))=(av (q.2.set f (p.2.length+x))).map V.int:=by
    rw[←CS,←List.map_set]
    rfl
   rw[es]
   have JG:H G=none:=nX Fi wH hG
   have lu:KB d H (upd H5 G (.lst ((av (q.2.set f (p.2.length+x))).map V.int))):=nI (Fl.trans k5) JG
   have d6:bA (upd H5 G (.lst ((av (q.2.set f (p.2.length+x))).map V.int))) d:=d5.kb KB.write wH.symm
   have yN:(upd H5 G (.lst ((av (q.2.set f (p.2.length+x))).map V.int))) G=some (.lst ((av (q.2.set f (p.2.length+x))).map V.int)):=af
   generalize upd H5 G (.lst ((av (q.2.set f (p.2.length+x))).map V.int))=H6 at lu d6 yN ⊢
   have yM:=qc lu
   refine fun R0 wI=>?_
   have CW:R0≠d:=(d6.ne wI).symm
   have Ec:H R0=none:=nX lu CW wI
   generalize h7:upd H6 R0 _=H7
   have s7:Same H6 H7:=h7▸Same.new wI
   have CY:H7 R0=some (.dK []):=by rw[←h7];exact af
   clear h7
   refine⟨_,rfl,_,rfl,_,rfl,_,rfl,_,rfl,IG j (s7 _ _ (yM _ _ e3)) fun u1 H8 s8 Si=>?_⟩
   refine⟨_,rfl,G,_,rfl,.inl ⟨.of (s8 _ _ (s7 _ _ yN)),fun tl htl=>?_⟩⟩
   generalize h9:upd H8 tl _=H9
   have s9:Same H8 H9:=h9▸Same.new htl
   have Sj:H9 tl=some (.tup ((av (q.2.set f (p.2.length+x))).map V.int)):=by rw[←h9];exact af
   clear h9
   refine⟨by show 1≤sizeLine;decide,fun u2 hu2=>?_⟩
   generalize h10:upd H9 u2 _=fE
   have fJ:Same H9 fE:=h10▸Same.new hu2
   have Sk:fE u2=some (.tup (([tl]:List Addr).map V.ref)):=by rw[←h10];exact af
   clear h10
   refine⟨u1,u2,_,_,rfl,rfl,fJ _ _ (s9 _ _ Si),Sk,?_,fun u3 oi kO Sm=>?_⟩
   ·rw[List.length_take,List.length_map,List.length_map];exact Nat.le_trans (show _+1≤100 by omega) (by decide)
   have JH:=s8.trans (s9.trans (fJ.trans kO))
   refine⟨_,rfl,_,rfl,_,_,rfl,rfl,_,rfl,?_⟩
   rw[show((j:Nat):Int)+1=((j+1:Nat):Int) by omega]
   refine Gv (IH (j+1) (JH _ _ (s7 _ _ (yM _ _ e3))) fun u4 yO s12 Sn=>?_)
   refine⟨u3,u4,_,_,rfl,rfl,s12 _ _ Sm,Sn,?_,fun u5 wJ wK MR=>?_⟩
   ·rw[List.length_append,List.length_take,List.length_drop,List.length_map,List.length_map];exact Nat.le_trans (show _+1+_≤100 by omega) (by decide)
   refine⟨by show 2≤sizeLine;decide,fun rr hrr=>?_⟩
   generalize h14:upd wJ rr _=sY
   have qd:Same wJ sY:=h14▸Same.new hrr
   have err:sY rr=some (.tup [.ref sa,.ref u5]):=by rw[←h14];exact af
   clear h14
   have sZ:=JH.trans (s12.trans (wK.trans qd))
   have AH:KB d H sY:=lu.trans (s7.trans sZ).kb
   refine⟨sZ _ _ CY,[(Sum.inr p.1,.ref rr)],rfl,by show 1≤15;decide,?_⟩
   have kw:=bQ.dk (o:=.dK [(Sum.inr p.1,V.ref rr)]) (sZ _ _ CY)
   have ktf:bQ H (upd sY R0 (.dK [(Sum.inr p.1,V.ref rr)])):=(qc AH).trans kw
   rw[←List.map_take,←List.map_drop,←List.map_append,←List.map_append] at MR
   have eL:((p.2.set j (q.1,q.2.set f (p.2.length+x))).map (·.2)).map av=((p.2.map (·.2)).map av).take j++[av (q.2.set f (p.2.length+x))]++((p.2.map (·.2)).map av).drop (j+1):=by
    rw[GX,List.map_set,tT (by rw[List.length_map,List.length_map];exact hj)]
   refine MP _ _ ⟨G,R0,rr,p.2.set j (q.1,q.2.set f (p.2.length+x)),rfl,nI AH Ec,(d6.same (s7.trans sZ)).kb KB.write CW.symm,af,⟨sa,u5,ps.take j++[tl]++ps.drop (j+1),kw _ _ err,?_,kw _ _ (qd _ _ MR),?_⟩,⟨jU.1,?_,?_,fun z hz=>?_⟩,Eb (s:=q.1) (l:=q.2) eq (by rw[rq.2.1];exact hf) (by omega)⟩
   ·rw[GW (l:=q.2) eq]
    exact ktf _ _ e2
   ·rw[eL]
    exact cb.app (cb.app (cb.take j (tp.keep ktf)) (cb.one (kw _ _ (qd _ _ (wK _ _ (s12 _ _ (kO _ _ (fJ _ _ Sj)))))))) (cb.drop (j+1) (tp.keep ktf))
   ·show 1≤(p.2.set j _).length
    rw[List.length_set];exact n1
   ·show(p.2.set j _).length≤8
    rw[List.length_set];exact n8
   ·rcases List.mem_or_eq_of_mem_set hz with h | h
    ·exact jU.2.2.2 z h
    ·rw[h]
     refine⟨rq.1,by show(q.2.set f _).length=b;rw[List.length_set];exact rq.2.1,fun y hy=>?_⟩
     rcases List.mem_or_eq_of_mem_set hy with h2 | h2
     ·exact rq.2.2 y h2
     ·omega
  ·have Fl:=JF.trans k4
   have So:=k4 _ _ eG wH
   have lq:0<q.2.length:=by rw[rq.2.1];omega
   refine⟨_,rfl,_,_,rfl,rfl,_,_,rfl,rfl,cpos (by decide),_,rfl,G,_,_,0,rfl,rfl,So,CV (by rw[List.length_map,aY];exact lq),?_⟩
   have ey:(((j:Nat):Int)+1) % 2=(((j+1) % 2:Nat):Int):=by omega
   dsimp only
   rw[ey]
   have hy2:(j+1) % 2<2:=Nat.mod_lt _ (by decide)
   generalize (j+1) % 2=y at hy2
   have JG:H G=none:=nX Fi wH hG
   have e0:(((av q.2).map V.int).set 0 (.int ((y:Nat):Int)))[0]? =some (.int (y:Nat)):=List.getElem?_set_self (by rw[List.length_map,aY];exact lq)
   have lu:KB d H (upd H4 G (.lst (((av q.2).map V.int).set 0 (.int ((y:Nat):Int))))):=nI Fl JG
   have d6:bA (upd H4 G (.lst (((av q.2).map V.int).set 0 (.int ((y:Nat):Int))))) d:=d4.kb KB.write wH.symm
   have yN:(upd H4 G (.lst (((av q.2).map V.int).set 0 (.int ((y:Nat):Int))))) G=some (.lst (((av q.2).map V.int).set 0 (.int ((y:Nat):Int)))):=af
   generalize ((av q.2).map V.int).set 0 (.int ((y:Nat):Int))=ys at lu d6 yN e0 ⊢
   generalize upd H4 G (.lst ys)=H6 at lu d6 yN ⊢
   have yM:=qc lu
   refine fun R0 wI=>?_
   have CW:R0≠d:=(d6.ne wI).symm
   have Ec:H R0=none:=nX lu CW wI
   generalize h7:upd H6 R0 _=H7
   have s7:Same H6 H7:=h7▸Same.new wI
   have CY:H7 R0=some (.dK []):=by rw[←h7];exact af
   clear h7
   refine⟨_,rfl,by show 2≤sizeLine;decide,fun t1 ht1=>?_⟩
   generalize h8:upd H7 t1 _=H8
   have s8:Same H7 H8:=h8▸Same.new ht1
   have EZ:H8 t1=some (.tup ((av [1,2]).map V.int)):=by rw[←h8];exact af
   clear h8
   refine⟨_,rfl,G,_,_,_,rfl,rfl,.of (s8 _ _ (s7 _ _ yN)),aB e0,by show 1≤sizeLine;decide,fun t2 Ji=>?_⟩
   generalize h9:upd H8 t2 _=H9
   have s9:Same H8 H9:=h9▸Same.new Ji
   have Sq:H9 t2=some (.tup [.int (y:Nat)]):=by rw[←h9];exact af
   clear h9
   have sJ:=fun {H':Hp} (s:Same H7 H')=>s _ _ (s7 _ _ (yM _ _ W.wa))
   refine⟨_,rfl,wa,_,_,_,rfl,rfl,.of (sJ (s8.trans s9)),aB (j:=0) (v:=.int (b:Nat)) rfl,t2,_,b,rfl,rfl,.of Sq,by simp,b2,by show 1*b≤_;omega,fun t3 Jj=>?_⟩
   generalize h10:upd H9 t3 _=fE
   have fJ:Same H9 fE:=h10▸Same.new Jj
   have Sr:fE t3=some (.tup ((av (List.replicate b y)).map V.int)):=by rw[←h10,af,yK]
   clear h10
   refine⟨by show 1≤sizeLine;decide,fun t4 Ss=>?_⟩
   generalize h11:upd fE t4 _=oi
   have kO:Same fE oi:=h11▸Same.new Ss
   have Sv:oi t4=some (.tup [.int ((0:Nat):Int)]):=by rw[←h11];exact af
   clear h11
   refine⟨_,rfl,wa,_,_,_,rfl,rfl,.of (sJ (s8.trans (s9.trans (fJ.trans kO)))),aB (j:=0) (v:=.int (b:Nat)) rfl,t4,_,b,rfl,rfl,.of Sv,by simp,b2,by show 1*b≤_;omega,fun t5 Sw=>?_⟩
   generalize h12:upd oi t5 _=yO
   have s12:Same oi yO:=h12▸Same.new Sw
   have Sx:yO t5=some (.tup ((av (List.replicate b 0)).map V.int)):=by rw[←h12,af,yK]
   clear h12
   refine⟨by show 2≤sizeLine;decide,fun t6 Sy=>?_⟩
   generalize h13:upd yO t6 _=wJ
   have wK:Same yO wJ:=h13▸Same.new Sy
   have Sz:wJ t6=some (.tup (([t3,t5]:List Addr).map V.ref)):=by rw[←h13];exact af
   clear h13
   refine⟨by show 2≤sizeLine;decide,fun rr hrr=>?_⟩
   generalize h14:upd wJ rr _=sY
   have qd:Same wJ sY:=h14▸Same.new hrr
   have err:sY rr=some (.tup [.ref t1,.ref t6]):=by rw[←h14];exact af
   clear h14
   have sZ:=s8.trans (s9.trans (fJ.trans (kO.trans (s12.trans (wK.trans qd)))))
   have AH:KB d H sY:=lu.trans (s7.trans sZ).kb
   refine⟨sZ _ _ CY,[(Sum.inr p.1,.ref rr)],rfl,by show 1≤15;decide,?_⟩
   have kw:=bQ.dk (o:=.dK [(Sum.inr p.1,V.ref rr)]) (sZ _ _ CY)
   refine MP _ _ ⟨G,R0,rr,CT b y,rfl,nI AH Ec,(d6.same (s7.trans sZ)).kb KB.write CW.symm,af,⟨t1,t6,[t3,t5],kw _ _ err,kw _ _ (qd _ _ (wK _ _ (s12 _ _ (kO _ _ (fJ _ _ (s9 _ _ EZ)))))),kw _ _ (qd _ _ Sz),.cons (kw _ _ (qd _ _ (wK _ _ (s12 _ _ (kO _ _ Sr))))) (.cons (kw _ _ (qd _ _ (wK _ _ Sx))) .nil)⟩,⟨jU.1,by show 1≤2;decide,by show 2≤8;decide,fun z hz=>?_⟩,GV (by omega)⟩
   unfold CT at hz
   simp only[List.mem_cons,List.not_mem_nil,or_false] at hz
   rcases hz with h | h
   ·rw[h];exact⟨by show 1<10;decide,by show(List.replicate b y).length=b;rw[List.length_replicate],fun v hv=>by rw[(List.mem_replicate.mp hv).2];omega⟩
   ·rw[h];exact⟨by show 2<10;decide,by show(List.replicate b 0).length=b;rw[List.length_replicate],fun v hv=>by rw[(List.mem_replicate.mp hv).2];omega⟩
def ua (K:PySem.W.Frag):Sp:=fun vs H Q _=>∃(a:Addr) (ns:List Int),vs=[.ref a]∧cF K H a (ns.map V.int)∧ns.length≤63∧∀H',Q (.bl true) H'
theorem WT.kb {H H':Hp} {wa D d:Addr} {b:Nat} {kvs:List (Key×V)} {ro:Rows} (W:WT H wa D b kvs ro) (dk:bA H d) (k:KB d H H'):WT H' wa D b kvs ro:=by
 obtain⟨xs,ex⟩:=dk.is
 have kt:=bQ.kb ex k
 exact⟨kt _ _ W.wa,k _ _ W.dict (lB W.dict ex (fun z=>nomatch z)),W.ws.keep kt,W.two,W.four,W.few,W.ok⟩
theorem qU {K:PySem.W.Frag} {H:Hp} {L:Addr} {l:List Str} {Q:VK} (e:H L=some (.lst (l.map V.str))) (h:∀x∈l,cu x) (n:l.length≤12) (k:∀y:Str,ak y=jn 10 (l.map ak)→Q (.str y) H):rJoin K (.str (Str.ofString "\n")) [.ref L] H Q:=by
 refine⟨Str.ofString "\n",L,l,rfl,rfl,.of e,?_,fun z hz ez=>k z ?_⟩
 ·have h1:(Str.ofString "\n").length=1:=by decide+kernel
  have h2:=wy (fun x hx=>(h x hx).2) n
  rw[h1]
  omega
 ·rw[ez];exact CG l
theorem ty_dict {K:PySem.W.Frag} {H:Hp} {D:Addr} {kvs:List (Key×V)} (e:H D=some (.dK kvs)):Er K "dict" (.ref D) H:=Or.inr (Or.inr (Or.inl ⟨rfl,Or.inl ⟨_,e⟩⟩))
theorem qV {σ:St} {H:Hp} {Φ:List V→Hp→Prop} (h:Φ [] H):qg σ H Φ:=h
theorem j9 (b:Nat) (ro:Rows):(bL b ro).length=ro.length+1:=by unfold bL;simp
theorem yP:dN (Str.ofString "")=none∧j4 (Str.ofString ""):=by
 have h:=jh (z:=Str.ofString "") (ls:=[Str.ofString ""]) (by simp) (by simp) (by unfold cu ak;decide+kernel) (by decide+kernel)
 exact⟨h.1.trans (by decide+kernel),h.2⟩
theorem CZ {b:Nat} {ro:Rows} {z:Str} (b2:2≤b) (b4:b≤4) (few:ro.length≤4) (ok:∀p∈ro,dg b p) (e:ak z=pY b ro):dN (z++Str.ofString "\n")=none∧j4 (z++Str.ofString "\n"):=by
 have hl:∀y∈bL b ro++[Str.ofString ""],cu y:=fun y hy=>by
  rcases List.mem_append.mp hy with h | h
  ·exact gK b4 ok y h
  ·rw[List.mem_singleton.mp h];exact(iT (b:=b) _ (by simp)).2
 have h:=jh (z:=z++Str.ofString "\n") (ls:=bL b ro++[Str.ofString ""]) (by simp) (by rw[List.length_append,j9,List.length_singleton];omega) hl (by
  rw[a_,e,List.map_append,iR,jL 10 (by simp) (by simp)]
  show pY b ro++ak (Str.ofString "\n")=_
  rw[show ak (Str.ofString "\n")=[10] by decide+kernel]
  show _=pY b ro++10::ak (Str.ofString "")
  rw[show ak (Str.ofString "")=[] by decide+kernel])
 refine⟨h.1.trans ?_,h.2⟩
 exact p6 (y:=Str.ofString "") (ls:=eT ro++[Str.ofString ""]) b2 b4 (by simp) (iT _ (by simp)).1
theorem C_ {b:Nat} {ro:Rows} {nm:Str} {rm:List (Nat×List Nat)} (rt:∀p∈ro,cR b p.2=true):∀q∈ib ro nm rm,cR b q.2=false→nm.cps.toList≤q.1.cps.toList:=fun q hq fq=>by
 rcases oX hq with rfl | ⟨h1,_⟩
 ·exact List.le_refl _
 ·rw[rt q h1] at fq;cases fq
theorem gA:bj ["_law_script","_law_deck_here","_law_world_here","_law_lines_here","_law_text","_law_wrong_here","_law_names_here","_law_name","_law_bad","_law_found"] ["_law_script"] (aj jb):=⟨rfl,rfl,rfl,by decide+kernel,rfl,by decide+kernel,by decide+kernel⟩
theorem JI {a:fc} {x:iz} (T:Txt K mg a) (TE:TX K mg x):bC P w K mg base dE 8 a.zK a.B4 ["_law_script"] (ua K):=by
 have Ed:=Cm (P:=P) (w:=w) (base:=base) T
 have aV:=fO (P:=P) (w:=w) (base:=base) T
 have C0:=Af (P:=P) (w:=w) (base:=base) T
 have tf:=Ao (P:=P) (w:=w) (base:=base) T
 have wL:=tQ (P:=P) (w:=w) (base:=base) T
 have fQ:bC P w K mg base (cy P w) 6 a.eJ a.fh ["text"] (mq x.c1 x.c4):=mK T TE
 have C3:=AE (P:=P) (w:=w) (base:=base) T
 have mB:bC P w K mg base dE 7 a.jO a.j1 ["_law_text"] CP:=CQ T TE
 have AI:=xO (P:=P) (w:=w) (base:=base) T
 refine T.KI.ok gA (fun vs H Q E h=>?_) (fun cdv A outer s H vs Q E hr h=>?_)
 ·obtain⟨d,ms,rfl,_⟩:=h
  rfl
 ·obtain⟨sa,is,rfl,hS,his,k⟩:=h
  have C4:aO 1 _:=hr.mono (by decide)
  have aN:aO 1 _:=hr.mono (by decide)
  have AJ:aO 3 _:=hr.mono (by decide)
  have qe:aO 1 _:=hr.mono (by decide)
  have tU:aO 3 _:=hr.mono (by decide)
  have fj:aO 6 _:=hr.mono (by decide)
  have AK:aO 3 _:=hr.mono (by decide)
  have ka:aO 7 _:=hr.mono (by decide)
  have xP:aO 2 _:=hr.mono (by decide)
  refine⟨_,(ai (aA (i:=1) gA.nd rfl (Or.inl rfl) (aD Ed C4 rfl T.DI T.DJ T.DK .nil bf (ae (pv 0) (ae ah ag))))
  (ai (aA (i:=2) gA.nd rfl (Or.inl rfl) (aD C0 AJ rfl T.B' T.Ca T.Cb .nil bf (ae (pv 1) ag)))
  (ai (aA (i:=3) gA.nd rfl (Or.inl rfl) (aD tf qe rfl T.sf T.sh T.si .nil bf (ae (pv 2) ag)))
  (ai (aA (i:=4) gA.nd rfl (Or.inl rfl) (cP PySem.F.plainAttrs_str PySem.F.slot_str_join PySem.F.type_str_join (de K) ay (ae (pv 3) ag)))
  (ai (bM (PW.pt (lF (aL iC (aD wL tU rfl T.vt T.vv T.vw .nil bf (ae (pv 2) ag)) (pv 4) (aR _)) (kx (aL (Gi K hr.units) (aD fQ fj rfl T.hU T.hV T.hZ .nil vd (ae (pv 4) ag)) (pv 2) (aR _)))))
   (aq (aW fC))
   bh)
  (ai (bM (aL nL (aE (aQ K) (by rfl) T.bT bK (ae (pv 3) ag)) ah (aR _))
   (ai (aA (i:=5) gA.nd rfl (Or.inl rfl) (cP PySem.F.plainAttrs_str PySem.F.slot_str_join PySem.F.type_str_join (de K) ay (ae (aD C3 AK rfl T.Ce T.Cf T.Cg .nil bf (ae (pv 1) (ae (pv 3) ag))) ag)))
   (ai (bM (aL iC (aD mB ka rfl T.lX T.lY T.lZ .nil bf (ae (pv 5) ag)) ay (aR _))
    (aq (aW fC))
    bh)
   (ai (aA (i:=6) gA.nd rfl (Or.inl rfl) (aE (i7 rfl) (by rfl) T.jP iN (ae (aK (bD K) (pv 2) ah (fun _ _=>rfl)) ag)))
   (ai (aA (i:=7) gA.nd rfl (Or.inl rfl) (aK (aU K) (pv 6) (aD aV aN rfl T.bu T.bw T.bz .nil bf (ae (pv 1) (ae (aE (aQ K) (by rfl) T.bT bK (ae (pv 6) ag)) ag))) (fun _ _=>rfl)))
   (ai (aA (i:=8) gA.nd rfl (Or.inl rfl) (aD AI xP rfl T.zZ T.z_ T.Aa .nil bf (ae (pv 1) (ae (pv 2) (ae (pv 7) ag)))))
   (aq (bM (aL iC (aD mB ka rfl T.lX T.lY T.lZ .nil bf (ae (cP PySem.F.plainAttrs_str PySem.F.slot_str_join PySem.F.type_str_join (de K) ay (ae (aD tf qe rfl T.sf T.sh T.si .nil bf (ae (pv 8) ag)) ag)) ag)) (pv 7) (aR _))
    (aq (aW fC))
    bh)))))))
   bh)
  (ai (aA (i:=9) gA.nd rfl (Or.inl rfl) (aD fQ fj rfl T.hU T.hV T.hZ .nil vd (ae (pv 4) ag)))
  (ai (eh (pb PySem.F.plainAttrs_dict PySem.F.slot_dict_clear PySem.F.type_dict_clear BX (aK (bD K) (pv 9) ah (fun _ _=>rfl))))
  (aq (aW (AW (jk dZ (aD mB ka rfl T.lX T.lY T.lZ .nil bf (ae ay ag)) ay (aR _)) (AW (jk dZ (aD mB ka rfl T.lX T.lY T.lZ .nil bf (ae (ao bb (pv 4) ay) ag)) ay (aR _)) (G4 (jk (Gh K hr.units) (aD fQ fj rfl T.hU T.hV T.hZ .nil vd (ae (pv 4) ag)) (pv 2) (aR _))))))))))))))),?_⟩
  refine⟨_,rfl,sa,is,rfl,hS,his,fun d H1 hd s1 d1=>?_⟩
  refine⟨_,rfl,d,rfl,d1,fun wa D b kvs ks H2 k2 d2 sJ eD KS b2 b4 lk hD1=>?_⟩
  obtain⟨ro,ws,ok,rt,lr⟩:=KS.rows b2
  have few:ro.length≤4:=by omega
  have W2:WT H2 wa D b kvs ro:=⟨sJ,eD,ws,b2,b4,few,ok⟩
  refine⟨_,rfl,wa,D,b,kvs,ro,rfl,W2,fun L H3 hL s3 eL=>?_⟩
  have kX:L≠d:=(d2.ne hL).symm
  have W3:=W2.same s3
  have d3:=d2.same s3
  refine⟨rfl,_,rfl,?_⟩
  refine qV (qU eL (gK b4 ok) (by rw[j9];omega) fun z ez=>?_)
  have ez:ak z=pY b ro:=by rw[ez,iR];rfl
  have SA:txt (pY b ro)=z:=by rw[←ez,GI]
  obtain⟨wz,az⟩:=qa b2 b4 few ok ws.up ez
  refine⟨_,rfl,wa,D,b,kvs,ro,rfl,W3,fun H4 s4=>?_⟩
  rw[SA]
  refine⟨_,rfl,rfl,_,rfl,cN (fun h=>absurd h (by simp)) (fun _=>?_)⟩
  have W4:=W3.same s4
  have d4:=d3.same s4
  have JJ:∀{Hx:Hp} {Qx:VK},(∀mM D' kvs' H',Same Hx H'→Hx D'=none→H' mM=some (.tup [.int (b:Nat),.ref D'])→H' D'=some (.dK kvs')→WR H' kvs' ro→Qx (.ref mM) H')→mq x.c1 x.c4 [.str z] Hx Qx fun _ _ _=>False:=fun h=>
   ⟨z,rfl,az,fun e=>(by rw[wz] at e;cases e),fun b' rs' e=>by
    rw[wz] at e
    cases e
    exact⟨fun _=>h,fun p hp fp=>by rw[rt p hp] at fp;cases fp⟩⟩
  refine⟨_,rfl,qV (JJ fun mM D' kvs' H5 s5 hD' e1 e2 wr=>?_)⟩
  have W5:=W4.same s5
  have d5:=d4.same s5
  refine⟨_,rfl,mM,wa,D',D,b,kvs',kvs,rfl,rfl,e1,W5.wa,e2,W5.dict,p9 wr W5.ws,_,rfl,bZ ?_⟩
  have wA:=s5 _ _ (s4 _ _ eL)
  clear e1 e2 wr
  refine Gw ?_
  dsimp only
  refine r6 (t:=ud _ _ _) (fun σ H'=>∃v5 v6 v7 v8:Option V,σ=[some (.ref sa),some (.ref d),some (.ref wa),some (.ref L),some (.str z),v5,v6,v7,v8,none]∧WT H' wa D b kvs ro) ?re (fun R hR=>?_)
  case re=>
   rintro σ H6 ⟨v5,v6,v7,v8,rfl,W6⟩
   refine⟨_,rfl,qV (JJ fun mM D' kvs' H7 s7 hD' e1 e2 wr=>?_)⟩
   have W7:=W6.same s7
   have SD:D≠D':=aH W6.dict hD'
   refine⟨_,rfl,mM,_,_,_,rfl,rfl,.of e1,aB (j:=1) (v:=.ref D') rfl,ty_dict e2,D',kvs',rfl,rfl,e2,?_⟩
   have kt:=bQ.dk (o:=.dK []) e2
   have W8:WT (upd H7 D' (.dK [])) wa D b kvs ro:=⟨kt _ _ W7.wa,by rw[aF SD];exact W7.dict,W7.ws.keep kt,W7.two,W7.four,W7.few,W7.ok⟩
   generalize upd H7 D' (.dK [])=H8 at W8 ⊢
   refine⟨Str.ofString "",rfl,yP.2,.inl ⟨yP.1,fun H9 s9=>⟨rfl,_,rfl,cN (fun _=>?_) (fun h=>absurd (decide_eq_true rfl) h)⟩⟩⟩
   obtain⟨tm,ta⟩:=CZ b2 b4 few ok ez
   refine⟨_,rfl,z,Str.ofString "\n",rfl,rfl,?_,z++Str.ofString "\n",rfl,ta,.inl ⟨tm,fun fE fJ=>⟨rfl,_,rfl,cN (fun _=>?_) (fun h=>absurd (decide_eq_true rfl) h)⟩⟩⟩
   ·have:=az.2
    rw[PySem.sizeLine_eq,show(Str.ofString "\n").length=1 by decide+kernel];omega
   have JK:=(W8.same s9).same fJ
   refine⟨_,rfl,qV (JJ fun SE D2 NL oi kO hD2 e1 e2 wr=>?_)⟩
   have JL:=JK.same kO
   exact⟨_,rfl,SE,wa,D2,D,b,NL,kvs,rfl,rfl,e1,JL.wa,e2,JL.dict,p9 wr JL.ws,k oi⟩
  refine⟨_,rfl,_,_,rfl,.inl ⟨_,.of wA,rfl⟩,_,_,rfl,rfl,_,rfl,cN (fun hn=>?_) (fun _=>hR _ _ ⟨_,_,_,_,rfl,W5⟩)⟩
  have hn:=of_decide_eq_true hn
  rw[List.length_map,j9] at hn
  have n1:1≤ro.length:=by omega
  refine⟨rfl,_,rfl,_,rfl,d,L,b,ro,rfl,d5,wA,kX,b2,b4,n1,few,ok,ws.up,fun wl M H6 k6 d6 eM bt=>?_⟩
  have W6:=W5.kb d5 k6
  refine qV (qU eM bt.2.2.2 bt.2.1 fun zw SG=>?_)
  obtain⟨t1,t2⟩:=jh bt.1 bt.2.1 bt.2.2.2 SG
  refine⟨_,rfl,zw,rfl,t2,.inl ⟨t1.trans bt.2.2.1,fun H7 s7=>⟨rfl,_,rfl,cN (fun h=>absurd h (by simp)) (fun _=>?_)⟩⟩⟩
  have W7:=W6.same s7
  have d7:=d6.same s7
  obtain⟨ks',ek,pk⟩:=W7.ws.keys
  have VC:ks'.length=ro.length:=by rw[pk.length_eq,List.length_map]
  refine⟨_,rfl,wa,_,_,_,rfl,rfl,.of W7.wa,aB (j:=1) (v:=.ref D) rfl,D,kvs,ks',rfl,W7.dict,ek,by omega,fun S ss hS pm so=>?_⟩
  rw[W7.ws.sorted ek pm so]
  generalize h8:upd H7 S _=H8
  have s8:Same H7 H8:=h8▸Same.new hS
  have eS:H8 S=some (.lst ((ro.map (·.1)).map V.str)):=by rw[←h8];exact af
  clear h8
  have sk:S≠d:=(d7.ne hS).symm
  have W8:=W7.same s8
  have d8:=d7.same s8
  refine⟨_,rfl,_,rfl,_,rfl,_,_,rfl,.inl ⟨_,.of eS,rfl⟩,d,_,rfl,d8,by rw[List.length_map,List.length_map];omega,fun r H9 r0 r1 k9 d9=>?_⟩
  rw[List.length_map,List.length_map] at r1
  obtain⟨j,rfl⟩:∃j:Nat,r=(j:Int):=⟨r.toNat,by omega⟩
  have hj:j<(ro.map (·.1)).length:=by rw[List.length_map];omega
  obtain⟨nm,en⟩:∃nm,(ro.map (·.1))[j]? =some nm:=⟨(ro.map (·.1))[j],List.getElem?_eq_getElem hj⟩
  have hnm:=List.mem_of_getElem? en
  have W9:=W8.kb d8 k9
  refine⟨S,_,_,.str nm,rfl,rfl,.of (k9 _ _ eS sk),aB (by rw[List.getElem?_map,en];rfl),?_⟩
  refine⟨_,rfl,_,rfl,_,rfl,d,wa,D,b,kvs,ro,nm,rfl,d9,W9,hnm,rt,fun wb Db SH rm fE k10 VD Wb bad=>?_⟩
  have JK:=W9.kb d9 k10
  refine⟨rfl,_,rfl,wb,Db,b,SH,ib ro nm rm,rfl,Wb,fun L2 oi hL2 kO cX=>?_⟩
  refine qV (qU cX (gK b4 Wb.ok) (by rw[j9];have:=Wb.few;omega) fun zb JM=>?_)
  have JM:ak zb=pY b (ib ro nm rm):=by rw[JM,iR];rfl
  obtain⟨SJ,SK⟩:=qa b2 b4 Wb.few Wb.ok Wb.ws.up JM
  refine⟨zb,rfl,SK,.inr ⟨b,ib ro nm rm,(nm,rm),SJ,GS hnm,bad,C_ rt,fun yO s12=>⟨_,rfl,rfl,_,rfl,cN (fun h=>absurd h (by simp)) (fun _=>?_)⟩⟩⟩
  exact hR _ _ ⟨_,_,_,_,rfl,(JK.same kO).same s12⟩
@[elab_as_elim] theorem mE {P:List Value→Prop} (us:List Value) (e:us.length=1) (h:∀a,P [a]):P us:=by
 cases us with
 | nil=>cases e
 | cons a us=>cases us with
  | nil=>exact h a
  | cons _ _=>cases e
@[elab_as_elim] theorem ln2 {P:List Value→Prop} (us:List Value) (e:us.length=2) (h:∀a0 a1,P [a0,a1]):P us:=by
 cases us with
 | nil=>cases e
 | cons a us=>exact mE (P:=fun z=>P (a::z)) us (Nat.succ.inj e) (h a)
@[elab_as_elim] theorem JN {P:List Value→Prop} (us:List Value) (e:us.length=3) (h:∀a0 a1 a2,P [a0,a1,a2]):P us:=by
 cases us with
 | nil=>cases e
 | cons a us=>exact ln2 (P:=fun z=>P (a::z)) us (Nat.succ.inj e) (h a)
@[elab_as_elim] theorem SM {P:List Value→Prop} (us:List Value) (e:us.length=4) (h:∀a0 a1 a2 a3,P [a0,a1,a2,a3]):P us:=by
 cases us with
 | nil=>cases e
 | cons a us=>exact JN (P:=fun z=>P (a::z)) us (Nat.succ.inj e) (h a)
@[elab_as_elim] theorem SN {P:List Value→Prop} (us:List Value) (e:us.length=5) (h:∀a0 a1 a2 a3 a4,P [a0,a1,a2,a3,a4]):P us:=by
 cases us with
 | nil=>cases e
 | cons a us=>exact SM (P:=fun z=>P (a::z)) us (Nat.succ.inj e) (h a)
@[elab_as_elim] theorem VE {P:List Value→Prop} (us:List Value) (e:us.length=6) (h:∀a0 a1 a2 a3 a4 a5,P [a0,a1,a2,a3,a4,a5]):P us:=by
 cases us with
 | nil=>cases e
 | cons a us=>exact SN (P:=fun z=>P (a::z)) us (Nat.succ.inj e) (h a)
theorem all_mk {l:PySem.W.OpenLaw} {w:World} {K:PySem.W.Frag} {h:Heap} {mg:Str→Option Value} {fa:Addr} (X:K.In h) (G:h.Ns mainGlobals mg) (hfa:mg "law"=some (.ref fa))
  {f0:Addr} {SO SQ:Option Addr} {SR:Array (Option Value)} {SU SV SW SX MS SY:Value}
  {f1:Addr} {S_ S0:Option Addr} {S3:Array (Option Value)} {S4 S5 S6 S7 MT S8:Value}
  {f2:Addr} {S9 S':Option Addr} {sl2:Array (Option Value)} {Ta Tb Tc Td MU Te:Value}
  {f3:Addr} {Tf Tg:Option Addr} {Ti:Array (Option Value)} {Tj Tn To Tp MV Tq:Value}
  {f4:Addr} {Tr Ts:Option Addr} {Tt:Array (Option Value)} {Tv Tw Tx Tz MW TB:Value}
  {f5:Addr} {TC TF:Option Addr} {TH:Array (Option Value)} {TK TL TN TQ MX TR:Value}
  {f6:Addr} {TU TV:Option Addr} {TY:Array (Option Value)} {T_ T2 T3 T4 MY T5:Value}
  {f7:Addr} {T6 T7:Option Addr} {T9:Array (Option Value)} {Ua Ub Uc Ud MZ Ue:Value}
  {f8:Addr} {Ug Uh:Option Addr} {Ui:Array (Option Value)} {Uj Uk Ul Um M_ Uo:Value}
  {f9:Addr} {Up Uq:Option Addr} {Ur:Array (Option Value)} {Us Ut Uu Uv M0 Uw:Value}
  {Fm:Addr} {NM NN:Option Addr} {NP:Array (Option Value)} {NQ NR NS NT JO NU:Value}
  {f11:Addr} {NV NW:Option Addr} {NX:Array (Option Value)} {NY NZ N_ N0 JP N1:Value}
  {Fn:Addr} {N2 N3:Option Addr} {N4:Array (Option Value)} {N5 N6 N7 N8 JQ N9:Value}
  {Fo:Addr} {Oa Ob:Option Addr} {Oc:Array (Option Value)} {Od Oe Og Oh JS Oi:Value}
  {Fp:Addr} {Oj Ol:Option Addr} {Om:Array (Option Value)} {Oo Oq Ot Ou JT Ov:Value}
  {Fq:Addr} {Ow Ox:Option Addr} {Oy:Array (Option Value)} {Oz OA OB OC JU OD:Value}
  {Fs:Addr} {OE OG:Option Addr} {OH:Array (Option Value)} {OI OJ OL OM JV OO:Value}
  {Ft:Addr} {OP OQ:Option Addr} {OS:Array (Option Value)} {OT OU OV OW JW OX:Value}
  {Fu:Addr} {OY OZ:Option Addr} {O_:Array (Option Value)} {O0 O1 O6 O7 JX O8:Value}
  {Fv:Addr} {O9 O':Option Addr} {Pa:Array (Option Value)} {Pb Pc Pd Pe JY Pf:Value}
  {Fw:Addr} {Pg Ph:Option Addr} {Pj:Array (Option Value)} {Pk Pl Pm Pn JZ Po:Value}
  {Fx:Addr} {Pp Pq:Option Addr} {Pr:Array (Option Value)} {Pt Pu Pw Px J_ Py:Value}
  {Fy:Addr} {PB PC:Option Addr} {PD:Array (Option Value)} {PF PH PK PL J0 PN:Value}
  {J4:Addr} {PQ J5:Option Addr} {PR:Array (Option Value)} {PU J6 J7 J8 Ee J9:Value}
  (a0:PySem.W.nsIn K mainGlobals "are_rooms"=some (some (.ref f0))) (l0:K.lookup f0=some ⟨SU,SO,.func (PySem.W.fnOf "are_rooms" "are_rooms" (aX dU) (aT dU) (aj dU) .none SV SW SX SQ MS SY),SR⟩) (c0:PySem.W.codeIn K MS "are_rooms"=true) (k0:PySem.W.keepIn K (.ref f0)=true)
  (a1:PySem.W.nsIn K mainGlobals "is_right"=some (some (.ref f1))) (l1:K.lookup f1=some ⟨S4,S_,.func (PySem.W.fnOf "is_right" "is_right" (aX fW) (aT fW) (aj fW) .none S5 S6 S7 S0 MT S8),S3⟩) (c1:PySem.W.codeIn K MT "is_right"=true) (k1:PySem.W.keepIn K (.ref f1)=true)
  (a2:PySem.W.nsIn K mainGlobals "look_world"=some (some (.ref f2))) (l2:K.lookup f2=some ⟨Ta,S9,.func (PySem.W.fnOf "look_world" "look_world" (aX eI) (aT eI) (aj eI) .none Tb Tc Td S' MU Te),sl2⟩) (c2:PySem.W.codeIn K MU "look_world"=true) (k2:PySem.W.keepIn K (.ref f2)=true)
  (a3:PySem.W.nsIn K mainGlobals "is_made_of"=some (some (.ref f3))) (l3:K.lookup f3=some ⟨Tj,Tf,.func (PySem.W.fnOf "is_made_of" "is_made_of" (aX dq) (aT dq) (aj dq) .none Tn To Tp Tg MV Tq),Ti⟩) (c3:PySem.W.codeIn K MV "is_made_of"=true) (k3:PySem.W.keepIn K (.ref f3)=true)
  (a4:PySem.W.nsIn K mainGlobals "read_name"=some (some (.ref f4))) (l4:K.lookup f4=some ⟨Tv,Tr,.func (PySem.W.fnOf "read_name" "read_name" (aX fu) (aT fu) (aj fu) .none Tw Tx Tz Ts MW TB),Tt⟩) (c4:PySem.W.codeIn K MW "read_name"=true) (k4:PySem.W.keepIn K (.ref f4)=true)
  (a5:PySem.W.nsIn K mainGlobals "read_figure"=some (some (.ref f5))) (l5:K.lookup f5=some ⟨TK,TC,.func (PySem.W.fnOf "read_figure" "read_figure" (aX dy) (aT dy) (aj dy) .none TL TN TQ TF MX TR),TH⟩) (c5:PySem.W.codeIn K MX "read_figure"=true) (k5:PySem.W.keepIn K (.ref f5)=true)
  (a6:PySem.W.nsIn K mainGlobals "read_base"=some (some (.ref f6))) (l6:K.lookup f6=some ⟨T_,TU,.func (PySem.W.fnOf "read_base" "read_base" (aX fv) (aT fv) (aj fv) .none T2 T3 T4 TV MY T5),TY⟩) (c6:PySem.W.codeIn K MY "read_base"=true) (k6:PySem.W.keepIn K (.ref f6)=true)
  (a7:PySem.W.nsIn K mainGlobals "read_room"=some (some (.ref f7))) (l7:K.lookup f7=some ⟨Ua,T6,.func (PySem.W.fnOf "read_room" "read_room" (aX dW) (aT dW) (aj dW) .none Ub Uc Ud T7 MZ Ue),T9⟩) (c7:PySem.W.codeIn K MZ "read_room"=true) (k7:PySem.W.keepIn K (.ref f7)=true)
  (a8:PySem.W.nsIn K mainGlobals "read_row"=some (some (.ref f8))) (l8:K.lookup f8=some ⟨Uj,Ug,.func (PySem.W.fnOf "read_row" "read_row" (aX di) (aT di) (aj di) .none Uk Ul Um Uh M_ Uo),Ui⟩) (c8:PySem.W.codeIn K M_ "read_row"=true) (k8:PySem.W.keepIn K (.ref f8)=true)
  (a9:PySem.W.nsIn K mainGlobals "read_world"=some (some (.ref f9))) (l9:K.lookup f9=some ⟨Us,Up,.func (PySem.W.fnOf "read_world" "read_world" (aX cW) (aT cW) (aj cW) .none Ut Uu Uv Uq M0 Uw),Ur⟩) (c9:PySem.W.codeIn K M0 "read_world"=true) (k9:PySem.W.keepIn K (.ref f9)=true)
  (a10:PySem.W.nsIn K mainGlobals "show_room"=some (some (.ref Fm))) (l10:K.lookup Fm=some ⟨NQ,NM,.func (PySem.W.fnOf "show_room" "show_room" (aX dX) (aT dX) (aj dX) .none NR NS NT NN JO NU),NP⟩) (c10:PySem.W.codeIn K JO "show_room"=true) (k10:PySem.W.keepIn K (.ref Fm)=true)
  (a11:PySem.W.nsIn K mainGlobals "show_row"=some (some (.ref f11))) (l11:K.lookup f11=some ⟨NY,NV,.func (PySem.W.fnOf "show_row" "show_row" (aX eY) (aT eY) (aj eY) .none NZ N_ N0 NW JP N1),NX⟩) (c11:PySem.W.codeIn K JP "show_row"=true) (k11:PySem.W.keepIn K (.ref f11)=true)
  (a12:PySem.W.nsIn K mainGlobals "show_world"=some (some (.ref Fn))) (l12:K.lookup Fn=some ⟨N5,N2,.func (PySem.W.fnOf "show_world" "show_world" (aX dr) (aT dr) (aj dr) .none N6 N7 N8 N3 JQ N9),N4⟩) (c12:PySem.W.codeIn K JQ "show_world"=true) (k12:PySem.W.keepIn K (.ref Fn)=true)
  (a13:PySem.W.nsIn K mainGlobals "_law_deck"=some (some (.ref Fo))) (l13:K.lookup Fo=some ⟨Od,Oa,.func (PySem.W.fnOf "_law_deck" "_law_deck" (aX il) (aT il) (aj il) .none Oe Og Oh Ob JS Oi),Oc⟩) (c13:PySem.W.codeIn K JS "_law_deck"=true) (k13:PySem.W.keepIn K (.ref Fo)=true)
  (a14:PySem.W.nsIn K mainGlobals "_law_next"=some (some (.ref Fp))) (l14:K.lookup Fp=some ⟨Oo,Oj,.func (PySem.W.fnOf "_law_next" "_law_next" (aX iq) (aT iq) (aj iq) .none Oq Ot Ou Ol JT Ov),Om⟩) (c14:PySem.W.codeIn K JT "_law_next"=true) (k14:PySem.W.keepIn K (.ref Fp)=true)
  (a15:PySem.W.nsIn K mainGlobals "_law_names"=some (some (.ref Fq))) (l15:K.lookup Fq=some ⟨Oz,Ow,.func (PySem.W.fnOf "_law_names" "_law_names" (aX dM) (aT dM) (aj dM) .none OA OB OC Ox JU OD),Oy⟩) (c15:PySem.W.codeIn K JU "_law_names"=true) (k15:PySem.W.keepIn K (.ref Fq)=true)
  (a16:PySem.W.nsIn K mainGlobals "_law_row"=some (some (.ref Fs))) (l16:K.lookup Fs=some ⟨OI,OE,.func (PySem.W.fnOf "_law_row" "_law_row" (aX fX) (aT fX) (aj fX) .none OJ OL OM OG JV OO),OH⟩) (c16:PySem.W.codeIn K JV "_law_row"=true) (k16:PySem.W.keepIn K (.ref Fs)=true)
  (a17:PySem.W.nsIn K mainGlobals "_law_world"=some (some (.ref Ft))) (l17:K.lookup Ft=some ⟨OT,OP,.func (PySem.W.fnOf "_law_world" "_law_world" (aX gP) (aT gP) (aj gP) .none OU OV OW OQ JW OX),OS⟩) (c17:PySem.W.codeIn K JW "_law_world"=true) (k17:PySem.W.keepIn K (.ref Ft)=true)
  (a18:PySem.W.nsIn K mainGlobals "_law_lines"=some (some (.ref Fu))) (l18:K.lookup Fu=some ⟨O0,OY,.func (PySem.W.fnOf "_law_lines" "_law_lines" (aX fM) (aT fM) (aj fM) .none O1 O6 O7 OZ JX O8),O_⟩) (c18:PySem.W.codeIn K JX "_law_lines"=true) (k18:PySem.W.keepIn K (.ref Fu)=true)
  (a19:PySem.W.nsIn K mainGlobals "_law_wrong_row"=some (some (.ref Fv))) (l19:K.lookup Fv=some ⟨Pb,O9,.func (PySem.W.fnOf "_law_wrong_row" "_law_wrong_row" (aX dz) (aT dz) (aj dz) .none Pc Pd Pe O' JY Pf),Pa⟩) (c19:PySem.W.codeIn K JY "_law_wrong_row"=true) (k19:PySem.W.keepIn K (.ref Fv)=true)
  (a20:PySem.W.nsIn K mainGlobals "_law_wrong"=some (some (.ref Fw))) (l20:K.lookup Fw=some ⟨Pk,Pg,.func (PySem.W.fnOf "_law_wrong" "_law_wrong" (aX gQ) (aT gQ) (aj gQ) .none Pl Pm Pn Ph JZ Po),Pj⟩) (c20:PySem.W.codeIn K JZ "_law_wrong"=true) (k20:PySem.W.keepIn K (.ref Fw)=true)
  (a21:PySem.W.nsIn K mainGlobals "_law_read"=some (some (.ref Fx))) (l21:K.lookup Fx=some ⟨Pt,Pp,.func (PySem.W.fnOf "_law_read" "_law_read" (aX iu) (aT iu) (aj iu) .none Pu Pw Px Pq J_ Py),Pr⟩) (c21:PySem.W.codeIn K J_ "_law_read"=true) (k21:PySem.W.keepIn K (.ref Fx)=true)
  (a22:PySem.W.nsIn K mainGlobals "_law_no_row"=some (some (.ref Fy))) (l22:K.lookup Fy=some ⟨PF,PB,.func (PySem.W.fnOf "_law_no_row" "_law_no_row" (aX fY) (aT fY) (aj fY) .none PH PK PL PC J0 PN),PD⟩) (c22:PySem.W.codeIn K J0 "_law_no_row"=true) (k22:PySem.W.keepIn K (.ref Fy)=true)
  (a23:PySem.W.nsIn K mainGlobals "law"=some (some (.ref J4))) (l23:K.lookup J4=some ⟨PU,PQ,.func (PySem.W.fnOf "law" "law" (aX jb) (aT jb) (aj jb) .none J6 J7 J8 J5 Ee J9),PR⟩) (c23:PySem.W.codeIn K Ee "law"=true) (k23:PySem.W.keepIn K (.ref J4)=true)
  (z0:PySem.W.nsIn K mainGlobals "ValueError"=some none)
  (z1:PySem.W.nsIn K mainGlobals "all"=some none)
  (z2:PySem.W.nsIn K mainGlobals "enumerate"=some none)
  (z3:PySem.W.nsIn K mainGlobals "sorted"=some none)
  (z4:PySem.W.nsIn K mainGlobals "int"=some none)
  (z5:PySem.W.nsIn K mainGlobals "tuple"=some none)
  (z6:PySem.W.nsIn K mainGlobals "range"=some none)
  (z7:PySem.W.nsIn K mainGlobals "list"=some none)
  (z8:PySem.W.nsIn K mainGlobals "dict"=some none)
  (z9:PySem.W.nsIn K mainGlobals "len"=some none)
  (z10:PySem.W.nsIn K mainGlobals "min"=some none)
  (z11:PySem.W.nsIn K mainGlobals "str"=some none)
  (z12:PySem.W.nsIn K mainGlobals "zip"=some none)
  (z13:PySem.W.nsIn K mainGlobals "set"=some none)
  (z14:PySem.W.nsIn K mainGlobals "isinstance"=some none)
  {gt0:Tok} (gg0:PySem.W.nsIn K mainGlobals "GREAT"=some (some (.str "ABCDEFGHIJKLMNOPQRSTUVWXYZ" gt0)))
  {Ux:Tok} (gg1:PySem.W.nsIn K mainGlobals "FIGURES"=some (some (.str "0123456789" Ux)))
  {Uy:Tok} (gg2:PySem.W.nsIn K mainGlobals "LONGEST_NAME"=some (some (.int 3 Uy)))
  {Uz:Tok} (gg3:PySem.W.nsIn K mainGlobals "MOST_ROOMS"=some (some (.int 8 Uz)))
  {UA:Tok} (gg4:PySem.W.nsIn K mainGlobals "MOST_ROWS"=some (some (.int 4 UA)))
  {xDC Fz:Addr} {PV UB:_} {PX PY KU PZ KW P_ P0 P1 P2 P4 P5:_}
  (xDa:PySem.W.nsIn K mainGlobals "JudgeError"=some (some (.ref xDC)))
  (xDl:K.lookup xDC=some (PySem.excClassObj PV UB xDC Fz PX dm true PY KU PZ KW P_ P0 P1 P2 P4 P5 "ValueError.__new__"))
  {M5:Obj}
  (xDnl:K.lookup Fz=some M5)
  (xDno:nsO M5=true)
  (xDni:PySem.W.nsIn K Fz "__init__"=some none)
  (xDg:PySem.W.specialIn K (.ref xDC) "__getattribute__"=some (some (.builtin "type.__getattribute__")))
  (xDr:PySem.W.readsIn K xDC (.type "type")=true)
  (xDf:PySem.W.findCls K (.ref xDC) (.type "type") "__init__"=some (.val (.builtin "ValueError.__init__")))
  (xDga:PySem.W.findIn K (.ref xDC) "__getattribute__"=some (some (.builtin "BaseException.__getattribute__")))
  (xDgh:PySem.W.findIn K (.ref xDC) "__getattr__"=some none)
  (xDsa:PySem.W.findIn K (.ref xDC) "__setattr__"=some (some (.builtin "object.__setattr__")))
  (xDcl:PySem.W.findIn K (.ref xDC) "__class__"=some (some (.builtin "object.__class__")))
  (xgt:PySem.W.specialIn K (.builtin "object.__class__") "__get__"=some (some (.builtin "getset_descriptor.__get__")))
  (xtk:PySem.W.takesIn K (.builtin "object.__class__")=some true)
  (xzV:PySem.W.nsIn K mainGlobals "ValueError"=some none)
  {x1C UC:Addr} {P6 UD:_} {P7 P8 KY P9 KZ P' Qa Qb Qc Qd Qe:_}
  (x1a:PySem.W.nsIn K mainGlobals "NoRow"=some (some (.ref x1C)))
  (x1l:K.lookup x1C=some (PySem.excClassObj P6 UD x1C UC P7 (.ref xDC::dm) true P8 KY P9 KZ P' Qa Qb Qc Qd Qe "ValueError.__new__"))
  (x1ga:PySem.W.findIn K (.ref x1C) "__getattribute__"=some (some (.builtin "BaseException.__getattribute__")))
  (x1gh:PySem.W.findIn K (.ref x1C) "__getattr__"=some none)
  (x1sa:PySem.W.findIn K (.ref x1C) "__setattr__"=some (some (.builtin "object.__setattr__")))
  (x1cl:PySem.W.findIn K (.ref x1C) "__class__"=some (some (.builtin "object.__class__")))
  {x1F:Addr} {K_ K0:Option Addr} {K1:Array (Option Value)} {K2 K3 K4 K7 FA K8:Value}
  (x1i:PySem.W.findIn K (.ref x1C) "__init__"=some (some (.ref x1F)))
  (x1fl:K.lookup x1F=some ⟨K2,K_,.func (PySem.W.fnOf "__init__" "NoRow.__init__" (aX qA) (aT qA) (aj qA) .none K3 K4 K7 K0 FA K8),K1⟩)
  (x1fc:PySem.W.codeIn K FA "NoRow.__init__"=true)
  (x1fk:PySem.W.keepIn K (.ref x1F)=true)
  (x1fn:PySem.W.isFn K (.ref x1F)=true)
  (x1k:PySem.W.keepIn K (.ref x1C)=true)
  (x1n:PySem.W.findIn K (.ref x1C) "name"=some none)
  {x2C UE:Addr} {Qf UG:_} {Qg Qh K9 Qi K' Qj Qk Ql Qm Qn Qo:_}
  (x2a:PySem.W.nsIn K mainGlobals "NoSaying"=some (some (.ref x2C)))
  (x2l:K.lookup x2C=some (PySem.excClassObj Qf UG x2C UE Qg (.ref xDC::dm) true Qh K9 Qi K' Qj Qk Ql Qm Qn Qo "ValueError.__new__"))
  (x2ga:PySem.W.findIn K (.ref x2C) "__getattribute__"=some (some (.builtin "BaseException.__getattribute__")))
  (x2gh:PySem.W.findIn K (.ref x2C) "__getattr__"=some none)
  (x2sa:PySem.W.findIn K (.ref x2C) "__setattr__"=some (some (.builtin "object.__setattr__")))
  (x2cl:PySem.W.findIn K (.ref x2C) "__class__"=some (some (.builtin "object.__class__")))
  {x2F:Addr} {La Lb:Option Addr} {Lc:Array (Option Value)} {Ld Le Lf Lg FC Lh:Value}
  (x2i:PySem.W.findIn K (.ref x2C) "__init__"=some (some (.ref x2F)))
  (x2fl:K.lookup x2F=some ⟨Ld,La,.func (PySem.W.fnOf "__init__" "NoSaying.__init__" (aX vI) (aT vI) (aj vI) .none Le Lf Lg Lb FC Lh),Lc⟩)
  (x2fc:PySem.W.codeIn K FC "NoSaying.__init__"=true)
  (x2fk:PySem.W.keepIn K (.ref x2F)=true)
  (x2fn:PySem.W.isFn K (.ref x2F)=true)
  (x2k:PySem.W.keepIn K (.ref x2C)=true)
  (x2n:PySem.W.findIn K (.ref x2C) "place"=some none)
  {x3C UH:Addr} {Qp UI:_} {Qq Qr Li Qs Lj x3dd Qt Qu Qv Qw Qy:_}
  (x3a:PySem.W.nsIn K mainGlobals "TooMany"=some (some (.ref x3C)))
  (x3l:K.lookup x3C=some (PySem.excClassObj Qp UI x3C UH Qq (.ref xDC::dm) true Qr Li Qs Lj x3dd Qt Qu Qv Qw Qy "ValueError.__new__"))
  (x3ga:PySem.W.findIn K (.ref x3C) "__getattribute__"=some (some (.builtin "BaseException.__getattribute__")))
  (x3gh:PySem.W.findIn K (.ref x3C) "__getattr__"=some none)
  (x3sa:PySem.W.findIn K (.ref x3C) "__setattr__"=some (some (.builtin "object.__setattr__")))
  (x3cl:PySem.W.findIn K (.ref x3C) "__class__"=some (some (.builtin "object.__class__")))
  {x3F:Addr} {Ll Lm:Option Addr} {Ln:Array (Option Value)} {Lo Lp Lq Lr FD Ls:Value}
  (x3i:PySem.W.findIn K (.ref x3C) "__init__"=some (some (.ref x3F)))
  (x3fl:K.lookup x3F=some ⟨Lo,Ll,.func (PySem.W.fnOf "__init__" "TooMany.__init__" (aX vJ) (aT vJ) (aj vJ) .none Lp Lq Lr Lm FD Ls),Ln⟩)
  (x3fc:PySem.W.codeIn K FD "TooMany.__init__"=true)
  (x3fk:PySem.W.keepIn K (.ref x3F)=true)
  (x3fn:PySem.W.isFn K (.ref x3F)=true)
  (x3k:PySem.W.keepIn K (.ref x3C)=true)
  (x3n:PySem.W.findIn K (.ref x3C) "place"=some none)
  {x4C UJ:Addr} {Qz UK:_} {QA QB Lu QC Lv QD QE QF QG QH QI:_}
  (x4a:PySem.W.nsIn K mainGlobals "NoText"=some (some (.ref x4C)))
  (x4l:K.lookup x4C=some (PySem.excClassObj Qz UK x4C UJ QA (.ref xDC::dm) true QB Lu QC Lv QD QE QF QG QH QI "ValueError.__new__"))
  (x4ga:PySem.W.findIn K (.ref x4C) "__getattribute__"=some (some (.builtin "BaseException.__getattribute__")))
  (x4gh:PySem.W.findIn K (.ref x4C) "__getattr__"=some none)
  (x4sa:PySem.W.findIn K (.ref x4C) "__setattr__"=some (some (.builtin "object.__setattr__")))
  (x4cl:PySem.W.findIn K (.ref x4C) "__class__"=some (some (.builtin "object.__class__")))
  {x4F:Addr} {Lw Lx:Option Addr} {Ly:Array (Option Value)} {Lz LA LB LD FE LF:Value}
  (x4i:PySem.W.findIn K (.ref x4C) "__init__"=some (some (.ref x4F)))
  (x4fl:K.lookup x4F=some ⟨Lz,Lw,.func (PySem.W.fnOf "__init__" "NoText.__init__" (aX qB) (aT qB) (aj qB) .none LA LB LD Lx FE LF),Ly⟩)
  (x4fc:PySem.W.codeIn K FE "NoText.__init__"=true)
  (x4fk:PySem.W.keepIn K (.ref x4F)=true)
  (x4fn:PySem.W.isFn K (.ref x4F)=true)
  (x4k:PySem.W.keepIn K (.ref x4C)=true)
  (xne:[x1C,x2C,x3C,x4C,xDC].Nodup)
  :∃fd:FuncData,(∀(s:Shared) (v:Value),BindsTo s fd ⟨[v],[]⟩ [("_law_script",v)])∧∀base:Heap,K.In base→base.Ns mainGlobals mg→bC l.prog w K mg base dE 8 fa fd ["_law_script"] (ua K):=by
 have e:=hfa.symm.trans (PySem.W.mg_of X G a23)
 cases e
 have F0:=bI (st:=dU) l0 c0 k0
 have b0:=F0.binds (ps:=["leads","many"]) fun _ _ _ _ _ _ us hl=>ln2 us hl fun _ _=>rfl
 have F1:=bI (st:=fW) l1 c1 k1
 have b1:=F1.binds (ps:=["base","row"]) fun _ _ _ _ _ _ us hl=>ln2 us hl fun _ _=>rfl
 have F2:=bI (st:=eI) l2 c2 k2
 have b2:=F2.binds (ps:=["world"]) fun _ _ _ _ _ _ us hl=>mE us hl fun _=>rfl
 have F3:=bI (st:=dq) l3 c3 k3
 have b3:=F3.binds (ps:=["some","signs"]) fun _ _ _ _ _ _ us hl=>ln2 us hl fun _ _=>rfl
 have F4:=bI (st:=fu) l4 c4 k4
 have b4:=F4.binds (ps:=["some","signs"]) fun _ _ _ _ _ _ us hl=>ln2 us hl fun _ _=>rfl
 have F5:=bI (st:=dy) l5 c5 k5
 have b5:=F5.binds (ps:=["some"]) fun _ _ _ _ _ _ us hl=>mE us hl fun _=>rfl
 have F6:=bI (st:=fv) l6 c6 k6
 have b6:=F6.binds (ps:=["some"]) fun _ _ _ _ _ _ us hl=>mE us hl fun _=>rfl
 have F7:=bI (st:=dW) l7 c7 k7
 have b7:=F7.binds (ps:=["base","some"]) fun _ _ _ _ _ _ us hl=>ln2 us hl fun _ _=>rfl
 have F8:=bI (st:=di) l8 c8 k8
 have b8:=F8.binds (ps:=["base","some"]) fun _ _ _ _ _ _ us hl=>ln2 us hl fun _ _=>rfl
 have F9:=bI (st:=cW) l9 c9 k9
 have b9:=F9.binds (ps:=["text"]) fun _ _ _ _ _ _ us hl=>mE us hl fun _=>rfl
 have F10:=bI (st:=dX) l10 c10 k10
 have b10:=F10.binds (ps:=["sign","leads"]) fun _ _ _ _ _ _ us hl=>ln2 us hl fun _ _=>rfl
 have F11:=bI (st:=eY) l11 c11 k11
 have UL:=F11.binds (ps:=["name","row"]) fun _ _ _ _ _ _ us hl=>ln2 us hl fun _ _=>rfl
 have F12:=bI (st:=dr) l12 c12 k12
 have UM:=F12.binds (ps:=["world"]) fun _ _ _ _ _ _ us hl=>mE us hl fun _=>rfl
 have F13:=bI (st:=il) l13 c13 k13
 have UN:=F13.binds (ps:=["_law_script","_law_many"]) fun _ _ _ _ _ _ us hl=>ln2 us hl fun _ _=>rfl
 have F14:=bI (st:=iq) l14 c14 k14
 have UO:=F14.binds (ps:=["_law_deck_here","_law_many"]) fun _ _ _ _ _ _ us hl=>ln2 us hl fun _ _=>rfl
 have F15:=bI (st:=dM) l15 c15 k15
 have UP:=F15.binds (ps:=["_law_deck_here","_law_many","_law_great"]) fun _ _ _ _ _ _ us hl=>JN us hl fun _ _ _=>rfl
 have F16:=bI (st:=fX) l16 c16 k16
 have UQ:=F16.binds (ps:=["_law_deck_here","_law_base"]) fun _ _ _ _ _ _ us hl=>ln2 us hl fun _ _=>rfl
 have F17:=bI (st:=gP) l17 c17 k17
 have UR:=F17.binds (ps:=["_law_deck_here"]) fun _ _ _ _ _ _ us hl=>mE us hl fun _=>rfl
 have F18:=bI (st:=fM) l18 c18 k18
 have US:=F18.binds (ps:=["_law_world_here"]) fun _ _ _ _ _ _ us hl=>mE us hl fun _=>rfl
 have F19:=bI (st:=dz) l19 c19 k19
 have UT:=F19.binds (ps:=["_law_deck_here","_law_line"]) fun _ _ _ _ _ _ us hl=>ln2 us hl fun _ _=>rfl
 have F20:=bI (st:=gQ) l20 c20 k20
 have UU:=F20.binds (ps:=["_law_deck_here","_law_lines_here"]) fun _ _ _ _ _ _ us hl=>ln2 us hl fun _ _=>rfl
 have F21:=bI (st:=iu) l21 c21 k21
 have UW:=F21.binds (ps:=["_law_text"]) fun _ _ _ _ _ _ us hl=>mE us hl fun _=>rfl
 have F22:=bI (st:=fY) l22 c22 k22
 have UX:=F22.binds (ps:=["_law_deck_here","_law_world_here","_law_name"]) fun _ _ _ _ _ _ us hl=>JN us hl fun _ _ _=>rfl
 have F23:=bI (st:=jb) l23 c23 k23
 have T:Txt K mg ⟨f0,_,f1,_,f2,_,f3,_,f4,_,f5,_,f6,_,f7,_,f8,_,f9,_,Fm,_,f11,_,Fn,_,Fo,_,Fp,_,Fq,_,Fs,_,Ft,_,Fu,_,Fv,_,Fw,_,Fx,_,Fy,_,fa,_⟩:=⟨F0,PySem.W.mg_of X G a0,k0,b0,F1,PySem.W.mg_of X G a1,k1,b1,F2,PySem.W.mg_of X G a2,k2,b2,F3,PySem.W.mg_of X G a3,k3,b3,F4,PySem.W.mg_of X G a4,k4,b4,F5,PySem.W.mg_of X G a5,k5,b5,F6,PySem.W.mg_of X G a6,k6,b6,F7,PySem.W.mg_of X G a7,k7,b7,F8,PySem.W.mg_of X G a8,k8,b8,F9,PySem.W.mg_of X G a9,k9,b9,F10,PySem.W.mg_of X G a10,k10,b10,F11,PySem.W.mg_of X G a11,k11,UL,F12,PySem.W.mg_of X G a12,k12,UM,F13,PySem.W.mg_of X G a13,k13,UN,F14,PySem.W.mg_of X G a14,k14,UO,F15,PySem.W.mg_of X G a15,k15,UP,F16,PySem.W.mg_of X G a16,k16,UQ,F17,PySem.W.mg_of X G a17,k17,UR,F18,PySem.W.mg_of X G a18,k18,US,F19,PySem.W.mg_of X G a19,k19,UT,F20,PySem.W.mg_of X G a20,k20,UU,F21,PySem.W.mg_of X G a21,k21,UW,F22,PySem.W.mg_of X G a22,k22,UX,F23,PySem.W.mg_of X G a23,PySem.W.mg_none_of X G z0,PySem.W.mg_none_of X G z1,PySem.W.mg_none_of X G z2,PySem.W.mg_none_of X G z3,PySem.W.mg_none_of X G z4,PySem.W.mg_none_of X G z5,PySem.W.mg_none_of X G z6,PySem.W.mg_none_of X G z7,PySem.W.mg_none_of X G z8,PySem.W.mg_none_of X G z9,PySem.W.mg_none_of X G z10,PySem.W.mg_none_of X G z11,PySem.W.mg_none_of X G z12,PySem.W.mg_none_of X G z13,PySem.W.mg_none_of X G z14,⟨_,PySem.W.mg_of X G gg0⟩,⟨_,PySem.W.mg_of X G gg1⟩,⟨_,PySem.W.mg_of X G gg2⟩,⟨_,PySem.W.mg_of X G gg3⟩,⟨_,PySem.W.mg_of X G gg4⟩⟩
 have UY:XC K xDC dm:=⟨⟨_,_,_,_,_,_,_,_,_,_,_,_,_,_,xDl⟩,ED,yn,xDga,xDgh,xDsa,xDcl,xgt,xtk⟩
 have FF:PySem.W.tailIn K dm (.ref xDC::dm)=true:=Kv (N:=Fz) xDl rfl (FX xDnl xDno) xDni
 have UZ:XC K x1C (.ref xDC::dm):=⟨⟨_,_,_,_,_,_,_,_,_,_,_,_,_,_,x1l⟩,FF,nQ,x1ga,x1gh,x1sa,x1cl,xgt,xtk⟩
 have x1FF:=bI (st:=qA) x1fl x1fc x1fk
 have x1B:=x1FF.binds (ps:=["self","name"]) fun _ _ _ _ _ _ us hl=>match us,hl with | [_,_],_=>rfl
 have U_:XC K x2C (.ref xDC::dm):=⟨⟨_,_,_,_,_,_,_,_,_,_,_,_,_,_,x2l⟩,FF,nQ,x2ga,x2gh,x2sa,x2cl,xgt,xtk⟩
 have x2FF:=bI (st:=vI) x2fl x2fc x2fk
 have x2B:=x2FF.binds (ps:=["self","place"]) fun _ _ _ _ _ _ us hl=>match us,hl with | [_,_],_=>rfl
 have U0:XC K x3C (.ref xDC::dm):=⟨⟨_,_,_,_,_,_,_,_,_,_,_,_,_,_,x3l⟩,FF,nQ,x3ga,x3gh,x3sa,x3cl,xgt,xtk⟩
 have x3FF:=bI (st:=vJ) x3fl x3fc x3fk
 have x3B:=x3FF.binds (ps:=["self","place"]) fun _ _ _ _ _ _ us hl=>match us,hl with | [_,_],_=>rfl
 have U1:XC K x4C (.ref xDC::dm):=⟨⟨_,_,_,_,_,_,_,_,_,_,_,_,_,_,x4l⟩,FF,nQ,x4ga,x4gh,x4sa,x4cl,xgt,xtk⟩
 have x4FF:=bI (st:=qB) x4fl x4fc x4fk
 have x4B:=x4FF.binds (ps:=["self"]) fun _ _ _ _ _ _ us hl=>match us,hl with | [_],_=>rfl
 have TE:TX K mg ⟨xDC,x1C,x2C,x3C,x4C,x1F,x2F,x3F,x4F,_,_,_,_⟩:=⟨UY,⟨xDg,xDr,xDf⟩,PySem.W.mg_of X G xDa,PySem.W.mg_none_of X G xzV,UZ,U_,U0,U1,⟨x1i,x1fn,x1k⟩,⟨x2i,x2fn,x2k⟩,⟨x3i,x3fn,x3k⟩,⟨x4i,x4fn,x4k⟩,PySem.W.mg_of X G x1a,PySem.W.mg_of X G x2a,PySem.W.mg_of X G x3a,PySem.W.mg_of X G x4a,x1FF,x2FF,x3FF,x4FF,x1B,x2B,x3B,x4B,x1n,x2n,x3n,xne,⟨h,X⟩⟩
 exact⟨PySem.W.fnOf "law" "law" (aX jb) (aT jb) (aj jb) .none J6 J7 J8 J5 Ee J9,fun s v=>.of_eq rfl,fun base _ _=>JI T TE⟩
theorem walk {l:PySem.W.OpenLaw} {q:Program} {loose:List Str} {XP:(Str→Option Value)→Heap→Prop} {YP:World→Heap→Prop} {d:DefRec} {K:Params→PySem.W.Frag} (hn:l.most=some 63) (hdf:d.params.defaults=[])
  (hY:∀(w:World) (h:Heap),YP w h→(K w.params).In h)
  (F:∀(w:World) (mg:Str→Option Value) (fa:Addr) (h:Heap),(K w.params).In h→h.Ns mainGlobals mg→mg d.name=some (.ref fa)→
   ∃fd:FuncData,(∀(s:Shared) (u:Value),BindsTo s fd ⟨[u],[]⟩ [("_law_script",u)])∧∀base:Heap,(K w.params).In base→base.Ns mainGlobals mg→bC l.prog w (K w.params) mg base dE 8 fa fd ["_law_script"] (ua (K w.params))):
  PySem.W.WalkO q loose XP YP l.row.toRowW d [] (fun f vs=>PySem.call f vs):=
 L2.FP (n:=63) (k:=8) (x:="_law_script") (CX:=fun _=>dE) (sp:=fun w=>ua (K w.params)) hn (by decide) hdf ⟨rfl,by decide,by decide,rfl⟩ hY F (fun _ _ a ns hl _ hS=>⟨a,ns,rfl,hS,hl,fun _=>rfl⟩) fun _ _ _ _ _ z=>z
end
end My
namespace PySem.W.Fast
theorem tw8067027702313972744 : True := trivial
theorem tw14030302850839800897 : True := trivial
theorem tw6526676768719540869 : True := trivial
theorem tw3674831056044454039 : True := trivial
theorem tw1880492010166432560 : True := trivial
theorem tw12883240134781556302 : True := trivial
theorem tw6374540331514909035 : True := trivial
theorem tw18079628140289855193 : True := trivial
theorem tw8638603558287748676 : True := trivial
theorem tw2215181219400972647 : True := trivial
theorem tw12944892029228169610 : True := trivial
theorem tw9541083676745193544 : True := trivial
theorem tw4211643762372472816 : True := trivial
theorem tw9447485348524840907 : True := trivial
theorem tw4575832436303307224 : True := trivial
theorem tw11267908935347817791 : True := trivial
theorem tw11903089043603695172 : True := trivial
theorem tw12620468944964225601 : True := trivial
theorem tw3926423473524218983 : True := trivial
theorem tw10242188770073359449 : True := trivial
theorem tw12655442144957441826 : True := trivial
theorem tw11911787250239002042 : True := trivial
theorem tw6284799830914893553 : True := trivial
theorem tw5516888036217623451 : True := trivial
theorem tw13394526113173071374 : True := trivial
theorem tw12274446382549048988 : True := trivial
theorem tw5670382027072377621 : True := trivial
theorem tw9065563775037158226 : True := trivial
theorem tw4528881690199007905 : True := trivial
theorem tw13098264573998735784 : True := trivial
theorem tw3691348073877252702 : True := trivial
theorem tw13714048818419706735 : True := trivial
theorem tw14507389586240144178 : True := trivial
theorem tw4052722201880268318 : True := trivial
theorem tw32661393558386126 : True := trivial
theorem tw9667216884423454024 : True := trivial
theorem tw16733284468738413504 : True := trivial
theorem tw6220077116671167184 : True := trivial
theorem tw7347542153528239624 : True := trivial
theorem tw1992801925516507175 : True := trivial
theorem tw9377887234082294990 : True := trivial
theorem tw17373971652530405400 : True := trivial
theorem tw5120355303472205727 : True := trivial
theorem tw10490351743680546830 : True := trivial
theorem tw11928896701631350360 : True := trivial
theorem tw5516664441672774674 : True := trivial
theorem tw8581971418370522183 : True := trivial
theorem tw14600458657189430660 : True := trivial
theorem tw15195490503342335488 : True := trivial
theorem tw6191155922190882180 : True := trivial
theorem tw15342434307321422437 : True := trivial
theorem tw1648877034428315189 : True := trivial
theorem tw16616323403514402069 : True := trivial
theorem tw16408539019354044483 : True := trivial
theorem tw4966892947797360553 : True := trivial
theorem tw7016783993968910440 : True := trivial
theorem tw9443028297091008347 : True := trivial
theorem tw3768144654868132294 : True := trivial
theorem tw708477923721754161 : True := trivial
theorem tw15644295755465690995 : True := trivial
theorem tw11372804609994261426 : True := trivial
theorem tw17743119370049092194 : True := trivial
theorem tw12981123537630192021 : True := trivial
theorem tw13907534108139099971 : True := trivial
theorem tw13025277226884467107 : True := trivial
theorem tw12271967060389814634 : True := trivial
theorem tw9186673483017746411 : True := trivial
theorem tw4190246472837416292 : True := trivial
theorem tw2110531807134216366 : True := trivial
theorem tw15872453241208821998 : True := trivial
theorem tw15926070830323730938 : True := trivial
theorem tw8326728437636131802 : True := trivial
theorem tw4455949546361224250 : True := trivial
theorem tw10411888566467768414 : True := trivial
theorem tw5453789279830616689 : True := trivial
theorem tw7273387105860696205 : True := trivial
theorem tw15583766325636041694 : True := trivial
theorem tw11844808879945815251 : True := trivial
theorem tw10939617467452602975 : True := trivial
theorem tw5963092456240930145 : True := trivial
theorem tw850014821092299968 : True := trivial
theorem tw15540548233963377898 : True := trivial
theorem tw8131164978933220325 : True := trivial
theorem tw7836473880049773909 : True := trivial
theorem tw6528837750037942119 : True := trivial
theorem tw16373565820606331137 : True := trivial
theorem tw9436887167805756222 : True := trivial
theorem tw15387985639604189626 : True := trivial
theorem tw102091093824493317 : True := trivial
theorem tw16208291253061535373 : True := trivial
theorem tw4074725965558627879 : True := trivial
theorem tw1268508568935723165 : True := trivial
theorem tw4355904385847173224 : True := trivial
theorem tw8959940504753463200 : True := trivial
theorem tw8544463661101922113 : True := trivial
theorem tw17330113791946852434 : True := trivial
theorem tw13989281007891444112 : True := trivial
theorem tw8319357042283002121 : True := trivial
theorem tw13686390836614266521 : True := trivial
theorem tw5574213830359793974 : True := trivial
theorem tw13847602336026301637 : True := trivial
theorem tw919223649117574534 : True := trivial
theorem tw1226997631672034462 : True := trivial
theorem tw10369412301768931536 : True := trivial
theorem tw11436415217471258859 : True := trivial
theorem tw6591467206369788189 : True := trivial
theorem tw9119417293877576041 : True := trivial
theorem tw12365746292826206736 : True := trivial
theorem tw12932025718963350468 : True := trivial
theorem tw5810637970150019142 : True := trivial
theorem tw6827984398998495652 : True := trivial
theorem tw9641950351874268791 : True := trivial
theorem tw16717715730410761107 : True := trivial
theorem tw18289088798918358462 : True := trivial
theorem tw16203740642904755825 : True := trivial
theorem tw11192178528880478189 : True := trivial
end PySem.W.Fast
open PySem PySem.W PyProof.Rows
set_option maxRecDepth 100000 in
set_option maxHeartbeats 0 in
theorem PySem.Challenge.cw_figurejudge_k85_worlds_written_and_read_holds : PySem.Challenge.rw_figurejudge_k85_worlds_written_and_read.Holds := by
 w_on;o_law;k_head;(case hw=>w_witness2)
 k_fill
 refine My.walk (l:=PySem.Challenge.rw_figurejudge_k85_worlds_written_and_read) rfl rfl (fun w h Y=>PySem.W.kIn_of Y) ?F
 case F=>
  intro w mg fa h KX G hmg
  refine' My.all_mk KX G hmg ?a0 ?l0 ?c0 ?k0 ?a1 ?l1 ?c1 ?k1 ?a2 ?l2 ?c2 ?k2 ?a3 ?l3 ?c3 ?k3 ?a4 ?l4 ?c4 ?k4 ?a5 ?l5 ?c5 ?k5 ?a6 ?l6 ?c6 ?k6 ?a7 ?l7 ?c7 ?k7 ?a8 ?l8 ?c8 ?k8 ?a9 ?l9 ?c9 ?k9 ?a10 ?l10 ?c10 ?k10 ?a11 ?l11 ?c11 ?k11 ?a12 ?l12 ?c12 ?k12 ?a13 ?l13 ?c13 ?k13 ?a14 ?l14 ?c14 ?k14 ?a15 ?l15 ?c15 ?k15 ?a16 ?l16 ?c16 ?k16 ?a17 ?l17 ?c17 ?k17 ?a18 ?l18 ?c18 ?k18 ?a19 ?l19 ?c19 ?k19 ?a20 ?l20 ?c20 ?k20 ?a21 ?l21 ?c21 ?k21 ?a22 ?l22 ?c22 ?k22 ?a23 ?l23 ?c23 ?k23 ?z0 ?z1 ?z2 ?z3 ?z4 ?z5 ?z6 ?z7 ?z8 ?z9 ?z10 ?z11 ?z12 ?z13 ?z14 ?gg0 ?gg1 ?gg2 ?gg3 ?gg4 ?xDa ?xDl ?xDnl ?xDno ?xDni ?xDg ?xDr ?xDf ?xDga ?xDgh ?xDsa ?xDcl ?xgt ?xtk ?xzV ?x1a ?x1l ?x1ga ?x1gh ?x1sa ?x1cl ?x1i ?x1fl ?x1fc ?x1fk ?x1fn ?x1k ?x1n ?x2a ?x2l ?x2ga ?x2gh ?x2sa ?x2cl ?x2i ?x2fl ?x2fc ?x2fk ?x2fn ?x2k ?x2n ?x3a ?x3l ?x3ga ?x3gh ?x3sa ?x3cl ?x3i ?x3fl ?x3fc ?x3fk ?x3fn ?x3k ?x3n ?x4a ?x4l ?x4ga ?x4gh ?x4sa ?x4cl ?x4i ?x4fl ?x4fc ?x4fk ?x4fn ?x4k ?xne
  (case a0=>k_is)
  (case l0=>k_is)
  (case c0=>k_is)
  (case k0=>k_is)
  (case a1=>k_is)
  (case l1=>k_is)
  (case c1=>k_is)
  (case k1=>k_is)
  (case a2=>k_is)
  (case l2=>k_is)
  (case c2=>k_is)
  (case k2=>k_is)
  (case a3=>k_is)
  (case l3=>k_is)
  (case c3=>k_is)
  (case k3=>k_is)
  (case a4=>k_is)
  (case l4=>k_is)
  (case c4=>k_is)
  (case k4=>k_is)
  (case a5=>k_is)
  (case l5=>k_is)
  (case c5=>k_is)
  (case k5=>k_is)
  (case a6=>k_is)
  (case l6=>k_is)
  (case c6=>k_is)
  (case k6=>k_is)
  (case a7=>k_is)
  (case l7=>k_is)
  (case c7=>k_is)
  (case k7=>k_is)
  (case a8=>k_is)
  (case l8=>k_is)
  (case c8=>k_is)
  (case k8=>k_is)
  (case a9=>k_is)
  (case l9=>k_is)
  (case c9=>k_is)
  (case k9=>k_is)
  (case a10=>k_is)
  (case l10=>k_is)
  (case c10=>k_is)
  (case k10=>k_is)
  (case a11=>k_is)
  (case l11=>k_is)
  (case c11=>k_is)
  (case k11=>k_is)
  (case a12=>k_is)
  (case l12=>k_is)
  (case c12=>k_is)
  (case k12=>k_is)
  (case a13=>k_is)
  (case l13=>k_is)
  (case c13=>k_is)
  (case k13=>k_is)
  (case a14=>k_is)
  (case l14=>k_is)
  (case c14=>k_is)
  (case k14=>k_is)
  (case a15=>k_is)
  (case l15=>k_is)
  (case c15=>k_is)
  (case k15=>k_is)
  (case a16=>k_is)
  (case l16=>k_is)
  (case c16=>k_is)
  (case k16=>k_is)
  (case a17=>k_is)
  (case l17=>k_is)
  (case c17=>k_is)
  (case k17=>k_is)
  (case a18=>k_is)
  (case l18=>k_is)
  (case c18=>k_is)
  (case k18=>k_is)
  (case a19=>k_is)
  (case l19=>k_is)
  (case c19=>k_is)
  (case k19=>k_is)
  (case a20=>k_is)
  (case l20=>k_is)
  (case c20=>k_is)
  (case k20=>k_is)
  (case a21=>k_is)
  (case l21=>k_is)
  (case c21=>k_is)
  (case k21=>k_is)
  (case a22=>k_is)
  (case l22=>k_is)
  (case c22=>k_is)
  (case k22=>k_is)
  (case a23=>k_is)
  (case l23=>k_is)
  (case c23=>k_is)
  (case k23=>k_is)
  (case z0=>k_is)
  (case z1=>k_is)
  (case z2=>k_is)
  (case z3=>k_is)
  (case z4=>k_is)
  (case z5=>k_is)
  (case z6=>k_is)
  (case z7=>k_is)
  (case z8=>k_is)
  (case z9=>k_is)
  (case z10=>k_is)
  (case z11=>k_is)
  (case z12=>k_is)
  (case z13=>k_is)
  (case z14=>k_is)
  (case gg0=>k_is)
  (case gg1=>k_is)
  (case gg2=>k_is)
  (case gg3=>k_is)
  (case gg4=>k_is)
  (case xDa=>k_is)
  (case xDl=>k_is)
  (case xDnl=>k_is)
  (case xDno=>simp[L2.nsO])
  (case xDni=>k_is)
  (case xDg=>k_is)
  (case xDr=>k_is)
  (case xDf=>k_is)
  (case xDga=>k_is)
  (case xDgh=>k_is)
  (case xDsa=>k_is)
  (case xDcl=>k_is)
  (case xgt=>k_is)
  (case xtk=>k_is)
  (case xzV=>k_is)
  (case x1a=>k_is)
  (case x1l=>k_is)
  (case x1ga=>k_is)
  (case x1gh=>k_is)
  (case x1sa=>k_is)
  (case x1cl=>k_is)
  (case x1i=>k_is)
  (case x1fl=>k_is)
  (case x1fc=>k_is)
  (case x1fk=>k_is)
  (case x1fn=>k_is)
  (case x1k=>k_is)
  (case x1n=>k_is)
  (case x2a=>k_is)
  (case x2l=>k_is)
  (case x2ga=>k_is)
  (case x2gh=>k_is)
  (case x2sa=>k_is)
  (case x2cl=>k_is)
  (case x2i=>k_is)
  (case x2fl=>k_is)
  (case x2fc=>k_is)
  (case x2fk=>k_is)
  (case x2fn=>k_is)
  (case x2k=>k_is)
  (case x2n=>k_is)
  (case x3a=>k_is)
  (case x3l=>k_is)
  (case x3ga=>k_is)
  (case x3gh=>k_is)
  (case x3sa=>k_is)
  (case x3cl=>k_is)
  (case x3i=>k_is)
  (case x3fl=>k_is)
  (case x3fc=>k_is)
  (case x3fk=>k_is)
  (case x3fn=>k_is)
  (case x3k=>k_is)
  (case x3n=>k_is)
  (case x4a=>k_is)
  (case x4l=>k_is)
  (case x4ga=>k_is)
  (case x4gh=>k_is)
  (case x4sa=>k_is)
  (case x4cl=>k_is)
  (case x4i=>k_is)
  (case x4fl=>k_is)
  (case x4fc=>k_is)
  (case x4fk=>k_is)
  (case x4fn=>k_is)
  (case x4k=>k_is)
  (case xne=>decide)
#print axioms PySem.Challenge.cw_figurejudge_k85_worlds_written_and_read_holds
