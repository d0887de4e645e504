import PyProof.Rows.All
import Wide.All
import OpenK.AllK
import Wide.FinOn
import Lean
import PyProof.EqAt
import PyProof.EqKinds
import PyProof.TupleCall
import PyProof.NeKinds
import PyProof.ListRange
import PyProof.Draws
import PyProof.Rows.SortStr
import KE.KDictSum
import KE.KEqDict
import KE.KDictOf
import KE.KRevSl
import PyProof.StrWalks
import PyProof.StrBlock2
import PyProof.SetKind
import PyProof.SetRoads
import PyProof.Rows.SetFrom
import PyProof.ReprRoads
import PyProof.ReprLen
import PyProof.NsDelKeeps
import PyProof.ListMulRoad
import PyProof.FactsAll.tuple_2
import KE.KLam
import KE.KNestM
import PyProof.AttrMissHeap
import PyProof.Rows.SortShell
import PySem.Challenge.RW_figurejudge_k41_not_and_or_by_own_names
set_option Elab.async false
set_option linter.all false
set_option maxRecDepth 100000
set_option maxHeartbeats 4000000
namespace L2
open PySem PySem.Spec PyProof.Rows
abbrev Key := Sum Int Str
def keyIs : Key → Value → Bool
 | .inl k, v => Value.isInt k v
 | .inr x, v => Value.isStrOf x v
def keyH (w : World) : Key → Int
 | .inl k => hashInt k
 | .inr x => hashStr w x
theorem keyIs_shape : ∀ {k : Key} {v : Value}, keyIs k v = true → (∃ i t, k = Sum.inl i ∧ v = Value.int i t) ∨ (∃ x t, k = Sum.inr x ∧ v = Value.str x t)
 | .inl i, v, h => by
  obtain ⟨t, e⟩ := Value.isInt_shape (k := i) (v := v) h
  exact .inl ⟨i, t, rfl, e⟩
 | .inr x, v, h => by
  obtain ⟨t, e⟩ := Value.isStrOf_shape (x := x) (v := v) h
  exact .inr ⟨x, t, rfl, e⟩
theorem keyIs_int (i : Int) (t : Tok) : keyIs (.inl i) (.int i t) = true := by simp [keyIs, Value.isInt]
theorem keyIs_str (x : Str) (t : Tok) : keyIs (.inr x) (.str x t) = true := by simp [keyIs, Value.isStrOf]
theorem key_ll (a b : Int) : decide ((Sum.inl a : Key) = Sum.inl b) = (a == b) := by
 by_cases e : a = b
 ·subst e; simp
 ·have h : ¬ (Sum.inl a : Key) = Sum.inl b := fun q => e (Sum.inl.inj q)
  rw [decide_eq_false h]
  exact (beq_eq_false_iff_ne.mpr e).symm
theorem key_rr (a b : Str) : decide ((Sum.inr a : Key) = Sum.inr b) = decide (a = b) := by
 by_cases e : a = b
 ·subst e; simp
 ·have h : ¬ (Sum.inr a : Key) = Sum.inr b := fun q => e (Sum.inr.inj q)
  rw [decide_eq_false h, decide_eq_false e]
theorem key_lr (a : Int) (b : Str) : decide ((Sum.inl a : Key) = Sum.inr b) = false := decide_eq_false (fun q => nomatch q)
theorem key_rl (a : Str) (b : Int) : decide ((Sum.inr a : Key) = Sum.inl b) = false := decide_eq_false (fun q => nomatch q)
def mixKind (prog : Program) (w : World) : PySem.KeyKind prog w Key where
 is := keyIs
 hash := keyH w
 inj := fun v a b ha hb => by
  rcases keyIs_shape ha with ⟨i, t, rfl, rfl⟩ | ⟨x, t, rfl, rfl⟩
  ·rcases keyIs_shape hb with ⟨j, u, rfl, e⟩ | ⟨y, u, rfl, e⟩
   ·injection e with e1 _; rw [e1]
   ·exact nomatch e
  ·rcases keyIs_shape hb with ⟨j, u, rfl, e⟩ | ⟨y, u, rfl, e⟩
   ·exact nomatch e
   ·injection e with e1 _; rw [e1]
 byValue := fun k v h => by
  rcases keyIs_shape h with ⟨i, t, rfl, rfl⟩ | ⟨x, t, rfl, rfl⟩ <;> rfl
 pyHash := fun hv h => by
  rcases keyIs_shape hv with ⟨i, t, rfl, rfl⟩ | ⟨x, t, rfl, rfl⟩
  ·exact wpAny_pyHash_int h
  ·exact wpAny_pyHash_str h
 eqBool := fun hu hv h => by
  rcases keyIs_shape hu with ⟨i, t, rfl, rfl⟩ | ⟨x, t, rfl, rfl⟩
  ·rcases keyIs_shape hv with ⟨j, u, rfl, rfl⟩ | ⟨y, u, rfl, rfl⟩
   ·rw [key_ll] at h; exact wpAny_eqBool_int h
   ·rw [key_lr] at h; exact SeqAt.EqAt.int_str i t y u _ _ _ _ h
  ·rcases keyIs_shape hv with ⟨j, u, rfl, rfl⟩ | ⟨y, u, rfl, rfl⟩
   ·rw [key_rl] at h; exact SeqAt.EqAt.str_int x t j u _ _ _ _ h
   ·rw [key_rr] at h; exact wpAny_eqBool_str h
 «strs» := fun k x t v h => by
  rcases keyIs_shape h with ⟨i, u, rfl, e⟩ | ⟨y, u, rfl, e⟩
  ·exact nomatch e
  ·injection e with e1 _
   subst e1
   cases v <;> rfl
theorem mixKind_int (prog : Program) (w : World) (i : Int) (t : Tok) : (mixKind prog w).is (.inl i) (.int i t) = true := keyIs_int i t
theorem mixKind_str (prog : Program) (w : World) (x : Str) (t : Tok) : (mixKind prog w).is (.inr x) (.str x t) = true := keyIs_str x t
inductive V where
 | non | bl (b : Bool) | int (i : Int) | str (x : Str) | byt (b : Array UInt8) | flt (b : UInt64) | ref (a : Addr) | ty (n : String)
 deriving DecidableEq
def RelV : V → Value → Prop
 | .non, u => u = Value.none
 | .bl b, u => u = Value.bool b
 | .int i, u => ∃ t, u = Value.int i t
 | .str x, u => ∃ t, u = Value.str x t
 | .byt b, u => ∃ t, u = Value.bytes b t
 | .flt b, u => ∃ t, u = Value.float b t
 | .ref a, u => u = Value.ref a
 | .ty n, u => u = Value.type n
abbrev Vals : List V → List Value → Prop := Paired RelV
theorem Vals.length {xs : List V} {us : List Value} (r : Vals xs us) : xs.length = us.length := Paired.length r
theorem Vals.get : ∀ {xs : List V} {us : List Value} {i : Nat} {x : V}, Vals xs us → xs[i]? = some x → ∃ u, us[i]? = some u ∧ RelV x u
 | _, _, _, _, .nil, e => by simp at e
 | _, _, 0, _, .cons r _, e => by simp at e; subst e; exact ⟨_, rfl, r⟩
 | _, _, i + 1, x, .cons _ t, e => by
  obtain ⟨u, h1, h2⟩ := Vals.get (i := i) (x := x) t (by simpa using e)
  exact ⟨u, by simpa using h1, h2⟩
theorem Vals.append : ∀ {xs ys : List V} {us ws : List Value}, Vals xs us → Vals ys ws → Vals (xs ++ ys) (us ++ ws)
 | _, _, _, _, .nil, s => s
 | _, _, _, _, .cons r t, s => .cons r (Vals.append t s)
theorem Vals.take : ∀ {xs : List V} {us : List Value} (n : Nat), Vals xs us → Vals (xs.take n) (us.take n)
 | _, _, 0, _ => .nil
 | _, _, _ + 1, .nil => .nil
 | _, _, n + 1, .cons r t => .cons r (Vals.take n t)
theorem Vals.drop : ∀ {xs : List V} {us : List Value} (n : Nat), Vals xs us → Vals (xs.drop n) (us.drop n)
 | _, _, 0, r => r
 | _, _, _ + 1, .nil => .nil
 | _, _, n + 1, .cons _ t => Vals.drop n t
def RelO : Option V → Option Value → Prop
 | some v, some u => RelV v u
 | none, none => True
 | _, _ => False
def KV {κ : Type} : List (κ × V) → List (κ × Value) → Prop := Paired fun (p : κ × V) (q : κ × Value) => p.1 = q.1 ∧ RelV p.2 q.2
def kV : Key → V
 | .inl i => .int i
 | .inr x => .str x
inductive HO where
 | lst (xs : List V)
 | tup (xs : List V)
 | dK (kvs : List (Key × V)) | dT (kvs : List (List Key × V))
 | set (S : Int → Bool) (n : Nat)
 | ins (C dx : Addr) (fs : List (Str × V))
 | own (x : Addr)
 | xd (fs : List (Str × V))
 | met (f x : Addr)
 | rng (lo hi : Int)
 | frz (o : Obj) (u : HO)
 | tbl (ps : Array Value)
 | ext (φ : Heap → Prop)
abbrev Hp := Addr → Option HO
def upd (H : Hp) (a : Addr) (o : HO) : Hp := fun b => if b = a then some o else H b
theorem upd_same {H : Hp} {a : Addr} {o : HO} : upd H a o a = some o := by unfold upd; rw [if_pos rfl]
theorem upd_ne {H : Hp} {a b : Addr} {o : HO} (h : b ≠ a) : upd H a o b = H b := by unfold upd; rw [if_neg h]
theorem ne_of {H : Hp} {a b : Addr} {o u : HO} (h : H a = some o) (h' : H b = some u) (d : o ≠ u) : a ≠ b := by
 intro e; subst e; rw [h] at h'; exact d (Option.some.inj h')
theorem ne_of_none {H : Hp} {a b : Addr} {o : HO} (h : H a = some o) (h' : H b = none) : a ≠ b := by
 intro e; subst e; rw [h] at h'; cases h'
section
variable (P : Program) (w : World)
def ObjOk (H : Hp) (h : Heap) (a : Addr) : HO → Prop
 | .lst xs => xs.length ≤ sizeLine ∧ ∃ (its : List Value) (n : Nat), Vals xs its ∧ h.get? a = some { cls := .type "list", data := .seq its.toArray n }
 | .tup xs => (xs.length ≤ sizeLine ∧ ∃ o, h.get? a = some o ∧ o.dict = none) ∧ ∃ its : List Value, Vals xs its ∧ IsTup h a its.toArray
 | .dK kvs => kvs.length ≤ sizeLine ∧ (a == sysModules) = false ∧ ∃ vs, KV kvs vs ∧ h.DictOf (mixKind P w) a vs
 | .dT kvs => kvs.length ≤ sizeLine ∧ (a == sysModules) = false ∧ ∃ xs : List (List Key × Addr × Value),
   Paired (fun (p : List Key × V) (q : List Key × Addr × Value) => p.1 = q.1 ∧ H q.2.1 = some (.tup (p.1.map kV)) ∧ RelV p.2 q.2.2) kvs xs ∧
   ∃ o es ep, h.get? a = some o ∧ o.ExactDict ∧ o.data = .dict es ep ∧ es.toList = xs.map (entryOfKey (tupleKind (mixKind P w))) ∧ (xs.map (·.1)).Nodup
 | .set S n => h.SetOf (intKind P w) a S n
 | .ins C dx fs => H dx = some (.own a) ∧ fs.length ≤ 1000 ∧ dx ≠ a ∧ h.get? a = some (PySem.W.instObj C dx) ∧
   ∃ mA, h.Ns1 dx mA ∧ (∀ f, RelO (fs.lookup f) (mA f)) ∧ PySem.Within mA (fs.map (·.1))
 | .own _ => ∃ o, h.get? a = some o
 | .xd fs => ∃ mA, h.Ns1 a mA ∧ ∀ f, RelO (fs.lookup f) (mA f)
 | .rng lo hi => ∃ t u v, h.get? a = some { cls := .type "range", data := .fields #[.int lo t, .int hi u, .int 1 v] }
 | .frz o u => h.get? a = some o ∧ ObjOk H h a u
 | .tbl ps => h.get? a = some { cls := .none, data := .fields ps }
 | .met f x => h.get? a = some (PySem.W.methodObj (.ref f) (.ref x))
 | .ext φ => φ h ∧ (∃ o, h.get? a = some o) ∧ ∀ h1 h2 : Heap, φ h1 → (∀ o, h1.get? a = some o → h2.get? a = some o) → φ h2
def HOk (H : Hp) (h : Heap) : Prop := ∀ a o, H a = some o → ObjOk P w H h a o
end
section
variable {P : Program} {w : World} {H H' : Hp} {h h' : Heap} {a : Addr} {o : HO}
theorem ObjOk.lt (x : ObjOk P w H h a o) : a < h.objs.size := by
 cases o with
 | lst xs => obtain ⟨_, _, _, _, e⟩ := x; exact Heap.lt_size e
 | tup xs => obtain ⟨_, _, _, p⟩ := x; exact p.lt
 | dK kvs => obtain ⟨_, _, _, _, o, _, _, e, _⟩ := x; exact Heap.lt_size e
 | dT kvs => obtain ⟨_, _, _, _, o, _, _, e, _⟩ := x; exact Heap.lt_size e
 | set S n => obtain ⟨o, _, _, _, e, _⟩ := x; exact Heap.lt_size e
 | ins C dx fs => obtain ⟨_, _, _, e, _⟩ := x; exact Heap.lt_size e
 | own y => obtain ⟨_, e⟩ := x; exact Heap.lt_size e
 | xd fs => obtain ⟨_, ⟨_, _, _, e, _⟩, _⟩ := x; exact Heap.lt_size e
 | rng lo hi => obtain ⟨_, _, _, e⟩ := x; exact Heap.lt_size e
 | frz ob u => obtain ⟨e, _⟩ := x; exact Heap.lt_size e
 | tbl ps => exact Heap.lt_size (show h.get? a = some _ from x)
 | met f y => exact Heap.lt_size (show h.get? a = some _ from x)
 | ext φ => obtain ⟨_, ⟨_, e⟩, _⟩ := x; exact Heap.lt_size e
theorem Paired.mapP {α β : Type} {F G : α → β → Prop} : ∀ {l₁ : List α} {l₂ : List β}, Paired F l₁ l₂ → (∀ a b, F a b → G a b) → Paired G l₁ l₂
 | _, _, .nil, _ => .nil
 | _, _, .cons r t, f => .cons (f _ _ r) (Paired.mapP t f)
theorem ObjOk.stay (x : ObjOk P w H h a o) (k : ∀ b u, (b = a ∨ H b = some (.own a)) → h.get? b = some u → h'.get? b = some u)
  (ho : ∀ b, H b = some (.own a) → H' b = some (.own a)) (ht : ∀ b xs, H b = some (.tup xs) → H' b = some (.tup xs)) : ObjOk P w H' h' a o := by
 induction o with
 | lst xs => obtain ⟨z, its, n, r, e⟩ := x; exact ⟨z, its, n, r, k _ _ (.inl rfl) e⟩
 | tup xs => obtain ⟨⟨z, o2, e2, d2⟩, its, r, ob, e, c⟩ := x; exact ⟨⟨z, o2, k _ _ (.inl rfl) e2, d2⟩, its, r, ob, k _ _ (.inl rfl) e, c⟩
 | dK kvs => obtain ⟨z, y, vs, r, ob, es, ep, e, c⟩ := x; exact ⟨z, y, vs, r, ob, es, ep, k _ _ (.inl rfl) e, c⟩
 | dT kvs =>
  obtain ⟨z, y, xs, r, ob, es, ep, e, c⟩ := x
  exact ⟨z, y, xs, Paired.mapP r fun p q z => ⟨z.1, ht _ _ z.2.1, z.2.2⟩, ob, es, ep, k _ _ (.inl rfl) e, c⟩
 | set S n => obtain ⟨ob, es, ep, t, e, c⟩ := x; exact ⟨ob, es, ep, t, k _ _ (.inl rfl) e, c⟩
 | ins C dx fs =>
  obtain ⟨d, z, ne, e, mA, ⟨od, es, ep, e2, c⟩, r⟩ := x
  exact ⟨ho _ d, z, ne, k _ _ (.inl rfl) e, mA, ⟨od, es, ep, k _ _ (.inr d) e2, c⟩, r⟩
 | own y => obtain ⟨ob, e⟩ := x; exact ⟨ob, k _ _ (.inl rfl) e⟩
 | xd fs => obtain ⟨mA, ⟨od, es, ep, e, c⟩, r⟩ := x; exact ⟨mA, ⟨od, es, ep, k _ _ (.inl rfl) e, c⟩, r⟩
 | rng lo hi => obtain ⟨t, u, v, e⟩ := x; exact ⟨t, u, v, k _ _ (.inl rfl) e⟩
 | frz ob u ih => obtain ⟨e, q⟩ := x; exact ⟨k _ _ (.inl rfl) e, ih q⟩
 | tbl ps =>
  have e : h.get? a = some { cls := .none, data := .fields ps } := x
  show h'.get? a = some { cls := .none, data := .fields ps }
  exact k a _ (.inl rfl) e
 | met f y =>
  have e : h.get? a = some (PySem.W.methodObj (.ref f) (.ref y)) := x
  show h'.get? a = some (PySem.W.methodObj (.ref f) (.ref y))
  exact k a _ (.inl rfl) e
 | ext φ => obtain ⟨p, ⟨o, e⟩, st⟩ := x; exact ⟨st _ _ p fun o q => k _ _ (.inl rfl) q, ⟨o, k _ _ (.inl rfl) e⟩, st⟩
theorem HOk.lt (x : HOk P w H h) (e : H a = some o) : a < h.objs.size := (x a o e).lt
theorem HOk.fresh (x : HOk P w H h) (e : h.objs.size ≤ a) : H a = none := by
 cases q : H a with
 | none => rfl
 | some u => exact absurd (Nat.lt_of_lt_of_le (x.lt q) e) (Nat.lt_irrefl _)
theorem HOk.kept (x : HOk P w H h) (k : ∀ b u, h.get? b = some u → h'.get? b = some u) : HOk P w H h' := fun a o e =>
 (x a o e).stay (fun b u _ q => k b u q) (fun _ q => q) fun _ _ q => q
theorem HOk.laid (x : HOk P w H h) (k : ∀ b u, h.get? b = some u → h'.get? b = some u) (hp : h.objs.size ≤ a) (new : ObjOk P w (upd H a o) h' a o) : HOk P w (upd H a o) h' := fun b u e => by
 have hn := x.fresh hp
 by_cases hb : b = a
 ·subst hb; rw [upd_same] at e; cases e; exact new
 ·rw [upd_ne hb] at e
  exact (x b u e).stay (fun c v _ q => k c v q) (fun c q => by rw [upd_ne (ne_of_none q hn)]; exact q) fun c xs q => by rw [upd_ne (ne_of_none q hn)]; exact q
end
def Rd (H : Hp) (a : Addr) (u : HO) : Prop := H a = some u ∨ ∃ o, H a = some (.frz o u)
theorem Rd.ok {P : Program} {w : World} {H : Hp} {h : Heap} {a : Addr} {u : HO} (r : Rd H a u) (x : HOk P w H h) : ObjOk P w H h a u := by
 rcases r with r | ⟨o, r⟩
 ·exact x a u r
 ·obtain ⟨_, q⟩ := x a _ r
  exact q
def Mut : Option HO → Prop
 | some (.lst _) => True
 | some (.dK _) => True
 | some (.dT _) => True
 | some (.set _ _) => True
 | some (.ins _ _ _) => True
 | some (.ext _) => True
 | _ => False
section
variable {P : Program} {w : World} {H : Hp} {h h' : Heap} {x e : Addr} {o' : HO}
theorem HOk.write (ok : HOk P w H h) (mu : Mut (H x)) (he : e = x ∨ H e = some (.own x)) (k : ∀ b u, b ≠ e → h.get? b = some u → h'.get? b = some u) (heo : ∃ u, h'.get? e = some u)
  (new : ObjOk P w (upd H x o') h' x o') : HOk P w (upd H x o') h' := fun b u q => by
 have nown : ∀ c y, H c = some (.own y) → c ≠ x := fun c y r z => by subst z; rw [r] at mu; exact mu
 have ntup : ∀ c xs, H c = some (.tup xs) → c ≠ x := fun c xs r z => by subst z; rw [r] at mu; exact mu
 by_cases hb : b = x
 ·subst hb; rw [upd_same] at q; cases q; exact new
 ·rw [upd_ne hb] at q
  by_cases hbe : b = e
  ·have q' : H b = some (.own x) := by
    rcases he with z | z
    ·exact absurd (hbe.trans z) hb
    ·rw [hbe]; exact z
   rw [q] at q'; cases q'
   obtain ⟨v, hv⟩ := heo
   exact ⟨v, by rw [hbe]; exact hv⟩
  ·refine (ok b u q).stay (fun c v hc r => k c v ?_ r) (fun c r => by rw [upd_ne (nown c b r)]; exact r) fun c xs r => by rw [upd_ne (ntup c xs r)]; exact r
   rcases hc with rfl | hc
   ·exact hbe
   ·rintro rfl
    rcases he with z | z
    ·exact nown c b hc z
    ·rw [hc] at z; cases z; exact hb rfl
end
structure Un (fs ex : List Addr) (H H' : Hp) (h h' : Heap) : Prop where
 keep : ∀ b o, h.get? b = some o → H b = none → b ∉ fs → b ∉ ex → h'.get? b = some o
 slot : ∀ b o, h.get? b = some o → H b = none → b ∈ fs → b ∉ ex → ∃ sl, h'.get? b = some { o with slots := sl }
 free : ∀ b o, h.get? b = some o → H b = none → b ∉ ex → H' b = none
 there : ∀ b o, h.get? b = some o → b ∉ ex → ∃ o', h'.get? b = some o'
 tups : ∀ b xs, H b = some (.tup xs) → H' b = some (.tup xs)
 frzs : ∀ b o u, H b = some (.frz o u) → H' b = some (.frz o u)
 tbls : ∀ b ps, H b = some (.tbl ps) → ∃ more, H' b = some (.tbl (ps ++ more))
section
variable {fs fs' ex ex' : List Addr} {H H1 H2 : Hp} {h h1 h2 h' : Heap} {a x e : Addr} {o : HO}
theorem Un.any (u : Un fs ex H H1 h h1) {b : Addr} {ob : Obj} (q : h.get? b = some ob) (n : H b = none) (hx : b ∉ ex) : ∃ sl, h1.get? b = some { ob with slots := sl } := by
 by_cases hb : b ∈ fs
 ·exact u.slot b ob q n hb hx
 ·exact ⟨ob.slots, u.keep b ob q n hb hx⟩
theorem Un.kept (k : ∀ b u, h.get? b = some u → h'.get? b = some u) : Un fs ex H H h h' :=
 ⟨fun b ob q _ _ _ => k b ob q, fun b ob q _ _ _ => ⟨ob.slots, k b ob q⟩, fun _ _ _ n _ => n, fun b ob q _ => ⟨ob, k b ob q⟩, fun _ _ q => q, fun _ _ _ q => q, fun _ ps q => ⟨#[], by rw [q]; simp⟩⟩
theorem Un.refl : Un fs ex H H h h := Un.kept fun _ _ q => q
theorem Un.laid (k : ∀ b u, h.get? b = some u → h'.get? b = some u) (hp : h.objs.size ≤ a) (hn : H a = none) : Un fs ex H (upd H a o) h h' where
 keep := fun b u q _ _ _ => k b u q
 slot := fun b u q _ _ _ => ⟨u.slots, k b u q⟩
 free := fun b u q n _ => by rw [upd_ne (Nat.ne_of_lt (Nat.lt_of_lt_of_le (Heap.lt_size q) hp))]; exact n
 there := fun b u q _ => ⟨u, k b u q⟩
 tups := fun b xs q => by rw [upd_ne (ne_of_none q hn)]; exact q
 frzs := fun b u xs q => by rw [upd_ne (ne_of_none q hn)]; exact q
 tbls := fun b ps q => ⟨#[], by rw [upd_ne (ne_of_none q hn), q]; simp⟩
theorem Un.write (mu : Mut (H x)) (he : e = x ∨ H e = some (.own x)) (k : ∀ b u, b ≠ e → h.get? b = some u → h'.get? b = some u) (heo : ∃ u, h'.get? e = some u) : Un fs ex H (upd H x o) h h' := by
 have hx : ∀ b, H b = none → b ≠ x := fun b n z => by subst z; rw [n] at mu; exact mu
 have hb : ∀ b, H b = none → b ≠ e := fun b n z => by
  subst z
  rcases he with r | r
  ·exact hx b n r
  ·rw [n] at r; cases r
 have hm : ∀ b u, H b = some u → ¬ Mut (some u) → b ≠ x := fun b u q nm z => by subst z; rw [q] at mu; exact nm mu
 refine ⟨fun b u q n _ _ => k b u (hb b n) q, fun b u q n _ _ => ⟨u.slots, k b u (hb b n) q⟩, fun b u q n _ => by rw [upd_ne (hx b n)]; exact n, fun b u q _ => ?_,
  fun b xs q => by rw [upd_ne (hm b _ q fun z => z)]; exact q, fun b u xs q => by rw [upd_ne (hm b _ q fun z => z)]; exact q, fun b ps q => ⟨#[], by rw [upd_ne (hm b _ q fun z => z), q]; simp⟩⟩
 by_cases hbe : b = e
 ·subst hbe; exact heo
 ·exact ⟨u, k b u hbe q⟩
end
def trk (h : Heap) (H : Hp) : List Addr := (List.range h.objs.size).filter fun a => (H a).isSome
def hidT (h : Heap) (H : Hp) : Heap := PySem.W.hideAll h (trk h H)
theorem hidT_size (h : Heap) (H : Hp) : (hidT h H).objs.size = h.objs.size := PySem.W.hideAll_size _ _
theorem hidT_get {h : Heap} {H : Hp} {b : Addr} {o : Obj} (e : h.get? b = some o) (n : H b = none) : (hidT h H).get? b = some o :=
 PySem.W.hideAll_get _ e fun hm => by
  have q : (H b).isSome = true := (List.mem_filter.mp hm).2
  rw [n] at q; simp at q
theorem of_hidT {h : Heap} {H : Hp} {b : Addr} {o : Obj} (e : (hidT h H).get? b = some o) : h.get? b = some o ∧ H b = none := by
 have e' : h.get? b = some o := PySem.W.of_hideAll (trk h H) e
 refine ⟨e', ?_⟩
 cases q : H b with
 | none => rfl
 | some x =>
  have hm : b ∈ trk h H := List.mem_filter.mpr ⟨List.mem_range.mpr (Heap.lt_size e'), by simp [q]⟩
  have z : (hidT h H).get? b = none := PySem.W.hideAll_none (trk h H) hm
  rw [z] at e; cases e
structure Mod (K : PySem.W.Frag) (mg : Str → Option Value) (base : Heap) : Prop where
 kin : K.In base
 glob : base.Ns mainGlobals mg
 blt : ∃ mb, base.Ns builtinsNs mb ∧ ∀ x : Str, x ≠ "__name__" → mb x = bootBuiltins x
 nolimit : base.NoLimit
structure Cx where
 prog : Program
 w : World
 K : PySem.W.Frag
 mg : Str → Option Value
 base : Heap
 A : Around
 N : List Str
 s₀ : Shared
 H₀ : Hp
 env : Env
 outer : List Env
 stack : List Env
 ex : List Addr
 fn : Str → Bool
 calm : Bool
 pn : List (Addr × Obj)
 xe : Value → Shared → Prop
def frs (l : List Env) : List Addr := l.filterMap (·.frame)
abbrev Cx.fs (X : Cx) : List Addr := frs X.outer
def Vis (sc : Scope) (x : Str) : Prop := sc.names.lookup x = some .local ∨ sc.names.lookup x = some .cell ∨ sc.names.lookup x = some .free
def Loc (sc : Scope) (x : Str) : Prop := sc.names.lookup x = some .local ∨ sc.names.lookup x = some .cell
def Look (env : Env) (h : Heap) (m : Str → Option Value) (x : Str) (u : Value) : Prop :=
 (env.kindOf x = some .local ∧ m x = some u) ∨ ((env.kindOf x = some .cell ∨ env.kindOf x = some .free) ∧ ∃ c, env.cells.lookup x = some c ∧ h.IsCell c (some u))
structure Cx.Ok (X : Cx) : Prop where
 mod : Mod X.K X.mg X.base
 kind : X.env.scope.kind = .function
 glob : X.env.globals = mainGlobals
 blt : X.env.builtins = builtinsNs
 above : X.s₀.heap.objs.size ≤ X.env.locals
 inj : ∀ x y c, X.env.cells.lookup x = some c → X.env.cells.lookup y = some c → x = y
 has : ∀ x, (X.env.kindOf x = some .cell ∨ X.env.kindOf x = some .free) → ∃ c, X.env.cells.lookup x = some c
 cab : ∀ x c, X.fn x = true → X.env.cells.lookup x = some c → X.s₀.heap.objs.size ≤ c
 hd : X.calm = true → X.A.handled = none
 frames : X.A.frames = some X.stack
 stk : X.stack = X.outer ∨ (X.stack = X.env :: X.outer ∧ X.env.frame = some X.env.locals)
 exf : ∀ b ∈ X.ex, b ≠ X.env.locals ∧ ∀ x c, X.env.cells.lookup x = some c → c ≠ b
 bs : ∀ b o, X.base.get? b = some o → X.s₀.heap.get? b = some o ∧ X.H₀ b = none
 bsz : X.base.objs.size ≤ X.s₀.heap.objs.size
 noex : ∀ b o, X.base.get? b = some o → b ∉ X.ex
 exfs : ∀ b ∈ X.ex, b ∉ X.fs
 funs : X.s₀.heap.FunFrames X.base X.outer
 frf : ∀ b ∈ X.fs, X.H₀ b = none
structure Inv (X : Cx) (pins : List (Addr × Obj)) (σ : List (Option V)) (H : Hp) (s : Shared) : Prop where
 ok : X.Ok
 os : s.os = X.s₀.os
 bare : AllBare s.gens
 base : Un X.fs X.ex X.H₀ H X.s₀.heap s.heap
 loc : ∃ m, s.heap.Ns X.env.locals m ∧ ∀ (i : Nat) (x : Str) (v : V), X.N[i]? = some x → σ[i]? = some (some v) → Vis X.env.scope x → ∃ u, RelV v u ∧ Look X.env s.heap m x u
 cell : ∀ x c, X.env.cells.lookup x = some c → ∃ v, s.heap.IsCell c v
 free : H X.env.locals = none
 freeC : ∀ x c, X.env.cells.lookup x = some c → H c = none
 pin : ∀ p ∈ X.pn ++ pins, s.heap.get? p.1 = some p.2 ∧ H p.1 = none ∧ p.1 ≠ X.env.locals ∧ p.1 ∉ X.fs ∧ ∀ v, p.2.data ≠ .cell v
 hok : HOk X.prog X.w H s.heap
 len : σ.length = X.N.length
section
variable {X : Cx} {pins : List (Addr × Obj)} {σ : List (Option V)} {H H' : Hp} {s : Shared} {h' : Heap}
theorem Cx.Ok.nofr (ok : X.Ok) {b : Addr} {o : Obj} (e : X.base.get? b = some o) : b ∉ X.fs := fun hb => by
 have := (ok.funs.mem hb).1
 rw [e] at this; cases this
theorem Inv.bs (I : Inv X pins σ H s) : ∀ b o, X.base.get? b = some o → s.heap.get? b = some o ∧ H b = none := fun b o e =>
 ⟨I.base.keep b o (I.ok.bs b o e).1 (I.ok.bs b o e).2 (I.ok.nofr e) (I.ok.noex b o e), I.base.free b o (I.ok.bs b o e).1 (I.ok.bs b o e).2 (I.ok.noex b o e)⟩
theorem Inv.bk (I : Inv X pins σ H s) : ∀ b o, X.base.get? b = some o → s.heap.get? b = some o := fun b o e => (I.bs b o e).1
theorem Inv.mod (I : Inv X pins σ H s) : Mod X.K X.mg X.base := I.ok.mod
theorem Inv.kIn (I : Inv X pins σ H s) : X.K.In s.heap := I.ok.mod.kin.keeps I.bk
theorem Inv.lt (I : Inv X pins σ H s) : X.env.locals < s.heap.objs.size := let ⟨_, hn, _⟩ := I.loc; hn.lt
theorem Inv.sz (I : Inv X pins σ H s) : X.s₀.heap.objs.size ≤ s.heap.objs.size := Nat.le_trans I.ok.above (Nat.le_of_lt I.lt)
theorem Inv.nofs (I : Inv X pins σ H s) {a : Addr} (h : s.heap.objs.size ≤ a) : a ∉ X.fs := fun hb => by
 obtain ⟨_, o, ho, _⟩ := I.ok.funs.mem hb
 exact absurd (Nat.lt_of_lt_of_le (Heap.lt_size ho) (Nat.le_trans I.sz h)) (Nat.lt_irrefl _)
theorem Inv.cne (I : Inv X pins σ H s) : ∀ x c, X.env.cells.lookup x = some c → c ≠ X.env.locals := fun x c e z => by
 obtain ⟨v, o, ho, hd⟩ := I.cell x c e
 obtain ⟨m, ⟨o', es, ep, ho', hd', _⟩, _⟩ := I.loc
 rw [z, ho'] at ho; cases ho; rw [hd'] at hd; cases hd
theorem Inv.funs (I : Inv X pins σ H s) : s.heap.FunFrames X.base X.outer := by
 have all : ∀ (l : List Env), (∀ b ∈ frs l, b ∈ X.fs) → X.s₀.heap.FunFrames X.base l → s.heap.FunFrames X.base l := by
  intro l
  induction l with
  | nil => intro _ _; trivial
  | cons env r ih =>
   intro hs hl
   obtain ⟨hk, ⟨L, o, hf, hn, ho, hd⟩, hr⟩ := hl
   have hL : L ∈ X.fs := hs L (by unfold frs; rw [List.filterMap_cons, hf]; exact List.mem_cons_self)
   obtain ⟨sl, e⟩ := I.base.slot L o ho (I.ok.frf L hL) hL fun z => I.ok.exfs L z hL
   exact ⟨hk, ⟨L, _, hf, hn, e, hd⟩, ih (fun b hb => hs b (by unfold frs; rw [List.filterMap_cons, hf]; exact List.mem_cons_of_mem _ hb)) hr⟩
 exact all X.outer (fun _ hb => hb) I.ok.funs
theorem Inv.stack (I : Inv X pins σ H s) : s.heap.FunFrames X.base X.stack := by
 rcases I.ok.stk with e | ⟨e, hf⟩
 ·rw [e]; exact I.funs
 ·rw [e]
  obtain ⟨m, hn, _⟩ := I.loc
  refine .cons (by rw [I.ok.kind]; decide) hf hn ?_ I.funs
  exact Heap.get?_none_of_le (Nat.le_trans I.ok.bsz I.ok.above)
theorem Inv.stkSub (I : Inv X pins σ H s) : ∀ b ∈ frs X.stack, b ∈ X.env.locals :: X.fs := fun b hb => by
 rcases I.ok.stk with e | ⟨e, hf⟩
 ·rw [e] at hb; exact List.mem_cons_of_mem _ hb
 ·rw [e] at hb
  unfold frs at hb
  rw [List.filterMap_cons, hf] at hb
  exact hb
theorem Inv.stkFree (I : Inv X pins σ H s) : ∀ b ∈ frs X.stack, H b = none := fun b hb => by
 rcases List.mem_cons.mp (I.stkSub b hb) with e | hb
 ·rw [e]; exact I.free
 ·obtain ⟨_, o, ho, _⟩ := I.ok.funs.mem hb
  exact I.base.free b o ho (I.ok.frf b hb) fun z => I.ok.exfs b z hb
theorem Inv.step {g' : Array GenState} {t' : Nat} {d' : Drawn} {ch : List Addr} (I : Inv X pins σ H s)
  (hch : ∀ b ∈ ch, (b ∈ X.ex ∨ X.s₀.heap.objs.size ≤ b) ∧ b ≠ X.env.locals ∧ (∀ x c, X.env.cells.lookup x = some c → c ≠ b) ∧ ∀ p ∈ X.pn ++ pins, p.1 ≠ b)
  (keep : ∀ b o, b ≠ X.env.locals → b ∉ X.fs → b ∉ ch → s.heap.get? b = some o → H b = none → h'.get? b = some o)
  (slot : ∀ b o, b ≠ X.env.locals → b ∈ X.fs → b ∉ ch → s.heap.get? b = some o → H b = none → ∃ sl, h'.get? b = some { o with slots := sl }) (free : ∀ b o, b ∉ ch → s.heap.get? b = some o → H b = none → H' b = none)
  (there : ∀ b o, b ∉ ch → s.heap.get? b = some o → ∃ o', h'.get? b = some o')
  (tups : ∀ b xs, H b = some (.tup xs) → H' b = some (.tup xs)) (frzs : ∀ b o u, H b = some (.frz o u) → H' b = some (.frz o u)) (tbls : ∀ b ps, H b = some (.tbl ps) → ∃ more, H' b = some (.tbl (ps ++ more)))
  (ns : ∀ m, s.heap.Ns X.env.locals m → h'.Ns X.env.locals m) (hok : HOk X.prog X.w H' h') (hg : AllBare g') :
  Inv X pins σ H' { s with heap := h', gens := g', drawn := d', toks := t' } := by
 have neL : ∀ b o, X.s₀.heap.get? b = some o → b ≠ X.env.locals := fun b o e => Nat.ne_of_lt (Nat.lt_of_lt_of_le (Heap.lt_size e) I.ok.above)
 have neC : ∀ b o, X.s₀.heap.get? b = some o → b ∉ X.ex → b ∉ ch := fun b o e hx hb => by
  rcases (hch b hb).1 with z | z
  ·exact hx z
  ·exact absurd (Nat.lt_of_lt_of_le (Heap.lt_size e) z) (Nat.lt_irrefl _)
 have cellK : ∀ x c, X.env.cells.lookup x = some c → ∀ v, s.heap.IsCell c v → h'.IsCell c v := fun x c e v ⟨o, ho, hd⟩ => by
  have nch : c ∉ ch := fun z => (hch c z).2.2.1 x c e rfl
  by_cases hc : c ∈ X.fs
  ·obtain ⟨sl, q⟩ := slot c o (I.cne x c e) hc nch ho (I.freeC x c e)
   exact ⟨_, q, hd⟩
  ·exact ⟨o, keep c o (I.cne x c e) hc nch ho (I.freeC x c e), hd⟩
 refine ⟨I.ok, I.os, hg, ⟨fun b o e n hb hx => ?_, fun b o e n hb hx => ?_, fun b o e n hx => ?_, fun b o e hx => ?_, fun b xs e => tups b xs (I.base.tups b xs e), fun b o xs e => frzs b o xs (I.base.frzs b o xs e), fun b ps e => ?_⟩, ?_, fun x c e => ?_, ?_, fun x c e => ?_, fun p hp => ?_, hok, I.len⟩
 ·exact keep b o (neL b o e) hb (neC b o e hx) (I.base.keep b o e n hb hx) (I.base.free b o e n hx)
 ·obtain ⟨sl, e1⟩ := I.base.slot b o e n hb hx
  obtain ⟨sl', e2⟩ := slot b _ (neL b o e) hb (neC b o e hx) e1 (I.base.free b o e n hx)
  exact ⟨sl', e2⟩
 ·obtain ⟨o', e1⟩ := I.base.there b o e hx
  exact free b o' (neC b o e hx) e1 (I.base.free b o e n hx)
 ·obtain ⟨o', e1⟩ := I.base.there b o e hx
  exact there b o' (neC b o e hx) e1
 ·obtain ⟨m1, e1⟩ := I.base.tbls b ps e
  obtain ⟨m2, e2⟩ := tbls b _ e1
  exact ⟨m1 ++ m2, by rw [e2, Array.append_assoc]⟩
 ·obtain ⟨m, hn, hl⟩ := I.loc
  refine ⟨m, ns m hn, fun i x v e1 e2 e3 => ?_⟩
  obtain ⟨u, r, l⟩ := hl i x v e1 e2 e3
  refine ⟨u, r, ?_⟩
  rcases l with l | ⟨k, c, e, z⟩
  ·exact .inl l
  ·exact .inr ⟨k, c, e, cellK x c e _ z⟩
 ·obtain ⟨v, z⟩ := I.cell x c e
  exact ⟨v, cellK x c e v z⟩
 ·obtain ⟨m, ⟨o, _, _, ho, _⟩, _⟩ := I.loc
  exact free _ o (fun z => (hch _ z).2.1 rfl) ho I.free
 ·obtain ⟨v, o, ho, hd⟩ := I.cell x c e
  exact free c o (fun z => (hch c z).2.2.1 x c e rfl) ho (I.freeC x c e)
 ·obtain ⟨e, n, ne, nf, d⟩ := I.pin p hp
  have nch : p.1 ∉ ch := fun z => (hch p.1 z).2.2.2 p hp rfl
  exact ⟨keep p.1 p.2 ne nf nch e n, free p.1 p.2 nch e n, ne, nf, d⟩
theorem Inv.un {t' : Nat} (I : Inv X pins σ H s) (u : Un X.fs [] H H' s.heap h') (hok : HOk X.prog X.w H' h') : Inv X pins σ H' { s with heap := h', toks := t' } := by
 obtain ⟨m, ⟨o, es, ep, ho, r⟩, _⟩ := id I.loc
 obtain ⟨sl, hL⟩ := u.any ho I.free (by simp)
 exact I.step (g' := s.gens) (d' := s.drawn) (ch := []) (fun _ z => nomatch z) (fun b o _ hb _ e n => u.keep b o e n hb (by simp)) (fun b o _ hb _ e n => u.slot b o e n hb (by simp)) (fun b o _ e n => u.free b o e n (by simp)) (fun b o _ e => u.there b o e (by simp)) u.tups u.frzs u.tbls (fun m' hm => by
  obtain ⟨o', es', ep', ho', r'⟩ := hm
  rw [ho] at ho'; cases ho'
  exact ⟨_, es', ep', hL, r'⟩) hok I.bare
theorem Inv.call {g' : Array GenState} {t' : Nat} {d' : Drawn} {ch : List Addr} (I : Inv X pins σ H s) (u : Un (frs X.stack) ch H H' s.heap h') (hok : HOk X.prog X.w H' h') (hg : AllBare g')
  (hch : ∀ b ∈ ch, (b ∈ X.ex ∨ X.s₀.heap.objs.size ≤ b) ∧ b ≠ X.env.locals ∧ (∀ x c, X.env.cells.lookup x = some c → c ≠ b) ∧ ∀ p ∈ X.pn ++ pins, p.1 ≠ b) :
  Inv X pins σ H' { s with heap := h', gens := g', drawn := d', toks := t' } := by
 obtain ⟨m, ⟨o, es, ep, ho, r⟩, _⟩ := id I.loc
 obtain ⟨sl, hL⟩ := u.any ho I.free fun z => (hch _ z).2.1 rfl
 exact I.step (ch := ch) hch (fun b o hL hb hc e n => u.keep b o e n (fun z => (List.mem_cons.mp (I.stkSub b z)).elim hL hb) hc) (fun b o _ _ hc e n => u.any e n hc) (fun b o hc e n => u.free b o e n hc) (fun b o hc e => u.there b o e hc) u.tups u.frzs u.tbls (fun m' hm => by
  obtain ⟨o', es', ep', ho', r'⟩ := hm
  rw [ho] at ho'; cases ho'
  exact ⟨_, es', ep', hL, r'⟩) hok hg
theorem Inv.turned {t' : Nat} {it : Addr} (I : Inv X pins σ H s) (k : ∀ b o, b ≠ it → s.heap.get? b = some o → h'.get? b = some o) (hn : H it = none) (hL : it ≠ X.env.locals)
  (h1 : it ∈ X.ex ∨ X.s₀.heap.objs.size ≤ it) (h2 : ∀ x c, X.env.cells.lookup x = some c → c ≠ it) (h3 : ∀ p ∈ X.pn ++ pins, p.1 ≠ it) : Inv X pins σ H { s with heap := h', toks := t' } := by
 have nit : ∀ b u, H b = some u → b ≠ it := fun b u e z => by rw [z, hn] at e; cases e
 refine I.step (g' := s.gens) (d' := s.drawn) (ch := [it]) (fun b hb => ?_) (fun b o _ _ hc e _ => k b o (fun z => hc (by simp [z])) e) (fun b o _ _ hc e _ => ⟨o.slots, k b o (fun z => hc (by simp [z])) e⟩) (fun _ _ _ _ n => n)
  (fun b o hc e => ⟨o, k b o (fun z => hc (by simp [z])) e⟩) (fun _ _ e => e) (fun _ _ _ e => e) (fun b ps e => ⟨#[], by rw [e]; simp⟩) (fun m hm => ?_) (fun b u e => ?_) I.bare
 ·have e : b = it := by simpa using hb
  subst e
  exact ⟨h1, hL, h2, h3⟩
 ·obtain ⟨o, es, ep, ho, r⟩ := hm
  exact ⟨o, es, ep, k _ o (Ne.symm hL) ho, r⟩
 ·refine (I.hok b u e).stay (fun c v hc q => k c v ?_ q) (fun _ q => q) fun _ _ q => q
  rcases hc with z | z
  ·rw [z]; exact nit b u e
  ·exact nit c _ z
theorem Inv.tok (I : Inv X pins σ H s) (t : Nat) : Inv X pins σ H { s with toks := t } := I.un (h' := s.heap) (t' := t) Un.refl I.hok
theorem Inv.kept {t' : Nat} (I : Inv X pins σ H s) (k : ∀ b u, s.heap.get? b = some u → h'.get? b = some u) : Inv X pins σ H { s with heap := h', toks := t' } := I.un (Un.kept k) (I.hok.kept k)
theorem Inv.laid {a : Addr} {o : HO} {t' : Nat} (I : Inv X pins σ H s) (k : ∀ b u, s.heap.get? b = some u → h'.get? b = some u) (hp : s.heap.objs.size ≤ a) (new : ObjOk X.prog X.w (upd H a o) h' a o) :
  Inv X pins σ (upd H a o) { s with heap := h', toks := t' } := I.un (Un.laid k hp (I.hok.fresh hp)) (I.hok.laid k hp new)
theorem Inv.write {x e : Addr} {o : HO} {t' : Nat} (I : Inv X pins σ H s) (mu : Mut (H x)) (he : e = x ∨ H e = some (.own x)) (k : ∀ b u, b ≠ e → s.heap.get? b = some u → h'.get? b = some u) (heo : ∃ u, h'.get? e = some u)
  (new : ObjOk X.prog X.w (upd H x o) h' x o) : Inv X pins σ (upd H x o) { s with heap := h', toks := t' } := I.un (Un.write mu he k heo) (I.hok.write mu he k heo new)
theorem Inv.pins_of {pins' : List (Addr × Obj)} (I : Inv X pins σ H s) (h : ∀ p ∈ pins', s.heap.get? p.1 = some p.2 ∧ H p.1 = none ∧ p.1 ≠ X.env.locals ∧ p.1 ∉ X.fs ∧ ∀ v, p.2.data ≠ .cell v) : Inv X pins' σ H s :=
 ⟨I.ok, I.os, I.bare, I.base, I.loc, I.cell, I.free, I.freeC, fun p hp => (List.mem_append.mp hp).elim (fun z => I.pin p (List.mem_append_left _ z)) (h p), I.hok, I.len⟩
theorem nodup_ix {N : List Str} (hN : N.Nodup) {i j : Nat} {x : Str} (a : N[i]? = some x) (b : N[j]? = some x) : i = j := by
 obtain ⟨h1, e1⟩ := List.getElem?_eq_some_iff.mp a
 obtain ⟨h2, e2⟩ := List.getElem?_eq_some_iff.mp b
 exact (List.getElem_inj hN).mp (e1.trans e2.symm)
theorem store_ok2 {M : Model} {A : Around} {E : Value → Shared → Prop} {i : Nat} {x : Str} {v : V} {u : Value} {Q : Unit → Shared → Prop} (I : Inv X pins σ H s) (hN : X.N.Nodup) (hi : X.N[i]? = some x) (hx : Loc X.env.scope x) (r : RelV v u)
  (h : ∀ s', Inv X pins (σ.set i (some v)) H s' → (∃ a, Heap.SameBut a s.heap s'.heap ∧ (a = X.env.locals ∨ X.env.cells.lookup x = some a)) → Q () s') (hf : X.fn x = true ∨ X.env.scope.names.lookup x = some .local := by first | exact .inl rfl | exact .inr rfl | assumption) : wpAny M A (storeName X.env x u) Q E s := by
 obtain ⟨m, hn, hl⟩ := id I.loc
 have hcls : (X.env.scope.kind == .class || (X.env.scope.kind == .module && X.env.locals != X.env.globals)) = false := by rw [I.ok.kind]; rfl
 have hiσ : i < σ.length := by rw [I.len]; exact (List.getElem?_eq_some_iff.mp hi).1
 have cne := I.cne
 have tracked : ∀ {a : Addr} {h' : Heap}, (∃ o, s.heap.get? a = some o ∧ H a = none) → Heap.SameBut a s.heap h' → HOk X.prog X.w H h' := fun {a h'} ha hs b ob e => by
  obtain ⟨_, _, hfree⟩ := ha
  refine (I.hok b ob e).stay (fun c w' hc q => (hs.2 c ?_).trans q) (fun _ q => q) fun _ _ q => q
  rintro rfl
  rcases hc with rfl | hc
  ·rw [hfree] at e; cases e
  ·rw [hfree] at hc; cases hc
 rcases hx with hk | hk
 ·refine wpAny_storeName_local hk hn (fun h' hn' hs => ?_) hcls
  obtain ⟨oL, _, _, hoL, _⟩ := id hn
  refine h _ ⟨I.ok, I.os, I.bare, ⟨fun b o e n hb hx => ?_, fun b o e n hb hx => ?_, I.base.free, fun b o e hx => ?_, I.base.tups, I.base.frzs, I.base.tbls⟩, ⟨_, hn', fun j y v' e1 e2 e3 => ?_⟩, fun y c e => ?_, I.free, I.freeC, fun p hp => ?_, tracked ⟨oL, hoL, I.free⟩ hs, by simpa using I.len⟩ ⟨_, hs, .inl rfl⟩
  ·exact (hs.2 b (Nat.ne_of_lt (Nat.lt_of_lt_of_le (Heap.lt_size e) I.ok.above))).trans (I.base.keep b o e n hb hx)
  ·obtain ⟨sl, e1⟩ := I.base.slot b o e n hb hx
   exact ⟨sl, (hs.2 b (Nat.ne_of_lt (Nat.lt_of_lt_of_le (Heap.lt_size e) I.ok.above))).trans e1⟩
  ·obtain ⟨o', e1⟩ := I.base.there b o e hx
   exact ⟨o', (hs.2 b (Nat.ne_of_lt (Nat.lt_of_lt_of_le (Heap.lt_size e) I.ok.above))).trans e1⟩
  ·by_cases hj : j = i
   ·subst hj
    rw [hi] at e1; cases e1
    rw [List.getElem?_set_self hiσ] at e2
    cases e2
    exact ⟨u, r, .inl ⟨hk, by simp⟩⟩
   ·rw [List.getElem?_set_ne (Ne.symm hj)] at e2
    obtain ⟨u', r', q⟩ := hl j y v' e1 e2 e3
    refine ⟨u', r', ?_⟩
    rcases q with ⟨k, e⟩ | ⟨k, c, e, z⟩
    ·refine .inl ⟨k, ?_⟩
     have : y ≠ x := fun e => hj (nodup_ix hN e1 (e ▸ hi))
     simp [this, e]
    ·exact .inr ⟨k, c, e, z.sameBut hs (cne y c e)⟩
  ·obtain ⟨w', z⟩ := I.cell y c e
   exact ⟨w', z.sameBut hs (cne y c e)⟩
  ·obtain ⟨e, n, ne, nf, d⟩ := I.pin p hp
   exact ⟨(hs.2 p.1 ne).trans e, n, ne, nf, d⟩
 ·have hfn : X.fn x = true := by
   rcases hf with z | z
   ·exact z
   ·rw [z] at hk; cases hk
  obtain ⟨c, hc⟩ := I.ok.has x (.inl hk)
  obtain ⟨w', z⟩ := I.cell x c hc
  refine wpAny_storeName_cell I.ok.kind hk hc z (fun h' hc' hs => ?_)
  obtain ⟨oc, hoc, hocd⟩ := id z
  refine h { s with heap := h' } ⟨I.ok, I.os, I.bare, ⟨fun b o e n hb hx => ?_, fun b o e n hb hx => ?_, I.base.free, fun b o e hx => ?_, I.base.tups, I.base.frzs, I.base.tbls⟩, ⟨m, hn.sameBut hs (Ne.symm (cne x c hc)), fun j y v' e1 e2 e3 => ?_⟩, fun y c' e => ?_, I.free, I.freeC, fun p hp => ?_, tracked ⟨oc, hoc, I.freeC x c hc⟩ hs, by simpa using I.len⟩ ⟨c, hs, .inr hc⟩
  ·exact (hs.2 b (Nat.ne_of_lt (Nat.lt_of_lt_of_le (Heap.lt_size e) (I.ok.cab x c hfn hc)))).trans (I.base.keep b o e n hb hx)
  ·obtain ⟨sl, e1⟩ := I.base.slot b o e n hb hx
   exact ⟨sl, (hs.2 b (Nat.ne_of_lt (Nat.lt_of_lt_of_le (Heap.lt_size e) (I.ok.cab x c hfn hc)))).trans e1⟩
  ·obtain ⟨o', e1⟩ := I.base.there b o e hx
   exact ⟨o', (hs.2 b (Nat.ne_of_lt (Nat.lt_of_lt_of_le (Heap.lt_size e) (I.ok.cab x c hfn hc)))).trans e1⟩
  ·by_cases hj : j = i
   ·subst hj
    rw [hi] at e1; cases e1
    rw [List.getElem?_set_self hiσ] at e2
    cases e2
    exact ⟨u, r, .inr ⟨.inl hk, c, hc, hc'⟩⟩
   ·rw [List.getElem?_set_ne (Ne.symm hj)] at e2
    obtain ⟨u', r', q⟩ := hl j y v' e1 e2 e3
    refine ⟨u', r', ?_⟩
    rcases q with q | ⟨k, c', e, z'⟩
    ·exact .inl q
    ·refine .inr ⟨k, c', e, z'.sameBut hs ?_⟩
     rintro rfl
     exact hj (nodup_ix hN e1 (I.ok.inj _ _ _ e hc ▸ hi))
  ·by_cases hcc : c' = c
   ·subst hcc; exact ⟨_, hc'⟩
   ·obtain ⟨w2, z2⟩ := I.cell y c' e
    exact ⟨w2, z2.sameBut hs hcc⟩
  ·obtain ⟨e, n, ne, nf, d⟩ := I.pin p hp
   refine ⟨(hs.2 p.1 ?_).trans e, n, ne, nf, d⟩
   intro q
   rw [q, hoc] at e
   have q' : oc = p.2 := Option.some.inj e
   exact d w' (by rw [← q']; exact hocd)
theorem store_ok {M : Model} {A : Around} {E : Value → Shared → Prop} {i : Nat} {x : Str} {v : V} {u : Value} {Q : Unit → Shared → Prop} (I : Inv X pins σ H s) (hN : X.N.Nodup) (hi : X.N[i]? = some x) (hx : Loc X.env.scope x) (r : RelV v u)
  (h : ∀ s', Inv X pins (σ.set i (some v)) H s' → Q () s') (hf : X.fn x = true ∨ X.env.scope.names.lookup x = some .local := by first | exact .inl rfl | exact .inr rfl | assumption) : wpAny M A (storeName X.env x u) Q E s :=
 store_ok2 I hN hi hx r (fun s' I' _ => h s' I') hf
theorem Inv.call' {s' : Shared} {ch : List Addr} (I : Inv X pins σ H s) (ho : s'.os = s.os) (u : Un (frs X.stack) ch H H' s.heap s'.heap) (hok : HOk X.prog X.w H' s'.heap) (hg : AllBare s'.gens)
  (hch : ∀ b ∈ ch, (b ∈ X.ex ∨ X.s₀.heap.objs.size ≤ b) ∧ b ≠ X.env.locals ∧ (∀ x c, X.env.cells.lookup x = some c → c ≠ b) ∧ ∀ p ∈ X.pn ++ pins, p.1 ≠ b) : Inv X pins σ H' s' := by
 obtain ⟨h', g', d', t', o'⟩ := s'
 have e : o' = s.os := ho
 subst e
 exact I.call (g' := g') (t' := t') (d' := d') u hok hg hch
end
abbrev XK := Value → Option Addr → Hp → Prop
abbrev St := List (Option V)
abbrev VK := V → Hp → Prop
abbrev TE := St → Hp → VK → Prop
abbrev TT := St → Hp → (Bool → Hp → Prop) → Prop
abbrev TA := St → Hp → (List V → Hp → Prop) → Prop
structure Ends where
 nx : St → Hp → Prop
 rt : VK
 bk : St → Hp → Prop := fun _ _ => False
 ct : St → Hp → Prop := fun _ _ => False
abbrev TS := Ends → St → Hp → Prop
def EP (X : Cx) (pins : List (Addr × Obj)) (σ : St) (Q : VK) (u : Value) (s' : Shared) : Prop := ∃ v H', Inv X pins σ H' s' ∧ RelV v u ∧ Q v H'
def TP (X : Cx) (pins : List (Addr × Obj)) (σ : St) (Q : Bool → Hp → Prop) (b : Bool) (s' : Shared) : Prop := ∃ H', Inv X pins σ H' s' ∧ Q b H'
def AP (X : Cx) (pins : List (Addr × Obj)) (σ : St) (Q : List V → Hp → Prop) (us : List Value) (s' : Shared) : Prop := ∃ vs H', Inv X pins σ H' s' ∧ Vals vs us ∧ Q vs H'
def SP (X : Cx) (pins : List (Addr × Obj)) (D : Ends) (f : Flow) (s' : Shared) : Prop :=
 match f with
 | .next => ∃ σ' H', Inv X pins σ' H' s' ∧ D.nx σ' H'
 | .brk => ∃ σ' H', Inv X pins σ' H' s' ∧ D.bk σ' H'
 | .cont => ∃ σ' H', Inv X pins σ' H' s' ∧ D.ct σ' H'
 | .ret u => ∃ v σ' H', Inv X pins σ' H' s' ∧ RelV v u ∧ D.rt v H'
def PE (X : Cx) (e : Expr) (t : TE) : Prop :=
 ∀ (pins : List (Addr × Obj)) (s : Shared) (σ : St) (H : Hp) (Q : VK), Inv X pins σ H s → t σ H Q → wpAny (model X.prog X.w) X.A (eval e X.env) (EP X pins σ Q) X.xe s
def PT (X : Cx) (e : Expr) (t : TT) : Prop :=
 ∀ (pins : List (Addr × Obj)) (s : Shared) (σ : St) (H : Hp) (Q : Bool → Hp → Prop), Inv X pins σ H s → t σ H Q → wpAny (model X.prog X.w) X.A (isTrue e X.env (eval e X.env)) (TP X pins σ Q) X.xe s
def PW (X : Cx) (e : Expr) (t : TT) : Prop :=
 ∀ (whole : Sem Value) (pins : List (Addr × Obj)) (s : Shared) (σ : St) (H : Hp) (Q : Bool → Hp → Prop), Inv X pins σ H s → t σ H Q → wpAny (model X.prog X.w) X.A (isTrue e X.env whole) (TP X pins σ Q) X.xe s
theorem PW.pt {X : Cx} {e : Expr} {t : TT} (h : PW X e t) : PT X e t := h _
def PA (X : Cx) (es : List Expr) (t : TA) : Prop :=
 ∀ (pos : Pos) (pins : List (Addr × Obj)) (s : Shared) (σ : St) (H : Hp) (Q : List V → Hp → Prop), Inv X pins σ H s → t σ H Q → wpAny (model X.prog X.w) X.A (spliced (backTo pos (starEach es X.env))) (AP X pins σ Q) X.xe s
def PS (X : Cx) (st : Stmt) (t : TS) : Prop :=
 ∀ (pins : List (Addr × Obj)) (s : Shared) (σ : St) (H : Hp) (D : Ends), Inv X pins σ H s → t D σ H → wpAny (model X.prog X.w) X.A (exec st X.env) (SP X pins D) X.xe s
def PSs (X : Cx) (st : List Stmt) (t : TS) : Prop :=
 ∀ (pins : List (Addr × Obj)) (s : Shared) (σ : St) (H : Hp) (D : Ends), Inv X pins σ H s → t D σ H → wpAny (model X.prog X.w) X.A (execs st X.env) (SP X pins D) X.xe s
theorem thn {α : Type} {t : Sem α} {Q Q' : α → Shared → Prop} {M : Model} {A : Around} {E : Value → Shared → Prop} {s : Shared} (h : wpAny M A t Q E s) (hQ : ∀ a s, Q a s → Q' a s) : wpAny M A t Q' E s := wpAny_mono h hQ fun _ _ x => x
section
variable {X : Cx}
inductive tVarI (i : Nat) (σ : St) (H : Hp) (Q : VK) : Prop where
 | mk (v : V) (h1_ : σ[i]? = some (some v)) (h2_ : Q v H)
def tVar (i : Nat) : TE := fun σ H Q => tVarI i σ H Q
def tC (v : V) : TE := fun _ H Q => Q v H
theorem pe_var {i : Nat} {x : Str} {pos : Pos} (hN : X.N[i]? = some x) (hv : Vis X.env.scope x) (hd : (x == ("__debug__" : Str)) = false := by decide) (hcd : (x == ("__classdict__" : Str)) = false := by decide) : PE X (.Name x pos) (tVar i) := by
 intro pins s σ H Q I h
 obtain ⟨v, e, h⟩ := h
 obtain ⟨m, hn, hl⟩ := I.loc
 obtain ⟨u, r, l⟩ := hl i x v hN e hv
 have fin : EP X pins σ Q u s := ⟨v, H, I, r, h⟩
 rcases l with ⟨hk, hm⟩ | ⟨hk, c, hc, hcell⟩
 ·exact wpAny_Name (wpAny_loadName_local I.ok.kind hk hn hm fin) hd
 ·rcases hk with hk | hk
  ·exact wpAny_Name (wpAny_loadName_cell I.ok.kind hk hc hcell fin) hd
  ·exact wpAny_Name (wpAny_loadName_free I.ok.kind hk hc hcell fin hcd) hd
theorem pe_int {i j pos} : PE X (.Constant (.int i) j pos) (tC (.int i)) := fun _ _ _ H _ I h => wpAny_Constant_int ⟨.int i, H, I.tok _, ⟨_, rfl⟩, h⟩
theorem pe_bl {b j pos} : PE X (.Constant (.bool b) j pos) (tC (.bl b)) := fun _ _ _ H _ I h => Constant_bool ⟨.bl b, H, I, rfl, h⟩
theorem pe_non {j pos} : PE X (.Constant .none j pos) (tC .non) := fun _ _ _ H _ I h => Constant_none ⟨.non, H, I, rfl, h⟩
theorem pe_str {x j pos} : PE X (.Constant (.str x) j pos) (tC (.str x)) := fun _ _ _ H _ I h => Calls.Constant_str ⟨.str x, H, I.tok _, ⟨_, rfl⟩, h⟩
def Gl (X : Cx) (x : Str) : Prop := X.env.kindOf x = some .globalImplicit
theorem ld_glob {E : Value → Shared → Prop} {pins : List (Addr × Obj)} {s : Shared} {σ : St} {H : Hp} {x : Str} {u : Value} {pos : Pos} {Q : Value → Shared → Prop} (I : Inv X pins σ H s) (hg : Gl X x) (hm : X.mg x = some u) (h : Q u s)
  (hd : (x == ("__debug__" : Str)) = false := by decide) : wpAny (model X.prog X.w) X.A (eval (.Name x pos) X.env) Q E s :=
 Calls.Name_function_global I.ok.kind hg (Calls.loadGlobal_global (by rw [I.ok.glob]; exact I.mod.glob.keeps I.bk) hm h) hd
theorem ld_blt {E : Value → Shared → Prop} {pins : List (Addr × Obj)} {s : Shared} {σ : St} {H : Hp} {x : Str} {u : Value} {pos : Pos} {Q : Value → Shared → Prop} (I : Inv X pins σ H s) (hg : Gl X x) (hm : X.mg x = none) (hv : bootBuiltins x = some u) (h : Q u s)
  (hn : x ≠ "__name__" := by decide) (hd : (x == ("__debug__" : Str)) = false := by decide) : wpAny (model X.prog X.w) X.A (eval (.Name x pos) X.env) Q E s := by
 obtain ⟨mb, h1, h2⟩ := I.mod.blt
 exact Calls.Name_function_global I.ok.kind hg (Calls.loadGlobal_builtin (by rw [I.ok.glob]; exact I.mod.glob.keeps I.bk) hm (by rw [I.ok.blt]; exact h1.keeps I.bk) ((h2 x hn).trans hv) h) hd
theorem pe_glob {x : Str} {v : V} {u : Value} {pos : Pos} (hg : Gl X x) (hm : X.mg x = some u) (r : RelV v u) (hd : (x == ("__debug__" : Str)) = false := by decide) : PE X (.Name x pos) (tC v) :=
 fun _ _ _ H _ I h => ld_glob I hg hm ⟨v, H, I, r, h⟩ hd
theorem pe_bltn {x : Str} {v : V} {u : Value} {pos : Pos} (hg : Gl X x) (hm : X.mg x = none) (hv : bootBuiltins x = some u) (r : RelV v u) (hn : x ≠ "__name__" := by decide) (hd : (x == ("__debug__" : Str)) = false := by decide) : PE X (.Name x pos) (tC v) :=
 fun _ _ _ H _ I h => ld_blt I hg hm hv ⟨v, H, I, r, h⟩ hn hd
variable {a b : Expr} {ta tb : TE} {pos : Pos}
def PC (X : Cx) (op : CmpOp) (a b : Expr) (t : TE) : Prop :=
 ∀ (pins : List (Addr × Obj)) (s : Shared) (σ : St) (H : Hp) (Q : VK), Inv X pins σ H s → t σ H Q →
  wpAny (model X.prog X.w) X.A (eval a X.env) (fun v s₁ => wpAny (model X.prog X.w) X.A (eval b X.env) (fun u s₂ => wpAny (model X.prog X.w) X.A (compareOp op v u) (EP X pins σ Q) X.xe s₂) X.xe s₁) X.xe s
def tB (t : TE) : TT := fun σ H Q => t σ H fun x H1 => ∃ c, x = .bl c ∧ Q c H1
theorem pt_cmp {op : CmpOp} {t : TE} (h : PC X op a b t) (h1 : behindInMarks op b = false := by first | exact nobehind _ (by decide) (by decide) | rfl) : PT X (.Compare a [op] [b] pos) (tB t) := by
 intro pins s σ H Q I hw
 refine wpAny_isTrue_Compare1 (thn (h pins s σ H _ I hw) fun v s1 h1 => thn h1 fun u s2 h2 => thn h2 fun c s3 ⟨x, H1, I1, r1, q1⟩ => ?_) h1
 obtain ⟨d, rfl, q⟩ := q1
 cases r1
 exact wpAny_truthy_bool ⟨H1, I1, q⟩
variable {tA tB' : TT} {rest : List Expr}
def tAnd (t u : TT) : TT := fun σ H Q => t σ H fun c H1 => if c = true then u σ H1 Q else Q false H1
def tOr (t u : TT) : TT := fun σ H Q => t σ H fun c H1 => if c = true then Q true H1 else u σ H1 Q
def tNot (t : TT) : TT := fun σ H Q => t σ H fun c H1 => Q (!c) H1
theorem pw_and1 (ha : PT X a tA) : PW X (.BoolOp .And [a] pos) tA := by
 intro wh pins s σ H Q I h
 refine isTrue_and (thn (ha pins s σ H Q I h) fun c s1 e => ?_)
 cases c with
 | true => exact isTrue_and_nil e
 | false => exact e
theorem pw_or1 (ha : PT X a tA) : PW X (.BoolOp .Or [a] pos) tA := by
 intro wh pins s σ H Q I h
 refine isTrue_or (thn (ha pins s σ H Q I h) fun c s1 e => ?_)
 cases c with
 | false => exact isTrue_or_nil e
 | true => exact e
theorem pw_and (ha : PT X a tA) (hb : PW X (.BoolOp .And (b :: rest) pos) tB') : PW X (.BoolOp .And (a :: b :: rest) pos) (tAnd tA tB') := by
 intro wh pins s σ H Q I h
 refine isTrue_and (thn (ha pins s σ H _ I h) ?_)
 rintro c s1 ⟨H1, I1, q1⟩
 cases c with
 | true => exact hb wh pins s1 σ H1 Q I1 q1
 | false => exact ⟨H1, I1, q1⟩
theorem pw_or (ha : PT X a tA) (hb : PW X (.BoolOp .Or (b :: rest) pos) tB') : PW X (.BoolOp .Or (a :: b :: rest) pos) (tOr tA tB') := by
 intro wh pins s σ H Q I h
 refine isTrue_or (thn (ha pins s σ H _ I h) ?_)
 rintro c s1 ⟨H1, I1, q1⟩
 cases c with
 | true => exact ⟨H1, I1, q1⟩
 | false => exact hb wh pins s1 σ H1 Q I1 q1
theorem pt_not (ha : PT X a tA) : PT X (.UnaryOp .Not a pos) (tNot tA) := by
 intro pins s σ H Q I h
 exact isTrue_not (ha pins s σ H (fun c H1 => Q (!c) H1) I h)
def tAndV (ta tb : TE) : TE := fun σ H Q => ta σ H fun x H1 => ∃ c, x = .bl c ∧ if c = true then tb σ H1 Q else Q (.bl false) H1
def tOrV (ta tb : TE) : TE := fun σ H Q => ta σ H fun x H1 => ∃ c, x = .bl c ∧ if c = true then Q (.bl true) H1 else tb σ H1 Q
def tNotV (ta : TE) : TE := fun σ H Q => ta σ H fun x H1 => ∃ c, x = .bl c ∧ Q (.bl (!c)) H1
theorem pe_one {op} {t : TE} (h : PE X a t) : PE X (.BoolOp op [a] pos) t := fun pins s σ H Q I hw => BoolOp_one (h pins s σ H Q I hw)
theorem pe_and (ha : PE X a ta) (hb : PE X (.BoolOp .And (b :: rest) pos) tb) : PE X (.BoolOp .And (a :: b :: rest) pos) (tAndV ta tb) := by
 intro pins s σ H Q I h
 refine BoolOp_and (thn (ha pins s σ H _ I h) ?_)
 rintro v s1 ⟨x, H1, I1, r1, q1⟩
 obtain ⟨c, rfl, q1⟩ := q1
 cases r1
 refine wpAny_truthy_bool ?_
 cases c with
 | true => exact hb pins s1 σ H1 Q I1 q1
 | false => exact ⟨.bl false, H1, I1, rfl, q1⟩
theorem pe_or (ha : PE X a ta) (hb : PE X (.BoolOp .Or (b :: rest) pos) tb) : PE X (.BoolOp .Or (a :: b :: rest) pos) (tOrV ta tb) := by
 intro pins s σ H Q I h
 refine BoolOp_or (thn (ha pins s σ H _ I h) ?_)
 rintro v s1 ⟨x, H1, I1, r1, q1⟩
 obtain ⟨c, rfl, q1⟩ := q1
 cases r1
 refine wpAny_truthy_bool ?_
 cases c with
 | false => exact hb pins s1 σ H1 Q I1 q1
 | true => exact ⟨.bl true, H1, I1, rfl, q1⟩
theorem pe_not (ha : PE X a ta) : PE X (.UnaryOp .Not a pos) (tNotV ta) := by
 intro pins s σ H Q I h
 refine UnaryOp_ (thn (ha pins s σ H _ I h) ?_)
 rintro v s1 ⟨x, H1, I1, r1, q1⟩
 obtain ⟨c, rfl, q1⟩ := q1
 cases r1
 exact not_of (wpAny_truthy_bool ⟨.bl (!c), H1, I1, rfl, q1⟩)
end
def SqL (K : PySem.W.Frag) (H : Hp) (a : Addr) (xs : List V) : Prop :=
 Rd H a (.lst xs) ∨
  ∃ (o : Obj) (its : Array Value) (n : Nat), K.lookup a = some o ∧ o.cls = .type "list" ∧ o.dict = none ∧ o.data = .seq its n ∧ its.size ≤ sizeLine ∧ Vals xs its.toList
def SqT (K : PySem.W.Frag) (H : Hp) (a : Addr) (xs : List V) : Prop :=
 Rd H a (.tup xs) ∨
  ∃ (o : Obj) (its : Array Value) (n : Nat), K.lookup a = some o ∧ o.cls = .type "tuple" ∧ o.data = .seq its n ∧ its.size ≤ sizeLine ∧ Vals xs its.toList
def absV : Value → Option V
 | .none => some .non
 | .bool b => some (.bl b)
 | .int i _ => some (.int i)
 | .str x _ => some (.str x)
 | .bytes b _ => some (.byt b)
 | .float b _ => some (.flt b)
 | .ref a => some (.ref a)
 | .type n => some (.ty n)
 | _ => none
theorem RelV.abs {x : V} {u : Value} (r : RelV x u) : absV u = some x := by
 cases x with
 | non => cases r; rfl
 | bl _ => cases r; rfl
 | int _ => obtain ⟨t, rfl⟩ := r; rfl
 | str _ => obtain ⟨t, rfl⟩ := r; rfl
 | byt _ => obtain ⟨t, rfl⟩ := r; rfl
 | flt _ => obtain ⟨t, rfl⟩ := r; rfl
 | ref _ => cases r; rfl
 | ty _ => cases r; rfl
theorem RelV.inj {x y : V} {u : Value} (r : RelV x u) (q : RelV y u) : x = y := Option.some.inj (r.abs.symm.trans q.abs)
theorem Vals.inj : ∀ {xs ys : List V} {us : List Value}, Vals xs us → Vals ys us → xs = ys
 | _, _, _, .nil, .nil => rfl
 | _, _, _, .cons r t, .cons r' t' => by rw [r.inj r', Vals.inj t t']
section
variable {X : Cx} {pins : List (Addr × Obj)} {σ : St} {H : Hp} {s : Shared} {a : Addr} {xs ys : List V}
theorem SqL.of {K : PySem.W.Frag} (h : H a = some (.lst xs)) : SqL K H a xs := .inl (.inl h)
theorem SqT.of {K : PySem.W.Frag} (h : H a = some (.tup xs)) : SqT K H a xs := .inl (.inl h)
theorem Inv.list (I : Inv X pins σ H s) (h : SqL X.K H a xs) : ∃ its : List Value, Vals xs its ∧ PlainL s.heap a its.toArray ∧ xs.length ≤ sizeLine := by
 rcases h with h | ⟨o, its, n, hk, hc, hd, hs, hz, r⟩
 ·obtain ⟨z, its, n, r, e⟩ := h.ok I.hok
  exact ⟨its, r, ⟨_, n, e, rfl, rfl, rfl⟩, z⟩
 ·refine ⟨its.toList, r, ⟨o, n, I.kIn a o hk, hc, hd, by simpa using hs⟩, ?_⟩
  have e := r.length
  simp only [Array.length_toList] at e
  omega
theorem Inv.tuple (I : Inv X pins σ H s) (h : SqT X.K H a xs) : ∃ its : List Value, Vals xs its ∧ IsTup s.heap a its.toArray ∧ xs.length ≤ sizeLine := by
 rcases h with h | ⟨o, its, n, hk, hc, hs, hz, r⟩
 ·obtain ⟨z, its, r, p⟩ := h.ok I.hok
  exact ⟨its, r, p, z.1⟩
 ·refine ⟨its.toList, r, ⟨o, I.kIn a o hk, hc, n, by simpa using hs⟩, ?_⟩
  have e := r.length
  simp only [Array.length_toList] at e
  omega
theorem Inv.list_inj (I : Inv X pins σ H s) (h : SqL X.K H a xs) (h' : SqL X.K H a ys) : xs = ys := by
 obtain ⟨its, r, ⟨o, n, e, _, _, d⟩, _⟩ := I.list h
 obtain ⟨its', r', ⟨o', n', e', _, _, d'⟩, _⟩ := I.list h'
 rw [e] at e'; cases e'
 rw [d] at d'
 injection d' with d1 _
 have : its = its' := by simpa using congrArg Array.toList d1
 subst this
 exact r.inj r'
theorem Inv.tuple_inj (I : Inv X pins σ H s) (h : SqT X.K H a xs) (h' : SqT X.K H a ys) : xs = ys := by
 obtain ⟨its, r, ⟨o, e, _, n, d⟩, _⟩ := I.tuple h
 obtain ⟨its', r', ⟨o', e', _, n', d'⟩, _⟩ := I.tuple h'
 rw [e] at e'; cases e'
 rw [d] at d'
 injection d' with d1 _
 have : its = its' := by simpa using congrArg Array.toList d1
 subst this
 exact r.inj r'
end
abbrev Cx.wish (X : Cx) (E : Value → Shared → Prop) : Cx := { X with xe := E }
abbrev Cx.nox (X : Cx) : Cx := X.wish fun _ _ => False
theorem Cx.Ok.wish {X : Cx} (ok : X.Ok) (E : Value → Shared → Prop) : (X.wish E).Ok :=
 ⟨ok.mod, ok.kind, ok.glob, ok.blt, ok.above, ok.inj, ok.has, ok.cab, ok.hd, ok.frames, ok.stk, ok.exf, ok.bs, ok.bsz, ok.noex, ok.exfs, ok.funs, ok.frf⟩
theorem Cx.Ok.unwish {X : Cx} {E : Value → Shared → Prop} (ok : (X.wish E).Ok) : X.Ok :=
 ⟨ok.mod, ok.kind, ok.glob, ok.blt, ok.above, ok.inj, ok.has, ok.cab, ok.hd, ok.frames, ok.stk, ok.exf, ok.bs, ok.bsz, ok.noex, ok.exfs, ok.funs, ok.frf⟩
section
variable {X : Cx} {pins : List (Addr × Obj)} {σ : St} {H : Hp} {s : Shared} {E : Value → Shared → Prop}
theorem Inv.wish (I : Inv X pins σ H s) (E : Value → Shared → Prop) : Inv (X.wish E) pins σ H s := ⟨I.ok.wish E, I.os, I.bare, I.base, I.loc, I.cell, I.free, I.freeC, I.pin, I.hok, I.len⟩
theorem Inv.unwish (I : Inv (X.wish E) pins σ H s) : Inv X pins σ H s := ⟨I.ok.unwish, I.os, I.bare, I.base, I.loc, I.cell, I.free, I.freeC, I.pin, I.hok, I.len⟩
theorem SP.unwish {D : Ends} {f : Flow} {s' : Shared} (h : SP (X.wish E) pins D f s') : SP X pins D f s' := by
 cases f with
 | next => obtain ⟨σ', H', I, q⟩ := h; exact ⟨σ', H', I.unwish, q⟩
 | brk => obtain ⟨σ', H', I, q⟩ := h; exact ⟨σ', H', I.unwish, q⟩
 | cont => obtain ⟨σ', H', I, q⟩ := h; exact ⟨σ', H', I.unwish, q⟩
 | ret u => obtain ⟨v, σ', H', I, r, q⟩ := h; exact ⟨v, σ', H', I.unwish, r, q⟩
theorem PSs.nox {st : List Stmt} {t : TS} (h : PSs X.nox st t) : PSs X st t := fun pins s σ H D I hw =>
 wpAny_mono (h pins s σ H D (I.wish _) hw) (fun _ _ q => q.unwish) fun _ _ z => False.elim z
end
section
variable {X : Cx} {st : Stmt} {rest : List Stmt} {t u : TS} {e : Expr} {te : TE} {pos : Pos}
def tNext : TS := fun D σ H => D.nx σ H
def tSeq (t u : TS) : TS := fun D σ H => t { D with nx := u D } σ H
theorem pss_nil : PSs X [] tNext := fun _ _ σ H _ I h => wpAny_execs_nil ⟨σ, H, I, h⟩
theorem pss_cons (h1 : PS X st t) (h2 : PSs X rest u) : PSs X (st :: rest) (tSeq t u) := by
 intro pins s σ H D I h
 refine wpAny_execs_cons (thn (h1 pins s σ H { D with nx := u D } I h) fun f s1 q => ?_)
 cases f with
 | next =>
  obtain ⟨σ', H', I', q⟩ := q
  exact h2 pins s1 σ' H' D I' q
 | ret v => exact q
 | brk => exact q
 | cont => exact q
theorem pss_one (h1 : PS X st t) : PSs X [st] t := by
 intro pins s σ H D I h
 refine wpAny_execs_cons (thn (h1 pins s σ H D I h) fun f s1 q => ?_)
 cases f with
 | next => exact wpAny_execs_nil q
 | ret v => exact q
 | brk => exact q
 | cont => exact q
theorem Inv.quiet {pins : List (Addr × Obj)} {σ : St} {H : Hp} {s : Shared} (I : Inv X pins σ H s) : interactive X.env = false := by simp [interactive, I.ok.kind]
def tDrop (te : TE) : TS := fun D σ H => te σ H fun _ H1 => D.nx σ H1
theorem ps_expr (he : PE X e te) (hs : swapsWith e none pos.line X.env = pure false := by rfl) : PS X (.Expr e pos) (tDrop te) := by
 intro pins s σ H D I h
 exact wpAny_Expr_any (thn (he pins s σ H _ I h) fun v s1 ⟨x, H1, I1, r1, q1⟩ => ⟨σ, H1, I1, q1⟩) I.quiet hs
def tRet (te : TE) : TS := fun D σ H => te σ H D.rt
theorem ps_ret (he : PE X e te) : PS X (.Return (some e) pos) (tRet te) := by
 intro pins s σ H D I h
 refine wpAny_Return_some (thn (he pins s σ H _ I h) ?_)
 rintro v s1 ⟨x, H1, I1, r1, q1⟩
 exact ⟨x, σ, H1, I1, r1, q1⟩
def tIfS (c : TT) (t u : TS) : TS := fun D σ H => c σ H fun b H1 => if b = true then t D σ H1 else u D σ H1
theorem ps_if {c : Expr} {a b : List Stmt} {tc : TT} (hc : PT X c tc) (ha : PSs X a t) (hb : PSs X b u) : PS X (.If c a b pos) (tIfS tc t u) := by
 intro pins s σ H D I h
 refine wpAny_If (thn (hc pins s σ H _ I h) ?_)
 rintro d s1 ⟨H1, I1, q1⟩
 cases d with
 | true => exact ha pins s1 σ H1 D I1 q1
 | false => exact hb pins s1 σ H1 D I1 q1
end
abbrev TG := V → St → Hp → (St → Hp → Prop) → Prop
abbrev TGs := List V → St → Hp → (St → Hp → Prop) → Prop
def PG (X : Cx) (target : Expr) (t : TG) : Prop :=
 ∀ (pins : List (Addr × Obj)) (s : Shared) (σ : St) (H : Hp) (v : V) (u : Value) (Q : St → Hp → Prop), Inv X pins σ H s → RelV v u → t v σ H Q →
  wpAny (model X.prog X.w) X.A (assign target X.env u) (fun _ s' => ∃ σ' H', Inv X pins σ' H' s' ∧ Q σ' H') X.xe s
def PGs (X : Cx) (ts : List Expr) (t : TGs) : Prop :=
 ∀ (pins : List (Addr × Obj)) (s : Shared) (σ : St) (H : Hp) (vs : List V) (us : List Value) (Q : St → Hp → Prop), Inv X pins σ H s → Vals vs us → t vs σ H Q →
  wpAny (model X.prog X.w) X.A (assignInOrder ((assignEach ts X.env).map (·.2)) us) (fun _ s' => ∃ σ' H', Inv X pins σ' H' s' ∧ Q σ' H') X.xe s
section
variable {X : Cx} {pos : Pos}
def gName (i : Nat) : TG := fun v σ H Q => Q (σ.set i (some v)) H
theorem pg_name {i : Nat} {x : Str} (hN : X.N.Nodup) (hi : X.N[i]? = some x) (hx : Loc X.env.scope x) (hf : X.fn x = true ∨ X.env.scope.names.lookup x = some .local := by first | exact .inl rfl | exact .inr rfl | assumption) : PG X (.Name x pos) (gName i) := by
 intro pins s σ H v u Q I r h
 exact wpAny_assign_Name (store_ok I hN hi hx r (fun s' I' => ⟨_, H, I', h⟩) hf)
def gNil : TGs := fun vs σ H Q => vs = [] ∧ Q σ H
def gCons (t : TG) (u : TGs) : TGs := fun vs σ H Q => ∃ v r, vs = v :: r ∧ t v σ H fun σ' H' => u r σ' H' Q
theorem pgs_nil : PGs X [] gNil := by
 intro pins s σ H vs us Q I r h
 obtain ⟨e, h⟩ := h
 subst e
 cases r
 exact assignInOrder_nil ⟨σ, H, I, h⟩
theorem pgs_cons {e : Expr} {es : List Expr} {t : TG} {u : TGs} (h1 : PG X e t) (h2 : PGs X es u)
  (hs : (assignEach (e :: es) X.env).map (·.2) = assign e X.env :: (assignEach es X.env).map (·.2) := by rfl) : PGs X (e :: es) (gCons t u) := by
 intro pins s σ H vs us Q I r h
 obtain ⟨v, vr, e1, h⟩ := h
 subst e1
 cases r with
 | cons r rr =>
  rw [hs]
  refine assignInOrder_cons (thn (h1 pins s σ H _ _ _ I r h) ?_)
  rintro _ s1 ⟨σ1, H1, I1, q1⟩
  exact h2 pins s1 σ1 H1 _ _ Q I1 rr q1
def gTup (K : PySem.W.Frag) (n : Nat) (t : TGs) : TG := fun v σ H Q => ∃ a xs, v = .ref a ∧ SqT K H a xs ∧ xs.length = n ∧ t xs σ H Q
theorem pg_tup {es : List Expr} {k : Nat} {t : TGs} {n : Nat} (hc : X.calm = true) (h : PGs X es t)
  (hn : (assignEach es X.env).length = n := by rfl) (hst : (assignEach es X.env).findIdx? (·.1) = none := by rfl) : PG X (.Tuple es k pos) (gTup X.K n t) := by
 intro pins s σ H v u Q I r hw
 obtain ⟨a, xs, e1, hq, hl, hw⟩ := hw
 subst e1
 cases r
 obtain ⟨its, rv, ht, hz⟩ := I.tuple hq
 refine assign_Tuple_tuple (I.ok.hd hc) ht (by simp [hn, ← hl, rv.length]) hst fun h' hx => ?_
 have I1 : Inv X pins σ H { s with heap := h' } := I.kept (t' := s.toks) fun b o e => hx b o (Nat.ne_of_lt (Heap.lt_size e)) e
 exact h pins _ σ H xs _ Q I1 (by simpa using rv) hw
def tAsg (te : TE) (g : TG) : TS := fun D σ H => te σ H fun x H1 => g x σ H1 D.nx
theorem ps_asg {tg e : Expr} {te : TE} {g : TG} (he : PE X e te) (hg : PG X tg g) (hs : swapsWithSole [tg] e pos.line X.env = pure false := by rfl) (hw : swappedStores [tg] e X.env = pure none := by rfl)
  (h1 : (assignEach [tg] X.env).map (·.2) = [assign tg X.env] := by rfl) : PS X (.Assign [tg] e pos) (tAsg te g) := by
 intro pins s σ H D I h
 refine wpAny_Assign_stores (thn (he pins s σ H _ I h) ?_) hs hw
 rintro v s1 ⟨x, H1, I1, r1, q1⟩
 rw [h1]
 exact thn (hg pins s1 σ H1 x v _ I1 r1 q1) fun _ s2 q => q
theorem ps_set {i : Nat} {x : Str} {e : Expr} {te : TE} {pos' : Pos} (hN : X.N.Nodup) (hi : X.N[i]? = some x) (hx : Loc X.env.scope x) (he : PE X e te) (hs : swapsWith e (some (.Name x pos')) pos.line X.env = pure false := by rfl) (hf : X.fn x = true ∨ X.env.scope.names.lookup x = some .local := by first | exact .inl rfl | exact .inr rfl | assumption) :
  PS X (.Assign [.Name x pos'] e pos) (tAsg te (gName i)) := by
 intro pins s σ H D I h
 refine wpAny_Assign_Name (thn (he pins s σ H _ I h) ?_) hs
 rintro v s1 ⟨y, H1, I1, r1, q1⟩
 exact store_ok I1 hN hi hx r1 (fun s2 I2 => ⟨_, H1, I2, q1⟩) hf
def tWhile (c : TT) (tb : TS) : TS := fun D σ H => ∃ W : Nat → St → Hp → Prop, (∃ m, W m σ H) ∧ ∀ m σ H, W m σ H →
 c σ H fun b H1 => if b = true then ∃ N : St → Hp → Prop, (∀ σ' H', N σ' H' → ∃ m', m' < m ∧ W m' σ' H') ∧ tb { D with nx := N, ct := N, bk := D.nx } σ H1 else D.nx σ H1
theorem ps_while {c : Expr} {body : List Stmt} {tc : TT} {tb : TS} (hp : PassesOwn (model X.prog X.w) X.A X.env X.xe) (hc : PT X c tc) (hb : PSs X body tb) : PS X (.While c body [] pos) (tWhile tc tb) := by
 intro pins s σ H D I h
 obtain ⟨W, ⟨m0, w0⟩, turn⟩ := h
 refine wpAny_While (codeAny_whileLoop (fun n s' => ∃ σ' H', Inv X pins σ' H' s' ∧ W n σ' H') ?_ m0 ⟨σ, H, I, w0⟩)
 rintro n s1 ⟨σ1, H1, I1, w1⟩
 refine wpAny_passesOwn hp (thn (hc pins s1 σ1 H1 _ I1 (turn n σ1 H1 w1)) ?_)
 rintro b s2 ⟨H2, I2, q2⟩
 cases b with
 | true =>
  obtain ⟨N, hN, q2⟩ := q2
  rw [if_pos rfl]
  refine wpAny_passesOwn hp (thn (hb pins s2 σ1 H2 _ I2 q2) fun f s3 q3 => ?_)
  cases f with
  | next =>
   obtain ⟨σ3, H3, I3, n3⟩ := q3
   obtain ⟨m', hm, w3⟩ := hN σ3 H3 n3
   exact ⟨m', hm, σ3, H3, I3, w3⟩
  | cont =>
   obtain ⟨σ3, H3, I3, n3⟩ := q3
   obtain ⟨m', hm, w3⟩ := hN σ3 H3 n3
   exact ⟨m', hm, σ3, H3, I3, w3⟩
  | brk => exact q3
  | ret v => exact q3
 | false =>
  rw [if_neg Bool.false_ne_true]
  exact wpAny_execs_nil ⟨σ1, H2, I2, q2⟩
end
structure It where
 go : Nat → Hp → Prop
 yld : Nat → Hp → V → Hp → Prop
 stop : Nat → Hp → Prop
def FpOk (X : Cx) (pins : List (Addr × Obj)) (H : Hp) (b : Addr) : Prop :=
 H b = none ∧ b ≠ X.env.locals ∧ b ∉ X.fs ∧ (b ∈ X.ex ∨ X.s₀.heap.objs.size ≤ b) ∧ (∀ x c, X.env.cells.lookup x = some c → c ≠ b) ∧ ∀ p ∈ X.pn ++ pins, p.1 ≠ b
theorem Inv.fpOk {X : Cx} {pins : List (Addr × Obj)} {σ : St} {H H' : Hp} {s : Shared} {b : Addr} (I : Inv X pins σ H s) (hb : s.heap.objs.size ≤ b) (hn : H' b = none) : FpOk X pins H' b := by
 refine ⟨hn, Nat.ne_of_gt (Nat.lt_of_lt_of_le I.lt hb), I.nofs hb, .inr (Nat.le_trans I.sz hb), fun x c e z => ?_, fun p hp z => ?_⟩
 ·obtain ⟨v, q⟩ := I.cell x c e
  exact absurd (Nat.lt_of_lt_of_le q.lt (by rw [z]; exact hb)) (Nat.lt_irrefl _)
 ·exact absurd (Nat.lt_of_lt_of_le (Heap.lt_size (I.pin p hp).1) (by rw [z]; exact hb)) (Nat.lt_irrefl _)
structure Turn (P : Program) (w : World) (K : PySem.W.Frag) (tg : Expr) (J : It) (fp : List Addr) (it : Addr) (tn : Nat → Heap → Prop) : Prop where
 mem : it ∈ fp
 obj : ∀ i h, tn i h → ∀ b ∈ fp, ∃ o, h.get? b = some o ∧ ∀ v, o.data ≠ .cell v
 keep : ∀ i h h', tn i h → (∀ b ∈ fp, ∀ o, h.get? b = some o → h'.get? b = some o) → tn i h'
 item : ∀ (X : Cx), X.prog = P → X.w = w → X.K = K → X.calm = true → ∀ (i : Nat) (pins : List (Addr × Obj)) (s : Shared) (σ : St) (H : Hp) (E : Value → Shared → Prop), Inv X pins σ H s → (∀ b ∈ fp, FpOk X pins H b) → tn i s.heap → J.go i H →
  wpAny (model P w) X.A (pyNext (.ref it)) (fun r s1 => ∃ u, r = some u ∧
   wpAny (model P w) X.A (letOwnedTupleGo tg (.ref it) u) (fun _ s2 => ∃ x H', Inv X pins σ H' s2 ∧ RelV x u ∧ J.yld i H x H' ∧ tn (i + 1) s2.heap ∧ ∀ b ∈ fp, H' b = none) E s1) E s
 done : ∀ (X : Cx), X.prog = P → X.w = w → X.K = K → X.calm = true → ∀ (i : Nat) (pins : List (Addr × Obj)) (s : Shared) (σ : St) (H : Hp) (E : Value → Shared → Prop), Inv X pins σ H s → (∀ b ∈ fp, FpOk X pins H b) → tn i s.heap → J.stop i H →
  wpAny (model P w) X.A (pyNext (.ref it)) (fun r s1 => r = none ∧ Inv X pins σ H s1) E s
 self : ∀ (A : Around) (i : Nat) (s : Shared) (Q : Value → Shared → Prop) (E : Value → Shared → Prop), tn i s.heap → Q (.ref it) s → wpAny (model P w) A (pyIter (.ref it)) Q E s
abbrev TI := St → Hp → (It → Hp → Prop) → Prop
def PIE (X : Cx) (pins : List (Addr × Obj)) (σ : St) (tg : Expr) (R : It → Hp → Prop) (itv : Value) (s2 : Shared) : Prop :=
 ∃ (it : Addr) (fp : List Addr) (tn : Nat → Heap → Prop) (J : It) (H' : Hp), itv = .ref it ∧ Inv X pins σ H' s2 ∧ Turn X.prog X.w X.K tg J fp it tn ∧ tn 0 s2.heap ∧ (∀ b ∈ fp, FpOk X pins H' b) ∧ R J H'
def PI (X : Cx) (tg iter : Expr) (wi : TI) : Prop :=
 ∀ (pins : List (Addr × Obj)) (s : Shared) (σ : St) (H : Hp) (R : It → Hp → Prop), Inv X pins σ H s → wi σ H R →
  wpAny (model X.prog X.w) X.A (eval iter X.env) (fun v s1 => wpAny (model X.prog X.w) X.A (pyIter v) (PIE X pins σ tg R) X.xe s1) X.xe s
theorem go_of {M : Model} {A : Around} {E : Value → Shared → Prop} {s : Shared} {tg : Expr} {it : Addr} {u : Value} {o : Obj} {n : String} {vs : Array Value} {Q : Unit → Shared → Prop} (ho : s.heap.get? it = some o) (hc : o.cls = .type n) (hd : o.data = .fields vs)
  (hn : ["enumerate", "zip", "dict_itemiterator", "dict_reverseitemiterator", "odict_iterator", "itertools.zip_longest", "itertools.pairwise"].contains n = false) (hQ : Q () s) : wpAny M A (letOwnedTupleGo tg (.ref it) u) Q E s := by
 unfold letOwnedTupleGo
 cases tg <;> first
  | exact wpAny_pure hQ
  | (cases u <;> first
    | exact wpAny_pure hQ
    | (refine wpAny_bind (wpAny_load ho ?_)
       rw [hc, hd]
       show wpAny M A (if (["enumerate", "zip", "dict_itemiterator", "dict_reverseitemiterator", "odict_iterator", "itertools.zip_longest", "itertools.pairwise"].contains n && vs[0]? == some (rawInt _)) = true then _ else _) Q E s
       rw [if_neg (by intro h; rw [hn, Bool.false_and] at h; cases h)]
       exact wpAny_pure hQ))
def Itl (K : PySem.W.Frag) (a : Addr) : It :=
 ⟨fun i H => ∃ xs x, SqL K H a xs ∧ xs[i]? = some x, fun i H x H' => H' = H ∧ ∀ xs, SqL K H a xs → xs[i]? = some x, fun i H => ∃ xs, SqL K H a xs ∧ xs.length ≤ i⟩
def Itt (K : PySem.W.Frag) (a : Addr) : It :=
 ⟨fun i H => ∃ xs x, SqT K H a xs ∧ xs[i]? = some x, fun i H x H' => H' = H ∧ ∀ xs, SqT K H a xs → xs[i]? = some x, fun i H => ∃ xs, SqT K H a xs ∧ xs.length ≤ i⟩
def Itr (lo : Int) (n : Nat) : It := ⟨fun i _ => i < n, fun i H x H' => H' = H ∧ x = .int (lo + i), fun i _ => n ≤ i⟩
theorem turn_list {P : Program} {w : World} {K : PySem.W.Frag} {tg : Expr} (a it : Addr) : Turn P w K tg (Itl K a) [it] it (fun i h => h.IsListIter it a i) where
 mem := by simp
 obj := fun i h st b hb => by
  have e : b = it := by simpa using hb
  subst e
  obtain ⟨o, e, c, d⟩ := st
  exact ⟨o, e, fun v z => by rw [d] at z; cases z⟩
 keep := fun i h h' st k => st.at fun o e => k it (by simp) o e
 item := by
  intro X hP hw hK hc i pins s σ H E I hf st hg
  subst hP hw hK
  obtain ⟨xs, x, hq, hx⟩ := hg
  obtain ⟨its, rv, p, hz⟩ := I.list hq
  obtain ⟨u, hu, ru⟩ := rv.get hx
  obtain ⟨f0, f1, f2, f3, f4, f5⟩ := hf it (by simp)
  refine wpAny_pyNext_list_item st p.isList (x := u) (by simpa using hu) fun h' st' sb => ?_
  have I1 : Inv X pins σ H { s with heap := h' } := I.turned (t' := s.toks) (fun b o hb e => (sb.2 b hb).trans e) f0 f1 f3 f4 f5
  obtain ⟨o, e, c, d⟩ := id st'
  exact ⟨u, rfl, go_of (s := { s with heap := h' }) e c d (by decide) ⟨x, H, I1, ru, ⟨rfl, fun ys hy => by rw [I.list_inj hy hq]; exact hx⟩, st', fun b hb => (hf b hb).1⟩⟩
 done := by
  intro X hP hw hK hc i pins s σ H E I hf st hg
  subst hP hw hK
  obtain ⟨xs, hq, hx⟩ := hg
  obtain ⟨its, rv, p, hz⟩ := I.list hq
  obtain ⟨f0, f1, f2, f3, f4, f5⟩ := hf it (by simp)
  have hl := rv.length
  exact wpAny_pyNext_list_end (I.ok.hd hc) st p.isList (by simp; omega) fun h' eb => ⟨rfl, I.turned (t' := s.toks) (fun b o hb e => eb b o hb e) f0 f1 f3 f4 f5⟩
 self := fun _ _ _ _ _ st h => wpAny_pyIter_listiter st h
theorem turn_tuple {P : Program} {w : World} {K : PySem.W.Frag} {tg : Expr} (a it : Addr) : Turn P w K tg (Itt K a) [it] it (fun i h => h.IsTupleIter it a i) where
 mem := by simp
 obj := fun i h st b hb => by
  have e : b = it := by simpa using hb
  subst e
  obtain ⟨o, e, c, d⟩ := st
  exact ⟨o, e, fun v z => by rw [d] at z; cases z⟩
 keep := fun i h h' st k => st.at fun o e => k it (by simp) o e
 item := by
  intro X hP hw hK hc i pins s σ H E I hf st hg
  subst hP hw hK
  obtain ⟨xs, x, hq, hx⟩ := hg
  obtain ⟨its, rv, p, hz⟩ := I.tuple hq
  obtain ⟨u, hu, ru⟩ := rv.get hx
  obtain ⟨f0, f1, f2, f3, f4, f5⟩ := hf it (by simp)
  refine wpAny_pyNext_tuple_item st (show s.heap.IsTuple a its.toArray from p) (x := u) (by simpa using hu) fun h' st' sb => ?_
  have I1 : Inv X pins σ H { s with heap := h' } := I.turned (t' := s.toks) (fun b o hb e => (sb.2 b hb).trans e) f0 f1 f3 f4 f5
  obtain ⟨o, e, c, d⟩ := id st'
  exact ⟨u, rfl, go_of (s := { s with heap := h' }) e c d (by decide) ⟨x, H, I1, ru, ⟨rfl, fun ys hy => by rw [I.tuple_inj hy hq]; exact hx⟩, st', fun b hb => (hf b hb).1⟩⟩
 done := by
  intro X hP hw hK hc i pins s σ H E I hf st hg
  subst hP hw hK
  obtain ⟨xs, hq, hx⟩ := hg
  obtain ⟨its, rv, p, hz⟩ := I.tuple hq
  obtain ⟨f0, f1, f2, f3, f4, f5⟩ := hf it (by simp)
  have hl := rv.length
  exact wpAny_pyNext_tuple_end (I.ok.hd hc) st (show s.heap.IsTuple a its.toArray from p) (by simp; omega) fun h' eb => ⟨rfl, I.turned (t' := s.toks) (fun b o hb e => eb b o hb e) f0 f1 f3 f4 f5⟩
 self := fun _ _ _ _ _ st h => wpAny_pyIter_tupleiter st h
theorem turn_range {P : Program} {w : World} {K : PySem.W.Frag} {tg : Expr} (it : Addr) (lo : Int) (n : Nat) : Turn P w K tg (Itr lo n) [it] it (fun i h => IsRangeIter h it (lo + (i : Nat) * 1) ((n : Int) - (i : Nat)) 1) where
 mem := by simp
 obj := fun i h st b hb => by
  have e : b = it := by simpa using hb
  subst e
  exact ⟨_, st, fun v z => by
   have z' : Data.fields _ = Data.cell v := z
   cases z'⟩
 keep := fun i h h' st k => k it (by simp) _ st
 item := by
  intro X hP hw hK hc i pins s σ H E I hf st hg
  subst hP hw hK
  obtain ⟨f0, f1, f2, f3, f4, f5⟩ := hf it (by simp)
  have W := Walks.range (prog := X.prog) (w := X.w) (I.ok.hd hc) it lo 1 n
  refine W.item i s _ _ hg st fun v h' tk hv st' kk => ?_
  obtain ⟨t, rfl⟩ := hv
  have I1 : Inv X pins σ H { s with heap := h', toks := tk } := I.turned (fun b o hb e => kk b o (by simpa using hb) e) f0 f1 f3 f4 f5
  refine ⟨_, rfl, go_of (s := { s with heap := h', toks := tk }) (n := "range_iterator") st' rfl rfl (by decide) ⟨.int (lo + i), H, I1, ⟨t, ?_⟩, ⟨rfl, rfl⟩, st', fun b hb => (hf b hb).1⟩⟩
  rw [Int.mul_one]
 done := by
  intro X hP hw hK hc i pins s σ H E I hf st hg
  subst hP hw hK
  obtain ⟨f0, f1, f2, f3, f4, f5⟩ := hf it (by simp)
  exact wpAny_pyNext_range_end (I.ok.hd hc) st (by have : n ≤ i := hg; omega) fun h' eb => ⟨rfl, I.turned (t' := s.toks) (fun b o hb e => eb b o hb e) f0 f1 f3 f4 f5⟩
 self := fun _ _ _ _ _ st h => wpAny_pyIter_rangeiter st h
section
variable {X : Cx} {tg : Expr}
def iList (K : PySem.W.Frag) (tl : TE) : TI := fun σ H R => tl σ H fun x H1 => ∃ a, x = .ref a ∧ (∃ xs, SqL K H1 a xs) ∧ R (Itl K a) H1
def iTup (K : PySem.W.Frag) (tl : TE) : TI := fun σ H R => tl σ H fun x H1 => ∃ a, x = .ref a ∧ (∃ xs, SqT K H1 a xs) ∧ R (Itt K a) H1
theorem pi_list {l : Expr} {tl : TE} (hl : PE X l tl) : PI X tg l (iList X.K tl) := by
 intro pins s σ H R I h
 refine thn (hl pins s σ H _ I h) ?_
 rintro v s1 ⟨x, H1, I1, r1, q1⟩
 obtain ⟨a, e, ⟨xs, hq⟩, q⟩ := q1
 subst e
 cases r1
 obtain ⟨its, rv, p, hz⟩ := I1.list hq
 refine wpAny_pyIter_list p.isList ?_
 refine ⟨s1.heap.objs.size, [s1.heap.objs.size], _, _, H1, rfl, I1.kept (t' := s1.toks) fun b o e => Heap.get?_push_of_some _ e, turn_list a _, ⟨_, Heap.get?_push_size _ rfl, rfl, rfl⟩, fun b hb => ?_, q⟩
 have e : b = s1.heap.objs.size := by simpa using hb
 subst e
 exact I1.fpOk (Nat.le_refl _) (I1.hok.fresh (Nat.le_refl _))
theorem pi_tup {l : Expr} {tl : TE} (hl : PE X l tl) : PI X tg l (iTup X.K tl) := by
 intro pins s σ H R I h
 refine thn (hl pins s σ H _ I h) ?_
 rintro v s1 ⟨x, H1, I1, r1, q1⟩
 obtain ⟨a, e, ⟨xs, hq⟩, q⟩ := q1
 subst e
 cases r1
 obtain ⟨its, rv, p, hz⟩ := I1.tuple hq
 refine wpAny_pyIter_tuple (show s1.heap.IsTuple a its.toArray from p) ?_
 refine ⟨s1.heap.objs.size, [s1.heap.objs.size], _, _, H1, rfl, I1.kept (t' := s1.toks) fun b o e => Heap.get?_push_of_some _ e, turn_tuple a _, ⟨_, Heap.get?_push_size _ rfl, rfl, rfl⟩, fun b hb => ?_, q⟩
 have e : b = s1.heap.objs.size := by simpa using hb
 subst e
 exact I1.fpOk (Nat.le_refl _) (I1.hok.fresh (Nat.le_refl _))
theorem range_it {pins : List (Addr × Obj)} {σ : St} {H : Hp} {s : Shared} {R : It → Hp → Prop} {E : Value → Shared → Prop} {lo hi : Int} {t u v : Tok} {tk : Nat} (I : Inv X pins σ H s) (h1 : -(2 ^ 62) ≤ lo) (h2 : lo < 2 ^ 62) (h3 : -(2 ^ 62) ≤ hi) (h4 : hi < 2 ^ 62)
  (q : R (Itr lo (hi - lo).toNat) H) : wpAny (model X.prog X.w) X.A (pyIter (.ref s.heap.objs.size)) (PIE X pins σ tg R) E { s with heap := s.heap.push { cls := .type "range", data := .fields #[.int lo t, .int hi u, .int 1 v] }, toks := tk } := by
 refine wpAny_pyIter_range (IsRange.new ..) (small_one h1 h2 h3 h4) ?_
 have I1 : Inv X pins σ H { s with heap := s.heap.push { cls := .type "range", data := .fields #[.int lo t, .int hi u, .int 1 v] }, toks := tk } := I.kept fun b o e => Heap.get?_push_of_some _ e
 refine ⟨(s.heap.push { cls := .type "range", data := .fields #[.int lo t, .int hi u, .int 1 v] }).objs.size, [(s.heap.push { cls := .type "range", data := .fields #[.int lo t, .int hi u, .int 1 v] }).objs.size], _, _, H, rfl,
  I1.kept (t' := tk) fun b o e => Heap.get?_push_of_some _ e, turn_range _ lo (hi - lo).toNat, ?_, fun b hb => ?_, q⟩
 ·have e1 : lo + ((0 : Nat) : Int) * 1 = lo := by simp
  have e2 : (((hi - lo).toNat : Nat) : Int) - ((0 : Nat) : Int) = Builtin.Range.rangeSize lo hi 1 := by rw [rangeSize_one]; split <;> omega
  show IsRangeIter _ _ (lo + ((0 : Nat) : Int) * 1) ((((hi - lo).toNat : Nat) : Int) - ((0 : Nat) : Int)) 1
  rw [e1, e2]
  exact Heap.get?_push_size _ rfl
 ·have e : b = (s.heap.push { cls := .type "range", data := .fields #[.int lo t, .int hi u, .int 1 v] }).objs.size := by simpa using hb
  subst e
  exact I1.fpOk (Nat.le_refl _) (I1.hok.fresh (Nat.le_refl _))
def iRng1 (ta : TA) : TI := fun σ H R => ta σ H fun vs H1 => ∃ j : Int, vs = [.int j] ∧ -(2 ^ 62) ≤ j ∧ j < 2 ^ 62 ∧ R (Itr 0 j.toNat) H1
theorem pi_range1 {a : Expr} {ta : TA} {p pos : Pos} (hg : Gl X "range") (hm : X.mg "range" = none) (ha : PA X [a] ta) (hs : starEach [a] X.env = [(false, eval a X.env)] := by rfl) : PI X tg (.Call (.Name "range" p) [a] [] pos) (iRng1 ta) := by
 intro pins s σ H R I h
 refine Call_ (ld_blt I hg hm boot_range (PyProof.Rows.callWith_type1 (thn (ha pos pins s σ H _ I h) ?_) hs rfl))
 rintro us s1 ⟨vs, H1, I1, r1, q1⟩
 obtain ⟨j, e, q1, q2, q⟩ := q1
 subst e
 cases r1 with
 | cons r rr =>
  cases rr
  obtain ⟨t, rfl⟩ := r
  exact call_range_1 (range_it I1 (by omega) (by omega) q1 q2 (by simpa using q))
def tFor (wi : TI) (g : TG) (tb : TS) : TS := fun D σ H => wi σ H fun J H1 => ∃ W : Nat → Nat → St → Hp → Prop, (∃ m, W 0 m σ H1) ∧ ∀ i m σ H, W i m σ H →
 (J.stop i H ∧ D.nx σ H) ∨ (J.go i H ∧ ∃ N : St → Hp → Prop, (∀ σ' H', N σ' H' → ∃ m', m' < m ∧ W (i + 1) m' σ' H') ∧ ∀ x H', J.yld i H x H' → g x σ H' fun σ2 H2 => tb { D with nx := N, ct := N, bk := D.nx } σ2 H2)
def pinsAt (fp : List Addr) (h : Heap) : List (Addr × Obj) := fp.filterMap fun b => (h.get? b).map fun o => (b, o)
theorem mem_pinsAt {fp : List Addr} {h : Heap} {b : Addr} {o : Obj} (hb : b ∈ fp) (e : h.get? b = some o) : (b, o) ∈ pinsAt fp h := List.mem_filterMap.mpr ⟨b, hb, by rw [e]; rfl⟩
theorem of_pinsAt {fp : List Addr} {h : Heap} {p : Addr × Obj} (hp : p ∈ pinsAt fp h) : p.1 ∈ fp ∧ h.get? p.1 = some p.2 := by
 obtain ⟨b, hb, e⟩ := List.mem_filterMap.mp hp
 cases q : h.get? b with
 | none => rw [q] at e; cases e
 | some o =>
  rw [q] at e
  have e' : (b, o) = p := Option.some.inj e
  subst e'
  exact ⟨hb, q⟩
theorem Inv.pinned {pins : List (Addr × Obj)} {σ : St} {H : Hp} {s : Shared} {fp : List Addr} (I : Inv X pins σ H s) (hf : ∀ b ∈ fp, FpOk X pins H b) (ho : ∀ b ∈ fp, ∃ o, s.heap.get? b = some o ∧ ∀ v, o.data ≠ .cell v) : Inv X (pins ++ pinsAt fp s.heap) σ H s :=
 I.pins_of fun p hp => (List.mem_append.mp hp).elim (fun z => I.pin p (List.mem_append_right _ z)) fun z => by
  obtain ⟨hb, e⟩ := of_pinsAt z
  obtain ⟨f0, f1, f2, _⟩ := hf p.1 hb
  obtain ⟨o, e', d⟩ := ho p.1 hb
  rw [e] at e'; cases e'
  exact ⟨e, f0, f1, f2, d⟩
theorem Inv.unpinned {pins pl : List (Addr × Obj)} {σ : St} {H : Hp} {s : Shared} (I : Inv X (pins ++ pl) σ H s) : Inv X pins σ H s := I.pins_of fun p hp => I.pin p (List.mem_append_right _ (List.mem_append_left _ hp))
theorem ps_for {iter : Expr} {body : List Stmt} {wi : TI} {g : TG} {tb : TS} {pos : Pos} (hp : PassesOwn (model X.prog X.w) X.A X.env X.xe) (hc : X.calm = true) (hi : PI X tg iter wi) (hg : PG X tg g) (hb : PSs X body tb)
  (hs : ∀ x, foldedSetIterable iter X.env x = pure x := by intro _; rfl) : PS X (.For tg iter body [] pos) (tFor wi g tb) := by
 intro pins s σ H D I h
 refine wpAny_For (thn (hi pins s σ H _ I h) fun v s1 h1 => thn h1 fun itv s2 h2 => ?_) hs
 obtain ⟨it, fp, tn, J, H2, e, I2, T, st2, f2, W, ⟨m0, w0⟩, turn⟩ := h2
 subst e
 have stat : ∀ {H' : Hp}, (∀ b ∈ fp, H' b = none) → ∀ b ∈ fp, FpOk X pins H' b := fun hn b hb => ⟨hn b hb, (f2 b hb).2⟩
 refine codeAny_forLoop_any (fun n s' => ∃ i σ' H', Inv X pins σ' H' s' ∧ tn i s'.heap ∧ (∀ b ∈ fp, H' b = none) ∧ W i n σ' H') ?_ m0 ⟨0, σ, H2, I2, st2, fun b hb => (f2 b hb).1, w0⟩
 rintro n s3 ⟨i, σ3, H3, I3, st3, fr3, w3⟩
 rcases turn i n σ3 H3 w3 with ⟨stop, qn⟩ | ⟨go, N, hN, step⟩
 ·refine wpAny_passesOwn hp (thn (T.done X rfl rfl rfl hc i pins s3 σ3 H3 X.xe I3 (stat fr3) st3 stop) ?_)
  rintro r s4 ⟨hr, I4⟩
  subst hr
  exact wpAny_execs_nil ⟨σ3, H3, I4, qn⟩
 ·refine wpAny_passesOwn hp (thn (T.item X rfl rfl rfl hc i pins s3 σ3 H3 X.xe I3 (stat fr3) st3 go) ?_)
  rintro r s4 ⟨u, hr, h4⟩
  subst hr
  refine wpAny_passesOwn hp (thn h4 ?_)
  rintro _ s5 ⟨x, H5, I5, r5, y5, st5, fr5⟩
  have I5' := I5.pinned (stat fr5) (T.obj _ _ st5)
  refine wpAny_passesOwn hp (thn (hg _ s5 σ3 H5 x u _ I5' r5 (step x H5 y5)) ?_)
  rintro _ s6 ⟨σ6, H6, I6, q6⟩
  refine wpAny_passesOwn hp (thn (hb _ s6 σ6 H6 _ I6 q6) fun f s7 q7 => ?_)
  have again : ∀ {σ7 : St} {H7 : Hp}, Inv X (pins ++ pinsAt fp s5.heap) σ7 H7 s7 → N σ7 H7 → ∃ m, m < n ∧ ∃ i σ' H', Inv X pins σ' H' s7 ∧ tn i s7.heap ∧ (∀ b ∈ fp, H' b = none) ∧ W i m σ' H' := fun {σ7 H7} I7 n7 => by
   obtain ⟨m', hm, w7⟩ := hN σ7 H7 n7
   refine ⟨m', hm, i + 1, σ7, H7, I7.unpinned, T.keep _ _ _ st5 fun b hb o e => (I7.pin (b, o) (List.mem_append_right _ (List.mem_append_right _ (mem_pinsAt hb e)))).1, fun b hb => ?_, w7⟩
   obtain ⟨o, e, d⟩ := T.obj _ _ st5 b hb
   exact (I7.pin (b, o) (List.mem_append_right _ (List.mem_append_right _ (mem_pinsAt hb e)))).2.1
  cases f with
  | next => obtain ⟨σ7, H7, I7, n7⟩ := q7; exact again I7 n7
  | cont => obtain ⟨σ7, H7, I7, n7⟩ := q7; exact again I7 n7
  | brk => obtain ⟨σ7, H7, I7, q7⟩ := q7; exact ⟨σ7, H7, I7.unpinned, q7⟩
  | ret v => obtain ⟨x7, σ7, H7, I7, r7, q7⟩ := q7; exact ⟨x7, σ7, H7, I7.unpinned, r7, q7⟩
end
theorem for_list {K : PySem.W.Frag} {a : Addr} {xs : List V} {g : TG} {tb : TS} {D : Ends} {σ : St} {H : Hp} (Pv : Nat → St → Hp → Prop) (h0 : Pv 0 σ H) (hl : ∀ i σ H, i ≤ xs.length → Pv i σ H → SqL K H a xs)
  (hs : ∀ i x σ H, xs[i]? = some x → Pv i σ H → g x σ H fun σ2 H2 => tb { D with nx := Pv (i + 1), ct := Pv (i + 1), bk := D.nx } σ2 H2) (hd : ∀ σ H, Pv xs.length σ H → D.nx σ H) :
  ∃ W : Nat → Nat → St → Hp → Prop, (∃ m, W 0 m σ H) ∧ ∀ i m σ H, W i m σ H →
   ((Itl K a).stop i H ∧ D.nx σ H) ∨ ((Itl K a).go i H ∧ ∃ N : St → Hp → Prop, (∀ σ' H', N σ' H' → ∃ m', m' < m ∧ W (i + 1) m' σ' H') ∧ ∀ x H', (Itl K a).yld i H x H' → g x σ H' fun σ2 H2 => tb { D with nx := N, ct := N, bk := D.nx } σ2 H2) := by
 refine ⟨fun i m σ H => m = xs.length - i ∧ i ≤ xs.length ∧ Pv i σ H, ⟨xs.length, by simp, Nat.zero_le _, h0⟩, ?_⟩
 rintro i m σ H ⟨rfl, hi, p⟩
 have q := hl i σ H hi p
 by_cases hlt : i < xs.length
 ·refine .inr ⟨⟨xs, xs[i], q, by simp [hlt]⟩, Pv (i + 1), fun σ' H' p' => ⟨xs.length - (i + 1), by omega, rfl, hlt, p'⟩, fun x H' y => ?_⟩
  obtain ⟨e, y⟩ := y
  subst e
  exact hs i x σ _ (y xs q) p
 ·have e : i = xs.length := by omega
  subst e
  exact .inl ⟨⟨xs, q, Nat.le_refl _⟩, hd σ H p⟩
theorem for_tup {K : PySem.W.Frag} {a : Addr} {xs : List V} {g : TG} {tb : TS} {D : Ends} {σ : St} {H : Hp} (Pv : Nat → St → Hp → Prop) (h0 : Pv 0 σ H) (hl : ∀ i σ H, i ≤ xs.length → Pv i σ H → SqT K H a xs)
  (hs : ∀ i x σ H, xs[i]? = some x → Pv i σ H → g x σ H fun σ2 H2 => tb { D with nx := Pv (i + 1), ct := Pv (i + 1), bk := D.nx } σ2 H2) (hd : ∀ σ H, Pv xs.length σ H → D.nx σ H) :
  ∃ W : Nat → Nat → St → Hp → Prop, (∃ m, W 0 m σ H) ∧ ∀ i m σ H, W i m σ H →
   ((Itt K a).stop i H ∧ D.nx σ H) ∨ ((Itt K a).go i H ∧ ∃ N : St → Hp → Prop, (∀ σ' H', N σ' H' → ∃ m', m' < m ∧ W (i + 1) m' σ' H') ∧ ∀ x H', (Itt K a).yld i H x H' → g x σ H' fun σ2 H2 => tb { D with nx := N, ct := N, bk := D.nx } σ2 H2) := by
 refine ⟨fun i m σ H => m = xs.length - i ∧ i ≤ xs.length ∧ Pv i σ H, ⟨xs.length, by simp, Nat.zero_le _, h0⟩, ?_⟩
 rintro i m σ H ⟨rfl, hi, p⟩
 have q := hl i σ H hi p
 by_cases hlt : i < xs.length
 ·refine .inr ⟨⟨xs, xs[i], q, by simp [hlt]⟩, Pv (i + 1), fun σ' H' p' => ⟨xs.length - (i + 1), by omega, rfl, hlt, p'⟩, fun x H' y => ?_⟩
  obtain ⟨e, y⟩ := y
  subst e
  exact hs i x σ _ (y xs q) p
 ·have e : i = xs.length := by omega
  subst e
  exact .inl ⟨⟨xs, q, Nat.le_refl _⟩, hd σ H p⟩
theorem for_range {lo : Int} {n : Nat} {g : TG} {tb : TS} {D : Ends} {σ : St} {H : Hp} (Pv : Nat → St → Hp → Prop) (h0 : Pv 0 σ H)
  (hs : ∀ i σ H, i < n → Pv i σ H → g (.int (lo + i)) σ H fun σ2 H2 => tb { D with nx := Pv (i + 1), ct := Pv (i + 1), bk := D.nx } σ2 H2) (hd : ∀ σ H, Pv n σ H → D.nx σ H) :
  ∃ W : Nat → Nat → St → Hp → Prop, (∃ m, W 0 m σ H) ∧ ∀ i m σ H, W i m σ H →
   ((Itr lo n).stop i H ∧ D.nx σ H) ∨ ((Itr lo n).go i H ∧ ∃ N : St → Hp → Prop, (∀ σ' H', N σ' H' → ∃ m', m' < m ∧ W (i + 1) m' σ' H') ∧ ∀ x H', (Itr lo n).yld i H x H' → g x σ H' fun σ2 H2 => tb { D with nx := N, ct := N, bk := D.nx } σ2 H2) := by
 refine ⟨fun i m σ H => m = n - i ∧ i ≤ n ∧ Pv i σ H, ⟨n, by simp, Nat.zero_le _, h0⟩, ?_⟩
 rintro i m σ H ⟨rfl, hi, p⟩
 by_cases hlt : i < n
 ·refine .inr ⟨hlt, Pv (i + 1), fun σ' H' p' => ⟨n - (i + 1), by omega, rfl, hlt, p'⟩, fun x H' y => ?_⟩
  obtain ⟨e, y⟩ := y
  subst e y
  exact hs i σ _ hlt p
 ·have e : i = n := by omega
  subst e
  exact .inl ⟨Nat.le_refl _, hd σ H p⟩
abbrev R2 := V → V → Hp → VK → Prop
def OpR (X : Cx) (f : Value → Value → Sem Value) (r : R2) : Prop :=
 ∀ (pins : List (Addr × Obj)) (s : Shared) (σ : St) (H : Hp) (x y : V) (v u : Value) (Q : VK), Inv X pins σ H s → RelV x v → RelV y u → r x y H Q →
  wpAny (model X.prog X.w) X.A (f v u) (EP X pins σ Q) X.xe s
def UnR (X : Cx) (f : Value → Sem Value) (r : V → Hp → VK → Prop) : Prop :=
 ∀ (pins : List (Addr × Obj)) (s : Shared) (σ : St) (H : Hp) (x : V) (v : Value) (Q : VK), Inv X pins σ H s → RelV x v → r x H Q →
  wpAny (model X.prog X.w) X.A (f v) (EP X pins σ Q) X.xe s
def CallR (X : Cx) (f : Value) (r : List V → Hp → VK → Prop) : Prop :=
 ∀ (pins : List (Addr × Obj)) (s : Shared) (σ : St) (H : Hp) (xs : List V) (us : List Value) (Q : VK), Inv X pins σ H s → Vals xs us → r xs H Q →
  wpAny (model X.prog X.w) X.A (call f us) (EP X pins σ Q) X.xe s
def TruR (X : Cx) (r : V → Hp → (Bool → Hp → Prop) → Prop) : Prop :=
 ∀ (pins : List (Addr × Obj)) (s : Shared) (σ : St) (H : Hp) (x : V) (v : Value) (Q : Bool → Hp → Prop), Inv X pins σ H s → RelV x v → r x H Q →
  wpAny (model X.prog X.w) X.A (truthy v) (TP X pins σ Q) X.xe s
def tOp (r : R2) (ta tb : TE) : TE := fun σ H Q => ta σ H fun x H1 => tb σ H1 fun y H2 => r x y H2 Q
def tUn (r : V → Hp → VK → Prop) (ta : TE) : TE := fun σ H Q => ta σ H fun x H1 => r x H1 Q
def rI (C : Int → Int → Prop) (g : Int → Int → V) : R2 := fun x y H Q => ∃ i j, x = .int i ∧ y = .int j ∧ C i j ∧ Q (g i j) H
def rI0 (g : Int → Int → V) : R2 := fun x y H Q => ∃ i j, x = .int i ∧ y = .int j ∧ Q (g i j) H
def rU (g : Int → V) : V → Hp → VK → Prop := fun x H Q => ∃ i, x = .int i ∧ Q (g i) H
section
variable {X : Cx} {a b c : Expr} {ta tb tc : TE} {pos : Pos}
theorem binT (ha : PE X a ta) (hb : PE X b tb) {pins : List (Addr × Obj)} {s : Shared} {σ : St} {H : Hp} {R : V → V → Hp → Prop} (I : Inv X pins σ H s)
  (h : ta σ H fun x H1 => tb σ H1 fun y H2 => R x y H2) {Q : Value → Shared → Prop} {f : Value → Value → Sem Value}
  (hf : ∀ v u s2 x y H2, Inv X pins σ H2 s2 → RelV x v → RelV y u → R x y H2 → wpAny (model X.prog X.w) X.A (f v u) Q X.xe s2) :
  wpAny (model X.prog X.w) X.A (eval a X.env) (fun v s₁ => wpAny (model X.prog X.w) X.A (eval b X.env) (fun u s₂ => wpAny (model X.prog X.w) X.A (f v u) Q X.xe s₂) X.xe s₁) X.xe s := by
 refine thn (ha pins s σ H _ I h) ?_
 rintro v s1 ⟨x, H1, I1, r1, q1⟩
 refine thn (hb pins s1 σ H1 _ I1 q1) ?_
 rintro u s2 ⟨y, H2, I2, r2, q2⟩
 exact hf v u s2 x y H2 I2 r1 r2 q2
theorem pe_op {op : Operator} {r : R2} (ho : OpR X (binaryOp op) r) (ha : PE X a ta) (hb : PE X b tb) : PE X (.BinOp a op b pos) (tOp r ta tb) := by
 intro pins s σ H Q I h
 exact wpAny_BinOp (binT ha hb I h fun v u s2 x y H2 I2 rx ry q => ho pins s2 σ H2 x y v u Q I2 rx ry q)
theorem pe_un {op : UnaryOp} {r : V → Hp → VK → Prop} (ho : UnR X (unaryOp op) r) (ha : PE X a ta) : PE X (.UnaryOp op a pos) (tUn r ta) := by
 intro pins s σ H Q I h
 refine UnaryOp_ (thn (ha pins s σ H _ I h) ?_)
 rintro v s1 ⟨x, H1, I1, r1, q1⟩
 exact ho pins s1 σ H1 x v Q I1 r1 q1
theorem opI {f : Value → Value → Sem Value} {C : Int → Int → Prop} {g : Int → Int → Int}
  (rule : ∀ (i j : Int) (t u : Tok) (s : Shared) (Q : Value → Shared → Prop) (E : Value → Shared → Prop), C i j → Q (.int (g i j) s.toks) { s with toks := s.toks + 1 } → wpAny (model X.prog X.w) X.A (f (.int i t) (.int j u)) Q E s) :
  OpR X f (rI C fun i j => .int (g i j)) := by
 intro pins s σ H x y v u Q I rx ry h
 obtain ⟨i, j, rfl, rfl, hc, q⟩ := h
 obtain ⟨t, rfl⟩ := rx
 obtain ⟨t', rfl⟩ := ry
 exact rule i j t t' s _ _ hc ⟨.int (g i j), H, I.tok _, ⟨_, rfl⟩, q⟩
theorem opI0 {f : Value → Value → Sem Value} {g : Int → Int → Int}
  (rule : ∀ (i j : Int) (t u : Tok) (s : Shared) (Q : Value → Shared → Prop) (E : Value → Shared → Prop), Q (.int (g i j) s.toks) { s with toks := s.toks + 1 } → wpAny (model X.prog X.w) X.A (f (.int i t) (.int j u)) Q E s) :
  OpR X f (rI0 fun i j => .int (g i j)) := by
 intro pins s σ H x y v u Q I rx ry h
 obtain ⟨i, j, rfl, rfl, q⟩ := h
 obtain ⟨t, rfl⟩ := rx
 obtain ⟨t', rfl⟩ := ry
 exact rule i j t t' s _ _ ⟨.int (g i j), H, I.tok _, ⟨_, rfl⟩, q⟩
theorem opB0 {f : Value → Value → Sem Value} {g : Int → Int → Bool}
  (rule : ∀ (i j : Int) (t u : Tok) (s : Shared) (Q : Value → Shared → Prop) (E : Value → Shared → Prop), Q (.bool (g i j)) s → wpAny (model X.prog X.w) X.A (f (.int i t) (.int j u)) Q E s) :
  OpR X f (rI0 fun i j => .bl (g i j)) := by
 intro pins s σ H x y v u Q I rx ry h
 obtain ⟨i, j, rfl, rfl, q⟩ := h
 obtain ⟨t, rfl⟩ := rx
 obtain ⟨t', rfl⟩ := ry
 exact rule i j t t' s _ _ ⟨.bl (g i j), H, I, rfl, q⟩
def CPow (i j : Int) : Prop := 0 ≤ j ∧ j ≤ 1000000 ∧ i.natAbs < 2 ^ 64
def CMul (i j : Int) : Prop := (-(2 ^ 64) < i ∧ i < 2 ^ 64) ∨ (-(2 ^ 64) < j ∧ j < 2 ^ 64)
theorem CMul.ok {i j : Int} (h : CMul i j) : IntMulOk i j := by
 rcases h with ⟨h1, h2⟩ | ⟨h1, h2⟩
 ·exact .of_left (intBits_le_64 h1 h2)
 ·exact .of_right (intBits_le_64 h1 h2)
theorem op_add : OpR X (binaryOp .Add) (rI0 fun i j => .int (i + j)) := opI0 fun _ _ _ _ _ _ _ q => add_int q
theorem op_sub : OpR X (binaryOp .Sub) (rI0 fun i j => .int (i - j)) := opI0 fun _ _ _ _ _ _ _ q => sub_int q
theorem op_mul : OpR X (binaryOp .Mult) (rI CMul fun i j => .int (i * j)) := opI fun _ _ _ _ _ _ _ hc q => mul_int q hc.ok
theorem op_mod : OpR X (binaryOp .Mod) (rI (fun _ j => 0 < j) fun i j => .int (i % j)) := opI fun i j _ _ _ _ _ hc q => by
 have h1 : (0 : Int) < j := hc
 exact mod_int' (by omega) (by rw [Int.fmod_eq_emod_of_nonneg i (by omega)]; exact q)
theorem op_pow : OpR X (binaryOp .Pow) (rI CPow fun i j => .int (i ^ j.toNat)) := opI fun _ _ _ _ _ _ _ hc q => pow_int_small hc.1 hc.2.1 hc.2.2 q
theorem unI {f : Value → Sem Value} {g : Int → Int}
  (rule : ∀ (i : Int) (t : Tok) (s : Shared) (Q : Value → Shared → Prop) (E : Value → Shared → Prop), Q (.int (g i) s.toks) { s with toks := s.toks + 1 } → wpAny (model X.prog X.w) X.A (f (.int i t)) Q E s) :
  UnR X f (rU fun i => .int (g i)) := by
 intro pins s σ H x v Q I rx h
 obtain ⟨i, rfl, q⟩ := h
 obtain ⟨t, rfl⟩ := rx
 exact rule i t s _ _ ⟨.int (g i), H, I.tok _, ⟨_, rfl⟩, q⟩
theorem un_neg : UnR X (unaryOp .USub) (rU fun i => .int (-i)) := unI fun _ _ _ _ _ q => neg_int q
end
def scal : V → V → Bool
 | .non, .non => true | .non, .int _ => true | .int _, .non => true | .non, .bl _ => true | .bl _, .non => true | .non, .str _ => true | .str _, .non => true
 | .int _, .int _ => true | .bl _, .bl _ => true | .str _, .str _ => true | .byt _, .byt _ => true
 | .int _, .str _ => true | .str _, .int _ => true | .bl _, .str _ => true | .str _, .bl _ => true
 | _, _ => false
def rEq : R2 := fun x y H Q => scal x y = true ∧ Q (.bl (decide (x = y))) H
def rNe : R2 := fun x y H Q => scal x y = true ∧ Q (.bl (!decide (x = y))) H
theorem dec_int {i j : Int} : decide (V.int i = V.int j) = (i == j) := by
 rw [Bool.eq_iff_iff]
 simp
theorem dec_bl {i j : Bool} : decide (V.bl i = V.bl j) = (i == j) := by
 rw [Bool.eq_iff_iff]
 simp
theorem dec_str {i j : Str} : decide (V.str i = V.str j) = (i == j) := by
 rw [Bool.eq_iff_iff]
 simp
theorem dec_byt {i j : Array UInt8} : decide (V.byt i = V.byt j) = (i.toList == j.toList) := by
 rw [Bool.eq_iff_iff]
 cases i
 cases j
 simp
section
variable {X : Cx} {a b c : Expr} {ta tb tc : TE} {pos : Pos}
theorem fin_bl {pins : List (Addr × Obj)} {σ : St} {H : Hp} {s : Shared} {Q : VK} {k k' : Bool} (I : Inv X pins σ H s) (q : Q (.bl k) H) (e : k = k') : EP X pins σ Q (.bool k') s := by
 subst e
 exact ⟨.bl k, H, I, rfl, q⟩
theorem op_eq : OpR X (compareOp .Eq) rEq := by
 intro pins s σ H x y v u Q I rx ry h
 obtain ⟨hs, q⟩ := h
 cases x with
 | non =>
  cases rx
  cases y with
  | non => cases ry; exact PySem.EqNone.eq_none_none (fin_bl I q (by simp))
  | bl j => cases ry; exact PySem.EqNone.eq_none_bool (fin_bl I q (by simp))
  | int j => obtain ⟨t', rfl⟩ := ry; exact PySem.EqNone.eq_none_int (fin_bl I q (by simp))
  | str j => obtain ⟨t', rfl⟩ := ry; exact PySem.EqNone.eq_none_str (fin_bl I q (by simp))
  | _ => exact absurd (show false = true from hs) Bool.false_ne_true
 | bl i =>
  cases rx
  cases y with
  | non => cases ry; exact PySem.EqNone.eq_bool_none (fin_bl I q (by simp))
  | bl j => cases ry; exact eq_bool (fin_bl I q dec_bl)
  | str j => obtain ⟨t', rfl⟩ := ry; exact PySem.EqMixed.eq_bool_str (fin_bl I q (by simp))
  | _ => exact absurd (show false = true from hs) Bool.false_ne_true
 | int i =>
  obtain ⟨t, rfl⟩ := rx
  cases y with
  | non => cases ry; exact PySem.EqNone.eq_int_none (fin_bl I q (by simp))
  | int j => obtain ⟨t', rfl⟩ := ry; exact eq_int (fin_bl I q dec_int)
  | str j => obtain ⟨t', rfl⟩ := ry; exact PySem.EqMixed.eq_int_str (fin_bl I q (by simp))
  | _ => exact absurd (show false = true from hs) Bool.false_ne_true
 | str i =>
  obtain ⟨t, rfl⟩ := rx
  cases y with
  | non => cases ry; exact PySem.EqNone.eq_str_none (fin_bl I q (by simp))
  | bl j => cases ry; exact PySem.EqMixed.eq_str_bool (fin_bl I q (by simp))
  | int j => obtain ⟨t', rfl⟩ := ry; exact PySem.EqMixed.eq_str_int (fin_bl I q (by simp))
  | str j => obtain ⟨t', rfl⟩ := ry; exact eq_str (fin_bl I q dec_str)
  | _ => exact absurd (show false = true from hs) Bool.false_ne_true
 | byt i =>
  obtain ⟨t, rfl⟩ := rx
  cases y with
  | byt j => obtain ⟨t', rfl⟩ := ry; exact PySem.W.eq_bytes (fin_bl I q dec_byt)
  | _ => exact absurd (show false = true from hs) Bool.false_ne_true
 | _ => cases y <;> exact absurd (show false = true from hs) Bool.false_ne_true
theorem op_ne : OpR X (compareOp .NotEq) rNe := by
 intro pins s σ H x y v u Q I rx ry h
 obtain ⟨hs, q⟩ := h
 cases x with
 | non =>
  cases rx
  cases y with
  | non => cases ry; exact PySem.EqNone.ne_none_none (fin_bl I q (by simp))
  | bl j => cases ry; exact PySem.EqNone.ne_none_bool (fin_bl I q (by simp))
  | int j => obtain ⟨t', rfl⟩ := ry; exact PySem.EqNone.ne_none_int (fin_bl I q (by simp))
  | str j => obtain ⟨t', rfl⟩ := ry; exact PySem.EqNone.ne_none_str (fin_bl I q (by simp))
  | _ => exact absurd (show false = true from hs) Bool.false_ne_true
 | bl i =>
  cases rx
  cases y with
  | non => cases ry; exact PySem.EqNone.ne_bool_none (fin_bl I q (by simp))
  | bl j => cases ry; exact ne_bool (fin_bl I q (congrArg not dec_bl))
  | str j => obtain ⟨t', rfl⟩ := ry; exact PySem.EqMixed.ne_bool_str (fin_bl I q (by simp))
  | _ => exact absurd (show false = true from hs) Bool.false_ne_true
 | int i =>
  obtain ⟨t, rfl⟩ := rx
  cases y with
  | non => cases ry; exact PySem.EqNone.ne_int_none (fin_bl I q (by simp))
  | int j => obtain ⟨t', rfl⟩ := ry; exact ne_int (fin_bl I q (congrArg not dec_int))
  | str j => obtain ⟨t', rfl⟩ := ry; exact PySem.EqMixed.ne_int_str (fin_bl I q (by simp))
  | _ => exact absurd (show false = true from hs) Bool.false_ne_true
 | str i =>
  obtain ⟨t, rfl⟩ := rx
  cases y with
  | non => cases ry; exact PySem.EqNone.ne_str_none (fin_bl I q (by simp))
  | bl j => cases ry; exact PySem.EqMixed.ne_str_bool (fin_bl I q (by simp))
  | int j => obtain ⟨t', rfl⟩ := ry; exact PySem.EqMixed.ne_str_int (fin_bl I q (by simp))
  | str j => obtain ⟨t', rfl⟩ := ry; exact ne_str (fin_bl I q (congrArg not dec_str))
  | _ => exact absurd (show false = true from hs) Bool.false_ne_true
 | byt i =>
  obtain ⟨t, rfl⟩ := rx
  cases y with
  | byt j => obtain ⟨t', rfl⟩ := ry; exact PySem.W.ne_bytes (fin_bl I q (congrArg not dec_byt))
  | _ => exact absurd (show false = true from hs) Bool.false_ne_true
 | _ => cases y <;> exact absurd (show false = true from hs) Bool.false_ne_true
theorem op_lt : OpR X (compareOp .Lt) (rI0 fun i j => .bl (decide (i < j))) := opB0 fun _ _ _ _ _ _ _ q => lt_int q
theorem op_le : OpR X (compareOp .LtE) (rI0 fun i j => .bl (decide (i ≤ j))) := opB0 fun _ _ _ _ _ _ _ q => le_int q
theorem op_gt : OpR X (compareOp .Gt) (rI0 fun i j => .bl (decide (j < i))) := opB0 fun _ _ _ _ _ _ _ q => gt_int q
theorem op_ge : OpR X (compareOp .GtE) (rI0 fun i j => .bl (decide (j ≤ i))) := opB0 fun _ _ _ _ _ _ _ q => ge_int q
theorem op_isN : OpR X (compareOp .Is) (fun x y H Q => y = .non ∧ Q (.bl (decide (x = .non))) H) := by
 intro pins s σ H x y v u Q I rx ry h
 obtain ⟨rfl, q⟩ := h
 cases ry
 refine is_none_gen (fin_bl I q ?_)
 cases x <;> first
  | (cases rx; rfl)
  | (obtain ⟨t, rfl⟩ := rx; rfl)
theorem op_notN : OpR X (compareOp .IsNot) (fun x y H Q => y = .non ∧ Q (.bl (!decide (x = .non))) H) := by
 intro pins s σ H x y v u Q I rx ry h
 obtain ⟨rfl, q⟩ := h
 cases ry
 refine isnot_none_gen (fin_bl I q ?_)
 cases x <;> first
  | (cases rx; rfl)
  | (obtain ⟨t, rfl⟩ := rx; rfl)
theorem nomark (b : Expr) {op : CmpOp} (h : op ≠ .In := by decide) (h2 : op ≠ .NotIn := by decide) : behindInMarks op b = false := by
 have e1 : (op == CmpOp.In) = false := by cases op <;> first | rfl | exact absurd rfl h
 have e2 : (op == CmpOp.NotIn) = false := by cases op <;> first | rfl | exact absurd rfl h2
 cases b <;> simp [behindInMarks, e1, e2]
theorem pe_cmpR {op : CmpOp} {r : R2} (ho : OpR X (compareOp op) r) (ha : PE X a ta) (hb : PE X b tb) (hm : behindInMarks op b = false) : PE X (.Compare a [op] [b] pos) (tOp r ta tb) := by
 intro pins s σ H Q I h
 exact wpAny_Compare1 (binT ha hb I h fun v u s2 x y H2 I2 rx ry q => ho pins s2 σ H2 x y v u Q I2 rx ry q) hm
inductive tTestI (x : V) (H : Hp) (Q : Bool → Hp → Prop) : Prop where
 | mk (k : Bool) (h1_ : x = .bl k) (h2_ : Q k H)
def tTest (t : TE) : TT := fun σ H Q => t σ H fun x H' => tTestI x H' Q
theorem pt_cmpR {op : CmpOp} {r : R2} (ho : OpR X (compareOp op) r) (ha : PE X a ta) (hb : PE X b tb) (hm : behindInMarks op b = false) : PT X (.Compare a [op] [b] pos) (tTest (tOp r ta tb)) := by
 intro pins s σ H Q I h
 refine wpAny_isTrue_Compare1 (thn (ha pins s σ H _ I h) fun v s1 ⟨x, H1, I1, r1, q1⟩ => thn (hb pins s1 σ H1 _ I1 q1) fun u s2 ⟨y, H2, I2, r2, q2⟩ =>
  thn (ho pins s2 σ H2 x y v u _ I2 r1 r2 q2) fun c s3 ⟨z, H3, I3, r3, k, e, q3⟩ => ?_) hm
 subst e
 cases r3
 exact wpAny_truthy_bool ⟨H3, I3, q3⟩
def tChain (r r' : R2) (ta tb tc : TE) : TE := fun σ H Q => ta σ H fun x H1 => tb σ H1 fun y H2 => r x y H2 fun z H3 => ∃ k, z = .bl k ∧
 (if k = true then tc σ H3 fun w' H4 => r' y w' H4 Q else Q (.bl false) H3)
theorem pt_chain {op op' : CmpOp} {r r' : R2} (ho : OpR X (compareOp op) r) (ho' : OpR X (compareOp op') r') (ha : PE X a ta) (hb : PE X b tb) (hc : PE X c tc)
  (hm : lastMarks [op, op'] [b, c] = false := by with_unfolding_all rfl) : PT X (.Compare a [op, op'] [b, c] pos) (tTest (tChain r r' ta tb tc)) := by
 intro pins s σ H Q I h
 refine isTrue_chain (thn (ha pins s σ H _ I h) fun v s1 ⟨x, H1, I1, r1, q1⟩ => test_link (thn (hb pins s1 σ H1 _ I1 q1) fun u s2 ⟨y, H2, I2, r2, q2⟩ =>
  thn (ho pins s2 σ H2 x y v u _ I2 r1 r2 q2) fun d s3 ⟨z, H3, I3, r3, k, e, q3⟩ => ?_)) hm
 subst e
 cases r3
 refine wpAny_truthy_bool ?_
 cases k with
 | false =>
  obtain ⟨k', e', q'⟩ := q3
  cases e'
  exact ite_ff ⟨H3, I3, q'⟩
 | true =>
  refine ite_tt (test_last (thn (hc pins s3 σ H3 _ I3 q3) ?_))
  rintro w' s4 ⟨z', H4, I4, r4, q4⟩
  refine thn (ho' pins s4 σ H4 y z' u w' _ I4 r2 r4 q4) ?_
  rintro d' s5 ⟨z2, H5, I5, r5, k2, e2, q5⟩
  subst e2
  cases r5
  exact wpAny_truthy_bool ⟨H5, I5, q5⟩
def TruV (K : PySem.W.Frag) (x : V) (H : Hp) (k : Bool) : Prop :=
 match x with
 | .non => k = false
 | .bl b => k = b
 | .int i => k = (i != 0)
 | .str y => y.length ≤ sizeLine ∧ k = ((y.length : Int) != 0)
 | .byt y => y.size ≤ sizeLine ∧ k = ((y.size : Int) != 0)
 | .ref p => (∃ xs, SqL K H p xs ∧ k = !xs.isEmpty) ∨ (∃ xs, SqT K H p xs ∧ k = !xs.isEmpty) ∨ ∃ kvs, H p = some (.dK kvs) ∧ k = !kvs.isEmpty
 | _ => False
theorem isEmpty_kv {κ : Type} {kvs : List (κ × V)} {vs : List (κ × Value)} (r : KV kvs vs) : (!vs.isEmpty) = !kvs.isEmpty := by
 cases r <;> rfl
theorem isEmpty_of {xs : List V} {its : List Value} (r : Vals xs its) : (!its.toArray.isEmpty) = !xs.isEmpty := by
 cases r <;> simp
theorem line63 : (sizeLine : Nat) < 2 ^ 63 := by rw [sizeLine_eq]; decide
theorem tru_ok : TruR X (fun x H Q => ∃ k, TruV X.K x H k ∧ Q k H) := by
 intro pins s σ H x v Q I rx h
 obtain ⟨k, e, q⟩ := h
 have hl := line63
 have hs : sizeLine = 16777216 := sizeLine_eq
 cases x with
 | non =>
  cases rx
  have e' : k = false := e
  subst e'
  exact truthy_none ⟨H, I, q⟩
 | bl b =>
  cases rx
  have e' : k = b := e
  subst e'
  exact wpAny_truthy_bool ⟨H, I, q⟩
 | int i =>
  obtain ⟨t, rfl⟩ := rx
  have e' : k = (i != 0) := e
  subst e'
  exact PySem.P.truthy_int ⟨H, I, q⟩
 | str y =>
  obtain ⟨t, rfl⟩ := rx
  obtain ⟨hy, e'⟩ : y.length ≤ sizeLine ∧ k = ((y.length : Int) != 0) := e
  subst e'
  exact PySem.P.truthy_str (by omega) ⟨H, I.tok _, q⟩
 | byt y =>
  obtain ⟨t, rfl⟩ := rx
  obtain ⟨hy, e'⟩ : y.size ≤ sizeLine ∧ k = ((y.size : Int) != 0) := e
  subst e'
  exact PySem.W.truthy_bytes (by omega) ⟨H, I.tok _, q⟩
 | ref p =>
  cases rx
  have e' : (∃ xs, SqL X.K H p xs ∧ k = !xs.isEmpty) ∨ (∃ xs, SqT X.K H p xs ∧ k = !xs.isEmpty) ∨ ∃ kvs, H p = some (.dK kvs) ∧ k = !kvs.isEmpty := e
  rcases e' with ⟨xs, hx, e'⟩ | ⟨xs, hx, e'⟩ | ⟨kvs, hx, e'⟩
  ·subst e'
   obtain ⟨its, r, pl, hz⟩ := I.list hx
   have hlen := r.length
   exact wpAny_truthy_list pl.isList (by simp only [List.size_toArray]; omega) ⟨H, I.tok _, by rw [isEmpty_of r]; exact q⟩
  ·subst e'
   obtain ⟨its, r, pl, hz⟩ := I.tuple hx
   have hlen := r.length
   exact truthy_tuple pl (by simp only [List.size_toArray]; omega) ⟨H, I.tok _, by rw [isEmpty_of r]; exact q⟩
  ·subst e'
   obtain ⟨hz, hS, vs, r, m⟩ : kvs.length ≤ sizeLine ∧ (p == sysModules) = false ∧ ∃ vs, KV kvs vs ∧ s.heap.DictOf (mixKind X.prog X.w) p vs := I.hok p _ hx
   have hlen : kvs.length = vs.length := Paired.length r
   exact wpAny_truthy_dict hS m (by omega) ⟨H, I.tok _, by rw [isEmpty_kv r]; exact q⟩
 | _ => exact (show False from e).elim
theorem pt_truth (ha : PE X a ta) (he : ∀ whole, isTrue a X.env whole = (do let v ← whole; standAt a.pos; holding [v] (truthy v))) :
  PT X a (fun σ H Q => ta σ H fun x H' => ∃ k, TruV X.K x H' k ∧ Q k H') := by
 intro pins s σ H Q I h
 exact isTrue_plain (thn (ha pins s σ H _ I h) fun v s1 ⟨x, H1, I1, r1, q1⟩ => tru_ok pins s1 σ H1 x v Q I1 r1 q1) (he _)
theorem op_add_str : OpR X (binaryOp .Add) (fun x y H Q => ∃ i j, x = .str i ∧ y = .str j ∧ i.length + j.length ≤ sizeLine ∧ Q (.str (i ++ j)) H) := by
 intro pins s σ H x y v u Q I rx ry h
 obtain ⟨i, j, rfl, rfl, hz, q⟩ := h
 obtain ⟨t, rfl⟩ := rx
 obtain ⟨t', rfl⟩ := ry
 exact add_str (fun t' tk => ⟨.str (i ++ j), H, I.tok _, ⟨_, rfl⟩, q⟩) hz
theorem vals1 {x : V} {us : List Value} (r : Vals [x] us) : ∃ u, us = [u] ∧ RelV x u := by
 cases r with
 | cons r1 r2 => cases r2; exact ⟨_, rfl, r1⟩
theorem vals2 {x y : V} {us : List Value} (r : Vals [x, y] us) : ∃ u w', us = [u, w'] ∧ RelV x u ∧ RelV y w' := by
 cases r with
 | cons r1 r2 =>
  cases r2 with
  | cons r3 r4 => cases r4; exact ⟨_, _, rfl, r1, r3⟩
theorem call_abs : CallR X (.builtin "abs") (fun xs H Q => ∃ i, xs = [.int i] ∧ Q (.int (if i < 0 then -i else i)) H) := by
 intro pins s σ H xs us Q I r h
 obtain ⟨i, rfl, q⟩ := h
 obtain ⟨u, rfl, t, rfl⟩ := vals1 r
 exact call_abs_int fun u tk => ⟨.int (if i < 0 then -i else i), H, I.tok _, ⟨_, rfl⟩, q⟩
theorem call_int1 : CallR X (.type "int") (fun xs H Q => (∃ i, xs = [.int i] ∧ Q (.int i) H) ∨ ∃ k, xs = [.bl k] ∧ Q (.int (if k then 1 else 0)) H) := by
 intro pins s σ H xs us Q I r h
 rcases h with ⟨i, rfl, q⟩ | ⟨k, rfl, q⟩
 ·obtain ⟨u, rfl, t, rfl⟩ := vals1 r
  exact call_int_int ⟨.int i, H, I, ⟨_, rfl⟩, q⟩
 ·obtain ⟨u, rfl, r1⟩ := vals1 r
  cases r1
  exact call_int_bool ⟨.int (if k then 1 else 0), H, I.tok _, ⟨_, rfl⟩, q⟩
theorem call_bool1 : CallR X (.type "bool") (fun xs H Q => (∃ i, xs = [.int i] ∧ Q (.bl (i != 0)) H) ∨ ∃ k, xs = [.bl k] ∧ Q (.bl k) H) := by
 intro pins s σ H xs us Q I r h
 rcases h with ⟨i, rfl, q⟩ | ⟨k, rfl, q⟩
 ·obtain ⟨u, rfl, t, rfl⟩ := vals1 r
  exact call_bool_int ⟨.bl (i != 0), H, I, rfl, q⟩
 ·obtain ⟨u, rfl, r1⟩ := vals1 r
  cases r1
  exact call_bool_bool ⟨.bl k, H, I, rfl, q⟩
def LenV (K : PySem.W.Frag) (x : V) (H : Hp) (n : Nat) : Prop :=
 match x with
 | .str y => y.length ≤ sizeLine ∧ n = y.length
 | .byt y => y.size ≤ sizeLine ∧ n = y.size
 | .ref p => (∃ xs, SqL K H p xs ∧ n = xs.length) ∨ ∃ xs, SqT K H p xs ∧ n = xs.length
 | _ => False
theorem call_len : CallR X (.builtin "len") (fun xs H Q => ∃ x n, xs = [x] ∧ LenV X.K x H n ∧ Q (.int n) H) := by
 intro pins s σ H xs us Q I r h
 obtain ⟨x, n, rfl, e, q⟩ := h
 obtain ⟨u, rfl, rx⟩ := vals1 r
 have hl := line63
 have hs : sizeLine = 16777216 := sizeLine_eq
 cases x with
 | str y =>
  obtain ⟨t, rfl⟩ := rx
  obtain ⟨hy, e'⟩ : y.length ≤ sizeLine ∧ n = y.length := e
  subst e'
  exact len_str (by omega) ⟨.int _, H, I.tok _, ⟨_, rfl⟩, q⟩
 | byt y =>
  obtain ⟨t, rfl⟩ := rx
  obtain ⟨hy, e'⟩ : y.size ≤ sizeLine ∧ n = y.size := e
  subst e'
  exact PySem.W.len_bytes (by omega) ⟨.int _, H, I.tok _, ⟨_, rfl⟩, q⟩
 | ref p =>
  cases rx
  have e' : (∃ xs, SqL X.K H p xs ∧ n = xs.length) ∨ ∃ xs, SqT X.K H p xs ∧ n = xs.length := e
  rcases e' with ⟨xs, hx, e'⟩ | ⟨xs, hx, e'⟩
  ·subst e'
   obtain ⟨its, r', pl, hz⟩ := I.list hx
   have hlen := r'.length
   exact Calls.call_len_list pl.isList (by simp only [List.size_toArray]; omega) ⟨.int xs.length, H, I.tok _, ⟨_, by simp only [List.size_toArray]; rw [hlen]⟩, q⟩
  ·subst e'
   obtain ⟨its, r', pl, hz⟩ := I.tuple hx
   have hlen := r'.length
   exact len_tuple pl (by simp only [List.size_toArray]; omega) ⟨.int xs.length, H, I.tok _, ⟨_, by simp only [List.size_toArray]; rw [hlen]⟩, q⟩
 | _ => exact (show False from e).elim
end
structure ObjM (h : Heap) (x dx C : Addr) (mA : Str → Option Value) : Prop where
 obj : h.get? x = some (PySem.W.instObj C dx)
 ns : h.Ns1 dx mA
 ne : dx ≠ x
theorem lookIn_ns {h : Heap} {dx : Addr} {mA : Str → Option Value} (n : h.Ns1 dx mA) : ∃ od, h.get? dx = some od ∧ ∀ name, PySem.W.lookIn name od = some (mA name) := by
 obtain ⟨o, es, ep, ho, hd, hk, _, hm⟩ := n
 refine ⟨o, ho, fun name => ?_⟩
 have e := hm name
 unfold nsFind findBy at e
 rw [← Array.find?_toList] at e
 unfold PySem.W.lookIn
 rw [hd]
 dsimp only
 split
 ·rename_i y q
  rw [q] at e
  exact congrArg some e
 ·rename_i q
  rw [q] at e
  have a : es.toList.any (·.refKey) = false := by
   rw [List.any_eq_false]
   intro y hy
   obtain ⟨z, t, hkey⟩ := hk y (Array.mem_toList_iff.mp hy)
   simp [DictEntry.refKey, hkey]
  have a' : ¬ es.toList.any (·.refKey) = true := by rw [a]; exact Bool.false_ne_true
  rw [if_neg a']
  exact congrArg some e
theorem ObjM.look {h : Heap} {x dx C : Addr} {mA : Str → Option Value} (I : ObjM h x dx C mA) : ∃ od, PySem.W.InstAt h x (PySem.W.instObj C dx) C (some od) ∧ ∀ name, PySem.W.lookIn name od = some (mA name) :=
 let ⟨od, ho, hl⟩ := lookIn_ns I.ns
 ⟨od, ⟨I.obj, rfl, rfl, ho⟩, hl⟩
theorem RelO.some_of {v : V} {o : Option Value} (r : RelO (some v) o) : ∃ u, o = some u ∧ RelV v u := by
 cases o with
 | none => exact (show False from r).elim
 | some u => exact ⟨u, rfl, r⟩
section
variable {P : Program} {w : World} {H H' : Hp} {h h' : Heap} {a C dx : Addr} {fs fs' : List (Str × V)}
theorem ins_get (hok : HOk P w H h) (e : H a = some (.ins C dx fs)) : ∃ mA, ObjM h a dx C mA ∧ (∀ f, RelO (fs.lookup f) (mA f)) ∧ PySem.Within mA (fs.map (·.1)) ∧ fs.length ≤ 1000 ∧ H dx = some (.own a) := by
 obtain ⟨d, z, ne, ob, mA, n, r, q⟩ := (show ObjOk P w H h a (.ins C dx fs) from hok a _ e)
 exact ⟨mA, ⟨ob, n, ne⟩, r, q, z, d⟩
end
structure Cls (K : PySem.W.Frag) (C : Addr) : Prop where
 pg : PySem.W.plainGet K C Str.empty = true
 hd : PySem.W.hasDictIn K C = true
 po : PySem.W.plainOver K C = true
 sa : PySem.W.findIn K (.ref C) "__setattr__" = some (some (.builtin "object.__setattr__"))
theorem Cls.get {K : PySem.W.Frag} {C : Addr} (c : Cls K C) (f : Str) : PySem.W.plainGet K C f = true := c.pg
section
variable {X : Cx} {pins : List (Addr × Obj)} {σ : St} {H : Hp} {s : Shared} {A : Around} {E : Value → Shared → Prop} {Q : Value → Shared → Prop} {c : Value} {b : Bool}
inductive TyOf (K : PySem.W.Frag) (H : Hp) : V → Value → Prop where
 | non : TyOf K H .non (.type "NoneType")
 | bl (x : Bool) : TyOf K H (.bl x) (.type "bool")
 | int (i : Int) : TyOf K H (.int i) (.type "int")
 | str (x : Str) : TyOf K H (.str x) (.type "str")
 | flt (x : UInt64) : TyOf K H (.flt x) (.type "float")
 | lst {a : Addr} {xs : List V} (e : H a = some (.lst xs)) : TyOf K H (.ref a) (.type "list")
 | frz {a : Addr} {o : Obj} {xs : List V} (e : H a = some (.frz o (.lst xs))) : TyOf K H (.ref a) (.type "list")
 | tup {a : Addr} {xs : List V} (e : H a = some (.tup xs)) : TyOf K H (.ref a) (.type "tuple")
 | dK {a : Addr} {kvs : List (Key × V)} (e : H a = some (.dK kvs)) : TyOf K H (.ref a) (.type "dict")
 | dT {a : Addr} {kvs : List (List Key × V)} (e : H a = some (.dT kvs)) : TyOf K H (.ref a) (.type "dict")
 | ins {a C dx : Addr} {fs : List (Str × V)} (e : H a = some (.ins C dx fs)) (cl : Cls K C) (ha : PySem.W.findIn K (.ref C) "__class__" = some (some (.builtin "object.__class__")))
   (hn : PySem.W.specialIn K (.builtin "object.__class__") "__get__" = some (some (.builtin "getset_descriptor.__get__"))) (htk : PySem.W.takesIn K (.builtin "object.__class__") = some true)
   (hm : PySem.W.mroIn K C (.type "object") = some true) : TyOf K H (.ref a) (.ref C)
theorem isinst_ok {x : V} {u t : Value} (I : Inv X pins σ H s) (rx : RelV x u) (ty : TyOf X.K H x t) (e : PySem.W.kitOne X.K t c = some b) (h : ∀ tk, Q (.bool b) { s with toks := tk }) :
  wpAny (model X.prog X.w) A (call (.builtin "isinstance") [u, c]) Q E s := by
 cases ty with
 | non => cases (show u = Value.none from rx); exact PySem.W.kia_one PySem.W.kitx_none I.kIn True.intro e (fun z => nomatch z) h
 | bl y => cases (show u = Value.bool y from rx); exact PySem.W.kia_one PySem.W.kitx_bool I.kIn True.intro e (fun z => nomatch z) h
 | int i => obtain ⟨t, q⟩ := (show ∃ t, u = Value.int i t from rx); cases q; exact PySem.W.kia_one PySem.W.kitx_int I.kIn True.intro e (fun z => nomatch z) h
 | str y => obtain ⟨t, q⟩ := (show ∃ t, u = Value.str y t from rx); cases q; exact PySem.W.kia_one PySem.W.kitx_str I.kIn True.intro e (fun z => nomatch z) h
 | flt y => obtain ⟨t, q⟩ := (show ∃ t, u = Value.float y t from rx); cases q; exact PySem.W.kia_one PySem.W.kitx_float I.kIn True.intro e (fun z => nomatch z) h
 | @lst a xs ea =>
  cases (show u = Value.ref a from rx)
  obtain ⟨_, _, n, _, h1⟩ := (show ObjOk X.prog X.w H s.heap a (.lst xs) from I.hok a _ ea)
  exact PySem.W.kia_one PySem.W.kitx_list I.kIn ⟨_, h1, rfl⟩ e (fun z => nomatch z) h
 | @frz a ob xs ea =>
  cases (show u = Value.ref a from rx)
  obtain ⟨_, _, _, n, _, h1⟩ := (show ObjOk X.prog X.w H s.heap a (.frz ob (.lst xs)) from I.hok a _ ea)
  exact PySem.W.kia_one PySem.W.kitx_list I.kIn ⟨_, h1, rfl⟩ e (fun z => nomatch z) h
 | @tup a xs ea =>
  cases (show u = Value.ref a from rx)
  obtain ⟨_, _, _, p⟩ := (show ObjOk X.prog X.w H s.heap a (.tup xs) from I.hok a _ ea)
  obtain ⟨o, h1, h2, _⟩ := p
  exact PySem.W.kia_one PySem.W.kitx_tuple I.kIn ⟨o, h1, h2⟩ e (fun z => nomatch z) h
 | @dK a kvs ea =>
  cases (show u = Value.ref a from rx)
  obtain ⟨_, _, vs, _, p⟩ := (show ObjOk X.prog X.w H s.heap a (.dK kvs) from I.hok a _ ea)
  obtain ⟨o, es, ep, h1, h2, _⟩ := p
  exact PySem.W.kia_one PySem.W.kitx_dict I.kIn ⟨o, h1, h2.1⟩ e (fun z => nomatch z) h
 | @dT a kvs ea =>
  cases (show u = Value.ref a from rx)
  obtain ⟨_, _, xs, _, o, es, ep, h1, h2, _⟩ := (show ObjOk X.prog X.w H s.heap a (.dT kvs) from I.hok a _ ea)
  exact PySem.W.kia_one PySem.W.kitx_dict I.kIn ⟨o, h1, h2.1⟩ e (fun z => nomatch z) h
 | @ins a C dx fs ea cl ha hn htk hm =>
  cases (show u = Value.ref a from rx)
  obtain ⟨mA, O, _⟩ := ins_get I.hok ea
  obtain ⟨od, J, _⟩ := O.look
  exact PySem.W.kia_one (PySem.W.kitx_own (cl.get _) cl.hd ha hn htk hm) I.kIn J e (fun z => nomatch z) h
end
structure Room (k : Nat) (A : Around) : Prop where
 hd : A.handled = none
 dp : A.depth + 3 * k + 5 < recursionLimit
 un : A.units + 16 * k + 200 < cLine
 gd : A.guards = some []
theorem Room.mono {j k : Nat} {A : Around} (r : Room k A) (h : j ≤ k) : Room j A := ⟨r.hd, by have := r.dp; omega, by have := r.un; omega, r.gd⟩
theorem Room.deeper {k : Nat} {A : Around} (r : Room (k + 1) A) (env : Env) : Room k (A.deeper env) :=
 ⟨r.hd, by have := r.dp; show A.depth + 1 + 3 * k + 5 < _; omega, by have := r.un; show A.units + 3 + 16 * k + 200 < _; omega, r.gd⟩
theorem Room.depth {k : Nat} {A : Around} (r : Room k A) : A.depth < recursionLimit := by have := r.dp; omega
theorem Room.units {k : Nat} {A : Around} (r : Room k A) : A.units + 64 < cLine := by have := r.un; omega
def tNil : TA := fun _ H Q => Q [] H
def tCons (ta : TE) (tr : TA) : TA := fun σ H Q => ta σ H fun x H1 => tr σ H1 fun xs H2 => Q (x :: xs) H2
section
variable {X : Cx} {e : Expr} {es : List Expr} {te : TE} {t : TA} {pos : Pos}
theorem pa_nil : PA X [] tNil := fun _ _ _ _ H Q I h => Calls.spliced_nil ⟨[], H, I, .nil, h⟩
theorem pa_cons (ha : PE X e te) (hr : PA X es t) (hs : starEach (e :: es) X.env = (false, eval e X.env) :: starEach es X.env := by rfl) : PA X (e :: es) (tCons te t) := by
 intro pos pins s σ H Q I h
 rw [hs]
 show wpAny _ _ (spliced ((false, eval e X.env) :: backTo pos (starEach es X.env))) _ _ s
 refine Calls.spliced_cons (thn (ha pins s σ H _ I h) ?_)
 rintro u s1 ⟨x, H1, I1, r1, q1⟩
 refine thn (hr pos pins s1 σ H1 _ I1 q1) ?_
 rintro us s2 ⟨xs, H2, I2, r2, q2⟩
 exact ⟨x :: xs, H2, I2, .cons r1 r2, q2⟩
def tTup (t : TA) : TE := fun σ H Q => t σ H fun xs H1 => xs.length ≤ sizeLine ∧ ∀ p, H1 p = none → Q (.ref p) (upd H1 p (.tup xs))
def tLst (t : TA) : TE := fun σ H Q => t σ H fun xs H1 => xs.length ≤ sizeLine ∧ ∀ p, H1 p = none → Q (.ref p) (upd H1 p (.lst xs))
theorem pe_tup {x1} (h : PA X es t) : PE X (.Tuple es x1 pos) (tTup t) := by
 intro pins s σ H Q I hq
 refine wpAny_Tuple_spliced (thn (h pos pins s σ H _ I hq) ?_)
 rintro us s1 ⟨xs, H1, I1, r, z, q⟩
 refine ⟨by rw [← r.length]; exact z, ?_⟩
 have hf : H1 s1.heap.objs.size = none := I1.hok.fresh (Nat.le_refl _)
 refine ⟨.ref s1.heap.objs.size, upd H1 s1.heap.objs.size (.tup xs), I1.laid (t' := s1.toks) (fun b u e => Heap.get?_push_of_some _ e) (Nat.le_refl _) ?_, rfl, q _ hf⟩
 exact ⟨⟨z, _, Heap.get?_push_size _ rfl, rfl⟩, us, r, ⟨_, Heap.get?_push_size _ rfl, rfl, _, rfl⟩⟩
theorem pe_lst (h : PA X es t) : PE X (.List es pos) (tLst t) := by
 intro pins s σ H Q I hq
 refine wpAny_List_spliced (thn (h pos pins s σ H _ I hq) ?_)
 rintro us s1 ⟨xs, H1, I1, r, z, q⟩
 refine ⟨by rw [← r.length]; exact z, ?_⟩
 have hf : H1 s1.heap.objs.size = none := I1.hok.fresh (Nat.le_refl _)
 refine ⟨.ref s1.heap.objs.size, upd H1 s1.heap.objs.size (.lst xs), I1.laid (t' := s1.toks) (fun b u e => Heap.get?_push_of_some _ e) (Nat.le_refl _) ?_, rfl, q _ hf⟩
 exact ⟨z, us, 0, r, Heap.get?_push_size _ rfl⟩
end
abbrev Sp := List V → Hp → VK → XK → Prop
abbrev CXT := List Env → Hp → Shared → XK → Value → Shared → Prop
structure Env0 (P : Program) (w : World) (K : PySem.W.Frag) (mg : Str → Option Value) (base : Heap) (A : Around) (outer : List Env) (s : Shared) (H : Hp) : Prop where
 frames : A.frames = some outer
 mod : Mod K mg base
 bs : ∀ b o, base.get? b = some o → s.heap.get? b = some o ∧ H b = none
 bsz : base.objs.size ≤ s.heap.objs.size
 funs : s.heap.FunFrames base outer
 frf : ∀ b ∈ frs outer, H b = none
 hok : HOk P w H s.heap
 bare : AllBare s.gens
def CE (outer : List Env) (P : Program) (w : World) (H : Hp) (s : Shared) (Q : VK) (u : Value) (s' : Shared) : Prop :=
 ∃ v H', s'.os = s.os ∧ AllBare s'.gens ∧ Un (frs outer) [] H H' s.heap s'.heap ∧ HOk P w H' s'.heap ∧ RelV v u ∧ Q v H'
def CR (CX : CXT) (outer : List Env) (P : Program) (w : World) (H : Hp) (s : Shared) (Q : VK) (E : XK) (r : Result) (s' : Shared) : Prop :=
 match r with
 | .ok (.ret u) => CE outer P w H s Q u s'
 | .ok _ => False
 | .error e => CX outer H s E e s'
structure FnOk (P : Program) (w : World) (K : PySem.W.Frag) (mg : Str → Option Value) (base : Heap) (CX : CXT) (k : Nat) (f : Addr) (fd : FuncData) (ps : List Str) (sp : Sp) : Prop where
 len : ∀ vs H Q E, sp vs H Q E → vs.length = ps.length
 run : ∀ (A : Around) (outer : List Env) (s : Shared) (H : Hp) (args : Args) (us : List Value) (vs : List V) (Q : VK) (E : XK), Room k A → Env0 P w K mg base A outer s H → BindsTo s fd args (ps.zip us) → Vals vs us → sp vs H Q E →
  codeAny (model P w) A (.call (.ref f) args) (CR CX outer P w H s Q E) s
theorem FnOk.imp {P : Program} {w : World} {K : PySem.W.Frag} {mg : Str → Option Value} {base : Heap} {CX : CXT} {k : Nat} {f : Addr} {fd : FuncData} {ps : List Str} {sp sp' : Sp} (F : FnOk P w K mg base CX k f fd ps sp)
  (h : ∀ vs H Q E, sp' vs H Q E → sp vs H Q E) : FnOk P w K mg base CX k f fd ps sp' :=
 ⟨fun vs H Q E q => F.len vs H Q E (h _ _ _ _ q), fun A outer s H args us vs Q E hr he hb hv hs => F.run A outer s H args us vs Q E hr he hb hv (h _ _ _ _ hs)⟩
section
variable {X : Cx} {pins : List (Addr × Obj)} {σ : St} {H : Hp} {s s' : Shared}
theorem Inv.env0 (I : Inv X pins σ H s) : Env0 X.prog X.w X.K X.mg X.base X.A X.stack s H :=
 ⟨I.ok.frames, I.ok.mod, I.bs, Nat.le_trans I.ok.bsz I.sz, I.stack, I.stkFree, I.hok, I.bare⟩
theorem Inv.after {Q : VK} {u : Value} (I : Inv X pins σ H s) (h : CE X.stack X.prog X.w H s Q u s') : EP X pins σ Q u s' := by
 obtain ⟨v, H', os, bare, un, hok, r, q⟩ := h
 obtain ⟨hh, g, d, t, os'⟩ := s'
 obtain rfl : os' = s.os := os
 exact ⟨v, H', I.call (h' := hh) (g' := g) (d' := d) (t' := t) (ch := []) un hok bare (fun b z => absurd z (by simp)), r, q⟩
end
def tCall (sp : Sp) (dvs : List V) (E : XK) (t : TA) : TE := fun σ H Q => t σ H fun vs H1 => sp (vs ++ dvs) H1 Q E
def Binds (K : PySem.W.Frag) (fd : FuncData) (ps : List Str) (ds : List Value) : Prop :=
 ∀ (s : Shared) (us : List Value), K.In s.heap → (us ++ ds).length = ps.length → BindsTo s fd ⟨us, []⟩ (ps.zip (us ++ ds))
theorem Binds.all {K : PySem.W.Frag} {fd : FuncData} {ps : List Str} (h : ∀ us : List Value, us.length = ps.length → bindArgs fd ⟨us, []⟩ = pure (ps.zip us)) : Binds K fd ps [] := fun s us _ hl => by
 rw [List.append_nil] at hl ⊢
 exact .of_eq (h us hl)
def Passes (CX : CXT) (X : Cx) (E : XK) : Prop := ∀ (pins : List (Addr × Obj)) (σ : St) (H : Hp) (s : Shared) (e : Value) (s' : Shared), Inv X pins σ H s → CX X.stack H s E e s' → X.xe e s'
section
variable {X : Cx} {CX : CXT} {k : Nat} {f C : Addr} {fd : FuncData} {ps : List Str} {sp : Sp} {dvs : List V} {ds : List Value} {E : XK} {x m : Str} {p pos apos : Pos} {e o : Expr} {es : List Expr} {ta : TE} {t : TA}
theorem run_fn {pins : List (Addr × Obj)} {σ : St} {H : Hp} {s : Shared} {Q : VK} {us : List Value} {vs : List V} (F : FnOk X.prog X.w X.K X.mg X.base CX k f fd ps sp) (hr : Room k X.A) (hb : Binds X.K fd ps ds) (hd : Vals dvs ds) (hx : Passes CX X E)
  (I : Inv X pins σ H s) (r : Vals vs us) (h : sp (vs ++ dvs) H Q E) : wpAny (model X.prog X.w) X.A (call (.ref f) us) (EP X pins σ Q) X.xe s := by
 have r2 : Vals (vs ++ dvs) (us ++ ds) := r.append hd
 have hl : (us ++ ds).length = ps.length := by rw [← r2.length]; exact F.len _ _ _ _ h
 refine wpAny_call (codeAny_mono (F.run X.A X.stack s H ⟨us, []⟩ (us ++ ds) (vs ++ dvs) Q E hr I.env0 (hb s us I.kIn hl) r2 h) fun r s' hq => ?_)
 cases r with
 | error e => exact hx pins σ H s e s' I hq
 | ok fl =>
  cases fl with
  | ret u => exact I.after hq
  | next => exact False.elim hq
  | brk => exact False.elim hq
  | cont => exact False.elim hq
theorem pe_call (F : FnOk X.prog X.w X.K X.mg X.base CX k f fd ps sp) (hr : Room k X.A) (hg : Gl X x) (hm : X.mg x = some (.ref f)) (hk : PySem.W.keepIn X.K (.ref f) = true) (hb : Binds X.K fd ps ds) (hd : Vals dvs ds) (hx : Passes CX X E)
  (ha : PA X (e :: es) t) (hdb : (x == ("__debug__" : Str)) = false := by decide) (he : starEach (e :: es) X.env = (false, eval e X.env) :: starEach es X.env := by rfl) (hpl : (backTo pos (starEach es X.env)).any (·.1) = false := by rfl) :
  PE X (.Call (.Name x p) (e :: es) [] pos) (tCall sp dvs E t) := by
 intro pins s σ H Q I h
 refine wpAny_Call_Name_kw (ld_glob I hg hm ?_ hdb)
 refine PySem.W.callWith_K (h₀ := X.base) I.ok.mod.kin hk (thn (ha pos pins s σ H _ I h) ?_) he hpl
 rintro us s1 ⟨vs, H1, I1, r, q⟩
 refine ⟨I1.kIn, ?_⟩
 exact run_fn F hr hb hd hx I1 r q
end
structure FnScope (N P : List Str) (sc : Scope) : Prop where
 kind : sc.kind = .function
 co : sc.isCoroutine = false
 gen : sc.isGenerator = false
 nd : N.Nodup
 pre : N.take P.length = P
 par : ∀ x ∈ P, sc.names.lookup x = some .local ∨ sc.names.lookup x = some .cell
 nofree : ∀ y ∈ sc.names, y.2 ≠ .free
theorem bindL_out {kindOf : Str → Option NameKind} {x : Str} : ∀ {binds : List (Str × Value)} {m : Str → Option Value}, (∀ v, (x, v) ∉ binds) → bindL kindOf binds m x = m x
 | [], _, _ => rfl
 | (n, v) :: r, m, h => by
  unfold bindL
  rw [bindL_out fun w hw => h w (List.mem_cons_of_mem _ hw)]
  split
  ·have : x ≠ n := by rintro rfl; exact h v List.mem_cons_self
   simp [this]
  ·rfl
theorem bindC_out {kindOf : Str → Option NameKind} {x : Str} : ∀ {binds : List (Str × Value)} {m : Str → Option Value}, (∀ v, (x, v) ∉ binds) → bindC kindOf binds m x = m x
 | [], _, _ => rfl
 | (n, v) :: r, m, h => by
  unfold bindC
  rw [bindC_out fun w hw => h w (List.mem_cons_of_mem _ hw)]
  split
  ·rfl
  ·have : x ≠ n := by rintro rfl; exact h v List.mem_cons_self
   simp [this]
theorem bindL_get {kindOf : Str → Option NameKind} {x : Str} {v : Value} : ∀ {P : List Str} {vs : List Value} {i : Nat} {m : Str → Option Value}, P.Nodup → P[i]? = some x → vs[i]? = some v → kindOf x = some .local →
  bindL kindOf (P.zip vs) m x = some v
 | [], _, _, _, _, h, _, _ => by simp at h
 | _ :: _, [], _, _, _, _, h, _ => by simp at h
 | p :: P, w :: vs, 0, m, nd, h1, h2, hk => by
  simp at h1 h2; subst h1; subst h2
  show bindL kindOf ((p, w) :: P.zip vs) m p = _
  unfold bindL
  rw [bindL_out fun v hv => (List.nodup_cons.mp nd).1 (List.of_mem_zip hv).1, if_pos hk]
  simp
 | p :: P, w :: vs, i + 1, m, nd, h1, h2, hk => by
  show bindL kindOf ((p, w) :: P.zip vs) m x = _
  unfold bindL
  exact bindL_get (i := i) (List.nodup_cons.mp nd).2 (by simpa using h1) (by simpa using h2) hk
theorem bindC_get {kindOf : Str → Option NameKind} {x : Str} {v : Value} : ∀ {P : List Str} {vs : List Value} {i : Nat} {m : Str → Option Value}, P.Nodup → P[i]? = some x → vs[i]? = some v → kindOf x ≠ some .local →
  bindC kindOf (P.zip vs) m x = some v
 | [], _, _, _, _, h, _, _ => by simp at h
 | _ :: _, [], _, _, _, _, h, _ => by simp at h
 | p :: P, w :: vs, 0, m, nd, h1, h2, hk => by
  simp at h1 h2; subst h1; subst h2
  show bindC kindOf ((p, w) :: P.zip vs) m p = _
  unfold bindC
  rw [bindC_out fun v hv => (List.nodup_cons.mp nd).1 (List.of_mem_zip hv).1, if_neg hk]
  simp
 | p :: P, w :: vs, i + 1, m, nd, h1, h2, hk => by
  show bindC kindOf ((p, w) :: P.zip vs) m x = _
  unfold bindC
  exact bindC_get (i := i) (List.nodup_cons.mp nd).2 (by simpa using h1) (by simpa using h2) hk
def start (N : List Str) (vs : List V) : St := vs.map some ++ List.replicate (N.length - vs.length) none
def cxOf (CX : CXT) (P : Program) (w : World) (K : PySem.W.Frag) (mg : Str → Option Value) (base : Heap) (N : List Str) (qual : Str) (scope : Scope) (f : Addr) (cd : Value) (A : Around) (outer : List Env) (s : Shared) (H : Hp) (E : XK) : Cx where
 prog := P
 w := w
 K := K
 mg := mg
 base := base
 A := A.deeper (envOfC qual scope s.heap.objs.size f cd)
 N := N
 s₀ := s
 H₀ := H
 env := envOfC qual scope s.heap.objs.size f cd
 outer := outer
 stack := envOfC qual scope s.heap.objs.size f cd :: outer
 ex := []
 calm := true
 fn := fun _ => true
 pn := []
 xe := fun e s' => wpAny (model P w) (A.deeper (envOfC qual scope s.heap.objs.size f cd)) (leaving (envOfC qual scope s.heap.objs.size f cd) e) (fun _ s'' => CX outer H s E e s'') (fun e' s'' => CX outer H s E e' s'') s'
theorem cell_has {sc : Scope} {n : Nat} {x : Str} (h : sc.names.lookup x = some .cell) : ∃ c, (cellsFrom n sc.names []).lookup x = some c := by
 have q := PySem.W.cellsFrom_some sc.names n [] (.inl h)
 exact Option.isSome_iff_exists.mp q
theorem inv_start {CX : CXT} {P : Program} {w : World} {K : PySem.W.Frag} {mg : Str → Option Value} {base : Heap} {N ps : List Str} {qual : Str} {scope : Scope} {f : Addr} {cd : Value} {A : Around} {outer : List Env} {s s1 : Shared} {H : Hp} {E : XK} {us : List Value} {vs : List V}
  (S : FnScope N ps scope) (hd : A.handled = none) (e0 : Env0 P w K mg base A outer s H) (hl : vs.length = ps.length) (r : Vals vs us)
  (x : InCallC s s.heap.objs.size (bindL (envOfC qual scope s.heap.objs.size f cd).kindOf (ps.zip us) fun _ => none) (cellsFrom (s.heap.objs.size + 1) scope.names []) (bindC (envOfC qual scope s.heap.objs.size f cd).kindOf (ps.zip us) fun _ => none) s1) :
  Inv (cxOf CX P w K mg base N qual scope f cd A outer s H E) [] (start N vs) H s1 := by
 have hpl : ps.length ≤ N.length := by have := congrArg List.length S.pre; rw [List.length_take] at this; omega
 obtain ⟨h1, tk, rfl, hk⟩ := x.done
 have noA : ∀ b : Addr, b ∉ (cxOf CX P w K mg base N qual scope f cd A outer s H E).ex := fun b z => absurd (show b ∈ ([] : List Addr) from z) (by simp)
 refine ⟨⟨e0.mod, S.kind, rfl, rfl, Nat.le_refl _, fun y z c h1 h2 => ?_, fun y hy => ?_, fun y c _ h => ?_, fun _ => hd, Around.frames_deeper e0.frames, .inr ⟨rfl, rfl⟩, fun b z => absurd z (noA b), e0.bs, e0.bsz, fun b _ _ => noA b, fun b z => absurd z (noA b), e0.funs, e0.frf⟩,
  rfl, e0.bare, Un.kept hk, ⟨_, x.toInCall.ns, fun i y v h1 h2 h3 => ?_⟩, fun y c h => ⟨_, x.cell y c h⟩, e0.hok.fresh (Nat.le_refl _), fun y c h => ?_, fun p hp => absurd (show p ∈ ([] : List (Addr × Obj)) from hp) (by simp), e0.hok.kept hk, ?_⟩
 ·exact name_of_addr x.apart (PySem.mem_of_lookup h1) (PySem.mem_of_lookup h2)
 ·have hy : scope.names.lookup y = some .cell ∨ scope.names.lookup y = some .free := hy
  rcases hy with hy | hy
  ·exact cell_has hy
  ·exact absurd rfl (S.nofree _ (PySem.mem_of_lookup hy))
 ·exact Nat.le_of_lt (x.above y c (PySem.mem_of_lookup h))
 ·have hi : i < vs.length := by
   unfold start at h2
   by_cases hi : i < vs.length
   ·exact hi
   ·rw [List.getElem?_append_right (by simpa using hi)] at h2
    rw [List.getElem?_replicate] at h2
    split at h2 <;> cases h2
  have ha : vs[i]? = some v := by
   unfold start at h2
   rw [List.getElem?_append_left (by simpa using hi), List.getElem?_map] at h2
   cases e : vs[i]? with
   | none => rw [e] at h2; cases h2
   | some a => rw [e] at h2; cases h2; rfl
  obtain ⟨u, hu, rv⟩ := r.get ha
  have hp : ps[i]? = some y := by
   rw [← S.pre, List.getElem?_take_of_lt (by omega)]; exact h1
  have ndP : ps.Nodup := by rw [← S.pre]; exact S.nd.sublist (List.take_sublist _ _)
  refine ⟨u, rv, ?_⟩
  rcases S.par y (List.mem_of_getElem? hp) with k | k
  ·exact .inl ⟨k, bindL_get ndP hp hu k⟩
  ·obtain ⟨c, e⟩ := cell_has (n := s.heap.objs.size + 1) k
   refine .inr ⟨.inl k, c, e, ?_⟩
   have q := x.cell y c e
   rw [bindC_get ndP hp hu (by show scope.names.lookup y ≠ _; rw [k]; decide)] at q
   exact q
 ·exact e0.hok.fresh (Nat.le_of_lt (x.above y c (PySem.mem_of_lookup h)))
 ·unfold start
  show _ = N.length
  rw [List.length_append, List.length_map, List.length_replicate]
  omega
theorem fn_of {CX : CXT} {P : Program} {w : World} {K : PySem.W.Frag} {mg : Str → Option Value} {base : Heap} {k : Nat} {f : Addr} {name qual : Str} {params : Arguments} {body : List Stmt} {scope : Scope} {dV kV doc pm cdv ct oc : Value} {an od : Option Addr}
  {osl : Array (Option Value)} {N ps : List Str} {sp : Sp} (lk : K.lookup f = some ⟨oc, od, .func (PySem.W.fnOf name qual params body scope dV kV doc pm an cdv ct), osl⟩) (hcd : PySem.W.codeIn K cdv qual = true) (S : FnScope N ps scope)
  (len : ∀ vs H Q E, sp vs H Q E → vs.length = ps.length)
  (hbody : ∀ (A : Around) (outer : List Env) (s : Shared) (H : Hp) (vs : List V) (Q : VK) (E : XK), Room k (A.deeper (envOfC qual scope s.heap.objs.size f cdv)) → sp vs H Q E →
   ∃ t, PSs (cxOf CX P w K mg base N qual scope f cdv A outer s H E) body t ∧ t { nx := fun _ H' => Q .non H', rt := Q } (start N vs) H) :
  FnOk P w K mg base CX (k + 1) f (PySem.W.fnOf name qual params body scope dV kV doc pm an cdv ct) ps sp := by
 refine ⟨len, fun A outer s H args us vs Q E hr e0 hb r hsp => ?_⟩
 have hl := len _ _ _ _ hsp
 have KX : K.In s.heap := e0.mod.kin.keeps fun b o e => (e0.bs b o e).1
 have lim : s.heap.NoLimit := e0.mod.nolimit.keeps fun b o e => (e0.bs b o e).1
 have hkind : ∀ y ∈ ps.zip us, scope.names.lookup y.1 = some .local ∨ (scope.names.lookup y.1 = some .cell ∧ ((cellsFrom (s.heap.objs.size + 1) scope.names []).lookup y.1).isSome = true) := fun ⟨n, v⟩ hy => by
  rcases S.par n (List.of_mem_zip hy).1 with q | q
  ·exact .inl q
  ·exact .inr ⟨q, PySem.W.cellsFrom_some _ _ _ (.inl q)⟩
 refine codeAny_call_function hr.depth (KX _ _ lk) rfl S.co S.gen rfl (PySem.W.codeRec_of KX hcd) (hb _ _ _ _ ?_)
 refine wpAny_newFunctionEnv_cells S.kind hkind fun env he s1 x => ?_
 subst he
 refine ⟨lim.keeps x.toInCall.keep, codeAny_func ?_⟩
 obtain ⟨t, ht, hq⟩ := hbody A outer s H vs Q E (hr.deeper _) hsp
 have I : Inv (cxOf CX P w K mg base N qual scope f cdv A outer s H E) [] (start N vs) H s1 := inv_start S hr.hd e0 hl r x
 refine wpAny_mono (ht [] s1 (start N vs) H _ I hq) (fun fl s' hs => ?_) fun e s' hs => hs
 have fin : ∀ {σ' : St} {H' : Hp} {v : V} {u : Value}, Inv (cxOf CX P w K mg base N qual scope f cdv A outer s H E) [] σ' H' s' → RelV v u → Q v H' → CE outer P w H s Q u s' :=
  fun {σ' H' v u} J rv q => ⟨v, H', J.os, J.bare, J.base, J.hok, rv, q⟩
 cases fl with
 | ret u =>
  obtain ⟨v, σ', H', J, rv, q⟩ := hs
  exact fin J rv q
 | next =>
  obtain ⟨σ', H', J, q⟩ := hs
  exact fin (v := V.non) (u := Value.none) J rfl q
 | brk =>
  obtain ⟨_, _, _, q⟩ := hs
  exact False.elim q
 | cont =>
  obtain ⟨_, _, _, q⟩ := hs
  exact False.elim q
section
variable {X : Cx} {x : Str} {p pos : Pos} {e : Expr} {es : List Expr} {t : TA} {id T : String} {r : List V → Hp → VK → Prop}
def tCB (r : List V → Hp → VK → Prop) (t : TA) : TE := fun σ H Q => t σ H fun vs H1 => r vs H1 Q
theorem pe_callB (hc : CallR X (.builtin id) r) (hg : Gl X x) (hm : X.mg x = none) (hv : bootBuiltins x = some (.builtin id)) (ha : PA X (e :: es) t) (hn : x ≠ "__name__" := by decide) (hdb : (x == ("__debug__" : Str)) = false := by decide)
  (he : starEach (e :: es) X.env = (false, eval e X.env) :: starEach es X.env := by rfl) (hpl : (backTo pos (starEach es X.env)).any (·.1) = false := by rfl) : PE X (.Call (.Name x p) (e :: es) [] pos) (tCB r t) := by
 intro pins s σ H Q I h
 refine wpAny_Call_Name_kw (ld_blt I hg hm hv ?_ hn hdb)
 exact PyProof.Rows.callWith_builtin1 (thn (ha pos pins s σ H _ I h) fun us s1 ⟨vs, H1, I1, r1, q1⟩ => hc pins s1 σ H1 vs us Q I1 r1 q1) he hpl
theorem pe_callTy (hc : CallR X (.type T) r) (hg : Gl X x) (hm : X.mg x = none) (hv : bootBuiltins x = some (.type T)) (ha : PA X (e :: es) t) (hn : x ≠ "__name__" := by decide) (hdb : (x == ("__debug__" : Str)) = false := by decide)
  (he : starEach (e :: es) X.env = (false, eval e X.env) :: starEach es X.env := by rfl) (hpl : (backTo pos (starEach es X.env)).any (·.1) = false := by rfl) : PE X (.Call (.Name x p) (e :: es) [] pos) (tCB r t) := by
 intro pins s σ H Q I h
 refine wpAny_Call_Name_kw (ld_blt I hg hm hv ?_ hn hdb)
 exact PyProof.Rows.callWith_type1 (thn (ha pos pins s σ H _ I h) fun us s1 ⟨vs, H1, I1, r1, q1⟩ => hc pins s1 σ H1 vs us Q I1 r1 q1) he hpl
end
end L2
namespace HT
open PySem PyProof.Rows
section
variable {prog : Program} {w : World} {A : Around} {E : Value → Shared → Prop} {s : Shared}
theorem cat_tup {t b : Addr} {vs ws : List Value} {Q : Value → Shared → Prop} (ht : IsTup s.heap t vs.toArray) (hb : IsTup s.heap b ws.toArray) (hv : vs ≠ [])
  (h1 : ws = [] → Q (.ref t) s) (h2 : ws ≠ [] → Q (.ref s.heap.objs.size) { s with heap := s.heap.push { cls := .type "tuple", data := .seq (vs ++ ws).toArray } })
  (hsz : vs.length + ws.length ≤ sizeLine) : wpAny (model prog w) A (binaryOp .Add (.ref t) (.ref b)) Q E s := by
 obtain ⟨⟨cls, dd, data, sl⟩, ho, hc, n, hd⟩ := id ht
 obtain ⟨⟨cls2, dd2, data2, sl2⟩, ho2, hc2, n2, hd2⟩ := id hb
 simp only at hc hd hc2 hd2
 subst hc hd hc2 hd2
 have e : vs.toArray ++ ws.toArray = (vs ++ ws).toArray := by simp
 by_cases hw : ws = []
 ·exact concat_meets ⟨_, ho, rfl⟩ ⟨_, ho2, rfl⟩ noFill_tuple_add seq_tuple_add PySem.F.slot_tuple_add PySem.F.entry_tuple_add (PySem.F.args_tuple_add_2 _ _)
   (tuple_addW1 t b vs.toArray ws.toArray n n2 dd dd2 sl sl2 (by simpa using hv) (by simp [hw])) ⟨ho, ho2, h1 hw⟩
 ·refine concat_meets ⟨_, ho, rfl⟩ ⟨_, ho2, rfl⟩ noFill_tuple_add seq_tuple_add PySem.F.slot_tuple_add PySem.F.entry_tuple_add (PySem.F.args_tuple_add_2 _ _)
   (tuple_addW2 t b vs.toArray ws.toArray n n2 dd dd2 sl sl2 (by simpa using hv) (by simpa using hw) (by rw [List.size_toArray, List.size_toArray]; exact hsz)) ⟨ho, ho2, ?_⟩
  rw [e]
  exact h2 hw
def sIx (n d : Nat) : Option Int → Nat
 | none => d
 | some v => if v < 0 then (v + (n : Int)).toNat else min v.toNat n
theorem sIx_nat (n d k : Nat) : sIx n d (some (k : Int)) = min k n := by
 show (if (k : Int) < 0 then ((k : Int) + (n : Int)).toNat else min (k : Int).toNat n) = min k n
 rw [if_neg (by omega), Int.toNat_natCast]
theorem sIx_le (n d : Nat) (hd : d ≤ n) (o : Option Int) : sIx n d o ≤ n := by
 cases o with
 | none => exact hd
 | some v =>
  show (if v < 0 then (v + (n : Int)).toNat else min v.toNat n) ≤ n
  by_cases hv : v < 0
  ·rw [if_pos hv]; omega
  ·rw [if_neg hv]; exact Nat.min_le_right _ _
theorem clip_eq (v : Int) (n d : Nat) : (if v < 0 then max (v + (n : Int)) 0 else min v (n : Int)) = ((sIx n d (some v) : Nat) : Int) := by
 show (if v < 0 then max (v + (n : Int)) 0 else min v (n : Int)) = (((if v < 0 then (v + (n : Int)).toNat else min v.toNat n) : Nat) : Int)
 by_cases hv : v < 0
 ·simp only [if_pos hv]; omega
 ·simp only [if_neg hv]; omega
theorem adjust_gen (lo hi : Option Int) (n : Nat) : Builtin.Slice.sliceAdjust lo hi 1 (n : Int) = (((sIx n 0 lo : Nat) : Int), ((sIx n n hi : Nat) : Int)) := by
 have h1 : ¬ ((1 : Int) < 0) := by omega
 unfold Builtin.Slice.sliceAdjust
 simp only [h1, if_false]
 refine Prod.ext ?_ ?_
 ·cases lo with
  | none => rfl
  | some v => exact clip_eq v n 0
 ·cases hi with
  | none => rfl
  | some v => exact clip_eq v n n
theorem places_gen (i j : Nat) : Builtin.Slice.slicePlaces (i : Int) (j : Int) 1 = j - i := by
 unfold Builtin.Slice.slicePlaces
 have h1 : (1 : Int) > 0 := by omega
 simp only [h1, if_true, Int.ediv_one]
 split <;> omega
theorem slicePart_ {v : Value} {o : Option Int} {Q : Option Int → Shared → Prop} (p : IsPart v o) (h : Q o s) : wpAny (model prog w) A (Builtin.Slice.slicePartIndex v) Q E s := by
 cases p with
 | none => exact slicePart_none h
 | int i t => exact slicePart_int h
theorem sliceApplied_gen {sl : Addr} {vl vu : Value} {lo hi : Option Int} {n : Nat} {Q : Int × Int × Nat → Shared → Prop} (hs : s.heap.IsSliceOf sl vl vu .none) (pl : IsPart vl lo) (pu : IsPart vu hi)
  (h : Q (((sIx n 0 lo : Nat) : Int), 1, sIx n n hi - sIx n 0 lo) s) : wpAny (model prog w) A (Builtin.Slice.sliceApplied (.ref sl) (pure (n : Int))) Q E s := by
 obtain ⟨os, hos, hcs, hds⟩ := id hs
 unfold Builtin.Slice.sliceApplied Builtin.Slice.sliceFields
 refine wpAny_bind (wpAny_bind (wpAny_field hos hds (x := vl) rfl (wpAny_bind (wpAny_field hos hds (x := vu) rfl (wpAny_bind (wpAny_field hos hds (x := .none) rfl (wpAny_pure ?_)))))))
 refine wpAny_bind (slicePart_none ?_)
 show wpAny _ _ (if ((1 : Int) == 0) = true then _ else _) _ _ s
 rw [if_neg (by decide)]
 refine wpAny_bind (slicePart_ pl (wpAny_bind (slicePart_ pu (wpAny_bind (wpAny_pure ?_)))))
 show wpAny _ _ (match Builtin.Slice.sliceAdjust lo hi 1 (n : Int) with | (lo, hi) => pure (lo, (1 : Int), Builtin.Slice.slicePlaces lo hi 1)) _ _ s
 rw [adjust_gen lo hi n]
 show wpAny _ _ (pure (((sIx n 0 lo : Nat) : Int), (1 : Int), Builtin.Slice.slicePlaces ((sIx n 0 lo : Nat) : Int) ((sIx n n hi : Nat) : Int) 1)) _ _ s
 rw [places_gen]
 exact wpAny_pure h
theorem pick_gen (xs : Array Value) (i k : Nat) : ((List.range k).filterMap fun (m : Nat) => xs[((i : Int) + (m : Int) * 1).toNat]?).toArray = ((xs.toList.drop i).take k).toArray := by
 have e : (fun (m : Nat) => xs[((i : Int) + (m : Int) * 1).toNat]?) = fun m => xs[i + m]? := by
  funext m
  have : ((i : Int) + (m : Int) * 1).toNat = i + m := by omega
  rw [this]
 rw [e]
 have := pick_run xs i k
 rw [List.filterMap_map] at this
 have e2 : ((fun x => xs[x]?) ∘ fun x => i + x) = fun m => xs[i + m]? := rfl
 rw [e2] at this
 rw [this]
theorem getItem_tuple_cut {t sl : Addr} {items : Array Value} {vl vu : Value} {lo hi : Option Int} {Q : Value → Shared → Prop} (ht : IsTup s.heap t items) (hs : s.heap.IsSliceOf sl vl vu .none) (pl : IsPart vl lo) (pu : IsPart vu hi)
  (hw : ¬ (sIx items.size 0 lo = 0 ∧ sIx items.size items.size hi = items.size))
  (h : Q (.ref s.heap.objs.size) { s with heap := s.heap.push { cls := .type "tuple", data := .seq ((items.toList.drop (sIx items.size 0 lo)).take (sIx items.size items.size hi - sIx items.size 0 lo)).toArray } })
  (hsz : items.size ≤ sizeLine) : wpAny (model prog w) A (getItem (.ref t) (.ref sl)) Q E s := by
 have htake : sizeOk (.seq ((items.toList.drop (sIx items.size 0 lo)).take (sIx items.size items.size hi - sIx items.size 0 lo)).toArray) := by
  show ((items.toList.drop (sIx items.size 0 lo)).take (sIx items.size items.size hi - sIx items.size 0 lo)).toArray.size ≤ sizeLine
  rw [List.size_toArray, List.length_take, List.length_drop, Array.length_toList]
  omega
 have hj : sIx items.size items.size hi ≤ items.size := sIx_le _ _ (Nat.le_refl _) hi
 obtain ⟨os, hos, hcs, hds⟩ := id hs
 have hTs : s.TypeIs (.ref sl) "slice" := ⟨os, hos, hcs⟩
 unfold getItem
 try with_reducible refine wpAny_holding ?_
 first | refine wpAny_bind (wpAny_pure ?_) | skip
 refine wpAny_bind (wpAny_sequenceKey ht.typeIs (by decide) ?_)
 refine wpAny_bind (wpAny_callSpecial?_slot (name := Str.ofString "__getitem__") ht.typeIs PyProof.Rows.slot_tuple_getitem
  (wpAny_call_entry PyProof.Rows.slot_tuple_getitem ht.typeIs entry_tuple_getitem ?_ (args_tuple_getitem _ _)))
 show wpAny _ _ (Builtin.Tuple.tupleItemsOf (.ref t) >>= _) _ _ s
 refine wpAny_bind (tupleItemsOf_ ht ?_)
 refine wpAny_bind (wpAny_typeOf hTs ?_)
 rw [if_pos (by decide)]
 refine wpAny_bind (sliceApplied_gen hs pl pu ?_)
 have hno : ¬ ((((sIx items.size 0 lo : Nat) : Int) == 0 && (1 : Int) == 1 && (sIx items.size items.size hi - sIx items.size 0 lo) == items.size) = true) := by
  intro q
  rw [Bool.and_eq_true, Bool.and_eq_true] at q
  have q1 : ((sIx items.size 0 lo : Nat) : Int) = 0 := eq_of_beq q.1.1
  have q2 : sIx items.size items.size hi - sIx items.size 0 lo = items.size := eq_of_beq q.2
  exact hw ⟨by omega, by omega⟩
 show wpAny _ _ (if (((sIx items.size 0 lo : Nat) : Int) == 0 && (1 : Int) == 1 && (sIx items.size items.size hi - sIx items.size 0 lo) == items.size) = true then _ else _) _ _ s
 rw [if_neg hno, pick_gen]
 first
  | exact wpAny_bind (m := Builtin.Tuple.tupleExact _) (wpAny_newObj_type (wpAny_pure ⟨_, rfl, wpAny_pure h⟩) htake)
  | exact wpAny_bind (m := Builtin.Tuple.tupleExact _) (wpAny_newObj_type (wpAny_bind (wpAny_pure (wpAny_pure ⟨_, rfl, wpAny_pure h⟩))) htake)
  | exact wpAny_bind (wpAny_bind (m := Builtin.Tuple.tupleExact _) (wpAny_newObj_type (wpAny_pure (wpAny_pure ⟨_, rfl, wpAny_pure h⟩)) htake))
  | exact wpAny_bind (wpAny_bind (m := Builtin.Tuple.tupleExact _) (wpAny_newObj_type (wpAny_pure ⟨_, rfl, wpAny_pure h⟩) htake))
end
end HT
namespace L2
open PySem PySem.Spec PyProof.Rows
abbrev TO := St → Hp → (Option Int → Hp → Prop) → Prop
def PO (X : Cx) (e : Option Expr) (t : TO) : Prop :=
 ∀ (pins : List (Addr × Obj)) (s : Shared) (σ : St) (H : Hp) (Q : Option Int → Hp → Prop), Inv X pins σ H s → t σ H Q →
  wpAny (model X.prog X.w) X.A (evalPart e X.env) (fun u s' => ∃ o H', Inv X pins σ H' s' ∧ IsPart u o ∧ Q o H') X.xe s
def tNoPart : TO := fun _ H Q => Q none H
def tPart (t : TE) : TO := fun σ H Q => t σ H fun x H1 => ∃ i, x = .int i ∧ Q (some i) H1
theorem intsAre_of {ns : List Int} : ∀ {us : List Value}, Vals (ns.map V.int) us → IntsAre us ns := by
 induction ns with
 | nil => intro us r; rw [List.map_nil] at r; cases r; exact .nil
 | cons n ns ih =>
  intro us r
  rw [List.map_cons] at r
  cases r with
  | cons r1 r2 =>
   obtain ⟨t, e⟩ := r1
   subst e
   exact .cons n t (ih r2)
section
variable {X : Cx} {e : Expr} {te : TE} {lo hi : Option Expr} {tl th : TO} {pos p2 : Pos}
theorem po_none : PO X none tNoPart := by
 intro pins s σ H Q I h
 rw [evalPart_none]
 exact wpAny_pure ⟨none, H, I, .none, h⟩
theorem po_some (h : PE X e te) : PO X (some e) (tPart te) := by
 intro pins s σ H Q I hw
 rw [evalPart_some]
 refine thn (h pins s σ H _ I hw) ?_
 rintro u s1 ⟨x, H1, I1, r1, q1⟩
 obtain ⟨i, rfl, q⟩ := q1
 obtain ⟨t, rfl⟩ := r1
 exact ⟨some i, H1, I1, .int i t, q⟩
def SlR (X : Cx) (r : V → Option Int → Option Int → Hp → VK → Prop) : Prop :=
 ∀ (pins : List (Addr × Obj)) (s : Shared) (σ : St) (H : Hp) (x : V) (v vl vu : Value) (lo hi : Option Int) (sl : Addr) (Q : VK), Inv X pins σ H s → RelV x v → s.heap.IsSliceOf sl vl vu .none → IsPart vl lo → IsPart vu hi → r x lo hi H Q →
  ∃ T id, typeLookup (.type T) "__getitem__" = pure (some (.builtin id)) ∧ s.TypeIs v T ∧ wpAny (model X.prog X.w) X.A (getItem v (.ref sl)) (EP X pins σ Q) X.xe s
def tSl (r : V → Option Int → Option Int → Hp → VK → Prop) (te : TE) (tl th : TO) : TE := fun σ H Q => te σ H fun x H1 => tl σ H1 fun l H2 => th σ H2 fun u H3 => r x l u H3 Q
theorem pe_slice {r : V → Option Int → Option Int → Hp → VK → Prop} (hr : SlR X r) (he : PE X e te) (hl : PO X lo tl) (hu : PO X hi th) : PE X (.Subscript e (.Slice lo hi none p2) pos) (tSl r te tl th) := by
 intro pins s σ H Q I h
 refine Subscript_ (thn (he pins s σ H _ I h) ?_)
 rintro v s1 ⟨x, H1, I1, r1, q1⟩
 refine wpAny_Slice (thn (hl pins s1 σ H1 _ I1 q1) ?_)
 rintro vl s2 ⟨l, H2, I2, pl, q2⟩
 refine thn (hu pins s2 σ H2 _ I2 q2) ?_
 rintro vu s3 ⟨u, H3, I3, pu, q3⟩
 rw [evalPart_none]
 refine wpAny_pure ?_
 have I4 : Inv X pins σ H3 { s3 with heap := s3.heap.push { cls := .type "slice", data := .fields #[vl, vu, .none] } } := I3.kept (t' := s3.toks) fun b ob q => Heap.get?_push_of_some _ q
 obtain ⟨T, id, hT, ht, hg⟩ := hr pins { s3 with heap := s3.heap.push { cls := .type "slice", data := .fields #[vl, vu, .none] } } σ H3 x v vl vu l u s3.heap.objs.size Q I4 r1 (Heap.IsSliceOf.new ..) pl pu q3
 show wpAny (model X.prog X.w) X.A (subscriptTail e (.Slice lo hi none p2) v (.ref s3.heap.objs.size)) (EP X pins σ Q) X.xe { s3 with heap := s3.heap.push { cls := .type "slice", data := .fields #[vl, vu, .none] } }
 exact tail_any (ops := [.ref s3.heap.objs.size, v]) ht hT hg (by with_unfolding_all rfl)
def cutV (xs : List V) (lo hi : Option Int) : List V := (xs.drop (HT.sIx xs.length 0 lo)).take (HT.sIx xs.length xs.length hi - HT.sIx xs.length 0 lo)
theorem cutV_length (xs : List V) (lo hi : Option Int) : (cutV xs lo hi).length ≤ xs.length := by
 unfold cutV
 rw [List.length_take, List.length_drop]
 omega
def rSlT (K : PySem.W.Frag) : V → Option Int → Option Int → Hp → VK → Prop := fun x lo hi H Q => ∃ a xs, x = .ref a ∧ SqT K H a xs ∧
 ¬ (HT.sIx xs.length 0 lo = 0 ∧ HT.sIx xs.length xs.length hi = xs.length) ∧ ∀ p, H p = none → Q (.ref p) (upd H p (.tup (cutV xs lo hi)))
theorem sl_tup : SlR X (rSlT X.K) := by
 intro pins s σ H x v vl vu lo hi sl Q I rx hs pl pu h
 obtain ⟨a, xs, rfl, hx, hw, q⟩ := h
 cases rx
 obtain ⟨its, r, ht, hz⟩ := I.tuple hx
 have hlen : its.toArray.size = xs.length := by rw [List.size_toArray]; exact r.length.symm
 refine ⟨"tuple", _, PyProof.Rows.slot_tuple_getitem.lookup, ht.typeIs, ?_⟩
 refine HT.getItem_tuple_cut ht hs pl pu (by rw [hlen]; exact hw) ?_ (by rw [hlen]; exact hz)
 rw [hlen]
 refine ⟨.ref s.heap.objs.size, _, I.laid (t' := s.toks) (o := .tup (cutV xs lo hi)) (fun b ob q => Heap.get?_push_of_some _ q) (Nat.le_refl _) ?_, rfl, q _ (I.hok.fresh (Nat.le_refl _))⟩
 exact ⟨⟨Nat.le_trans (cutV_length xs lo hi) hz, _, Heap.get?_push_size _ rfl, rfl⟩, _, (r.drop (HT.sIx xs.length 0 lo)).take (HT.sIx xs.length xs.length hi - HT.sIx xs.length 0 lo), IsTup.new _ _⟩
def rCatT (K : PySem.W.Frag) : R2 := fun x y H Q => ∃ a b xs ys, x = .ref a ∧ y = .ref b ∧ SqT K H a xs ∧ SqT K H b ys ∧ xs ≠ [] ∧ xs.length + ys.length ≤ sizeLine ∧
 (ys = [] → Q (.ref a) H) ∧ (ys ≠ [] → ∀ p, H p = none → Q (.ref p) (upd H p (.tup (xs ++ ys))))
theorem Vals.nil_iff {xs : List V} {us : List Value} (r : Vals xs us) : us = [] ↔ xs = [] := by
 cases r with
 | nil => simp
 | cons _ _ => simp
theorem op_catT : OpR X (binaryOp .Add) (rCatT X.K) := by
 intro pins s σ H x y v u Q I rx ry h
 obtain ⟨a, b, xs, ys, rfl, rfl, ha, hb, hx, hz, q1, q2⟩ := h
 cases rx
 cases ry
 obtain ⟨its, r1, p1, _⟩ := I.tuple ha
 obtain ⟨its2, r2, p2, _⟩ := I.tuple hb
 refine HT.cat_tup p1 p2 (fun z => hx (r1.nil_iff.mp z)) (fun z => ⟨.ref a, H, I, rfl, q1 (r2.nil_iff.mp z)⟩) (fun z => ?_) (by rw [← r1.length, ← r2.length]; exact hz)
 refine ⟨.ref s.heap.objs.size, _, I.laid (t' := s.toks) (o := .tup (xs ++ ys)) (fun b ob q => Heap.get?_push_of_some _ q) (Nat.le_refl _) ?_, rfl, q2 (fun w => z (r2.nil_iff.mpr w)) _ (I.hok.fresh (Nat.le_refl _))⟩
 exact ⟨⟨by rw [List.length_append]; exact hz, _, Heap.get?_push_size _ rfl, rfl⟩, _, r1.append r2, IsTup.new _ _⟩
end
def ixN (n : Nat) (i : Int) : Option Nat := if 0 ≤ i then (if i < n then some i.toNat else none) else if -(n : Int) ≤ i then some (i + n).toNat else none
def atI {α : Type} (xs : List α) (i : Int) : Option α := (ixN xs.length i).bind fun j => xs[j]?
theorem ixN_seq {n : Nat} {i : Int} {j : Nat} (h : ixN n i = some j) : seqIndex? i n = some j ∧ j < n ∧ -(n : Int) ≤ i ∧ i < n := by
 unfold ixN at h
 by_cases h0 : 0 ≤ i
 ·rw [if_pos h0] at h
  by_cases h1 : i < n
  ·rw [if_pos h1] at h
   have e : i.toNat = j := Option.some.inj h
   exact ⟨by rw [seqIndex_of h0 h1, e], by omega, by omega, h1⟩
  ·rw [if_neg h1] at h; cases h
 ·rw [if_neg h0] at h
  by_cases h1 : -(n : Int) ≤ i
  ·rw [if_pos h1] at h
   have e : (i + n).toNat = j := Option.some.inj h
   exact ⟨by rw [seqIndex_neg (by omega) h1, e], by omega, h1, by omega⟩
  ·rw [if_neg h1] at h; cases h
theorem atI_get {α : Type} {xs : List α} {i : Int} {v : α} (h : atI xs i = some v) : ∃ j, seqIndex? i xs.length = some j ∧ xs[j]? = some v ∧ j < xs.length ∧ -(xs.length : Int) ≤ i ∧ i < xs.length := by
 unfold atI at h
 cases e : ixN xs.length i with
 | none => rw [e] at h; cases h
 | some j =>
  rw [e] at h
  obtain ⟨h1, h2, h3, h4⟩ := ixN_seq e
  exact ⟨j, h1, h, h2, h3, h4⟩
theorem atI_nat {α : Type} {xs : List α} {j : Nat} {v : α} (h : xs[j]? = some v) : atI xs (j : Int) = some v := by
 have hj : j < xs.length := (List.getElem?_eq_some_iff.mp h).1
 have e : ixN xs.length (j : Int) = some j := by
  unfold ixN
  rw [if_pos (by omega), if_pos (by omega)]; simp
 unfold atI; rw [e]; exact h
theorem atI_last {α : Type} (xs : List α) (v : α) : atI (xs ++ [v]) (-1) = some v := by
 have hl : (xs ++ [v]).length = xs.length + 1 := by simp
 have e : ixN (xs ++ [v]).length (-1) = some xs.length := by
  unfold ixN
  rw [hl, if_neg (by decide), if_pos (by omega)]
  congr 1
  omega
 unfold atI
 rw [e]
 show (xs ++ [v])[xs.length]? = some v
 simp
def PlainIx (b : Expr) : Prop := ∀ o i, subscripted b false o i = operate [o, i] (getItem o i)
def IxR (X : Cx) (r : R2) : Prop :=
 ∀ (value slice : Expr) (pins : List (Addr × Obj)) (s : Shared) (σ : St) (H : Hp) (x y : V) (v u : Value) (Q : VK), Inv X pins σ H s → RelV x v → RelV y u → r x y H Q →
  subscripted slice false v u = operate [v, u] (getItem v u) → wpAny (model X.prog X.w) X.A (subscriptTail value slice v u) (EP X pins σ Q) X.xe s
def MtR (X : Cx) (id : String) (r : V → List V → Hp → VK → Prop) : Prop :=
 ∀ (pins : List (Addr × Obj)) (s : Shared) (σ : St) (H : Hp) (x : V) (xs : List V) (v : Value) (us : List Value) (Q : VK), Inv X pins σ H s → RelV x v → Vals xs us → r x xs H Q →
  wpAny (model X.prog X.w) X.A (call (.builtin id) (v :: us)) (EP X pins σ Q) X.xe s
section
variable {X : Cx} {a b : Expr} {ta tb : TE} {pos : Pos}
theorem pe_ix {r : R2} (hr : IxR X r) (ha : PE X a ta) (hb : PE X b tb) (hs : PlainIx b) : PE X (.Subscript a b pos) (tOp r ta tb) := by
 intro pins s σ H Q I h
 exact Subscript_ (binT ha hb I h fun v u s2 x y H2 I2 rx ry q => hr a b pins s2 σ H2 x y v u Q I2 rx ry q (hs _ _))
def rIxL (K : PySem.W.Frag) : R2 := fun x y H Q => ∃ p xs i v, x = .ref p ∧ y = .int i ∧ SqL K H p xs ∧ atI xs i = some v ∧ Q v H
def rIxT (K : PySem.W.Frag) : R2 := fun x y H Q => ∃ p xs i v, x = .ref p ∧ y = .int i ∧ SqT K H p xs ∧ atI xs i = some v ∧ Q v H
def rIxS : R2 := fun x y H Q => ∃ z i c, x = .str z ∧ y = .int i ∧ z.length ≤ sizeLine ∧ atI z.cps.toList i = some c ∧ Q (.str ⟨#[c]⟩) H
theorem ix_list : IxR X (rIxL X.K) := by
 intro value slice pins s σ H x y v u Q I rx ry h hs
 obtain ⟨p, xs, i, z, rfl, rfl, hq, he, q⟩ := h
 cases rx
 obtain ⟨t, rfl⟩ := ry
 obtain ⟨its, r, pl, hz⟩ := I.list hq
 obtain ⟨j, h1, h2, h3, h4, h5⟩ := atI_get he
 obtain ⟨w, ew, rw'⟩ := r.get h2
 have hl := r.length
 have hn := line63
 have fin : EP X pins σ Q w s := ⟨z, H, I, rw', q⟩
 by_cases h0 : 0 ≤ i
 ·have hj : i.toNat = j := by
   rw [seqIndex_of h0 h5] at h1
   exact Option.some.inj h1
  exact item_listR pl.isList h0 (by omega) (by rw [hj]; simpa using ew) fin hs
 ·have hj : (i + (its.toArray.size : Int)).toNat = j := by
   rw [seqIndex_neg (by omega) h4] at h1
   rw [List.size_toArray, ← hl]
   exact Option.some.inj h1
  exact subscriptTail_builtinR (x := w) pl.isList.typeIs slot_list_getitem.lookup
   (wpAny_getItem_list_neg (Q := fun r s' => r = w ∧ EP X pins σ Q r s') pl.isList (by omega) (by rw [List.size_toArray] <;> omega) (by omega) (by rw [hj]; simpa using ew) ⟨rfl, fin⟩) hs
theorem ix_tup : IxR X (rIxT X.K) := by
 intro value slice pins s σ H x y v u Q I rx ry h hs
 obtain ⟨p, xs, i, z, rfl, rfl, hq, he, q⟩ := h
 cases rx
 obtain ⟨t, rfl⟩ := ry
 obtain ⟨its, r, pl, hz⟩ := I.tuple hq
 obtain ⟨j, h1, h2, h3, h4, h5⟩ := atI_get he
 obtain ⟨w, ew, rw'⟩ := r.get h2
 have hl := r.length
 have hn := line63
 have fin : EP X pins σ Q w s := ⟨z, H, I, rw', q⟩
 exact subscriptTail_builtinR (x := w) pl.typeIs slot_tuple_getitem.lookup
  (getItem_tuple (j := j) (Q := fun r s' => r = w ∧ EP X pins σ Q r s') pl (by omega) (by omega) (by rw [List.size_toArray, ← hl]; exact h1) (by simpa using ew) ⟨rfl, fin⟩) hs
theorem ix_str : IxR X rIxS := by
 intro value slice pins s σ H x y v u Q I rx ry h hs
 obtain ⟨z, i, c, rfl, rfl, hz, he, q⟩ := h
 obtain ⟨t, rfl⟩ := rx
 obtain ⟨t', rfl⟩ := ry
 obtain ⟨j, h1, h2, h3, h4, h5⟩ := atI_get he
 have hl : z.cps.toList.length = z.length := by simp [Str.length]
 rw [hl] at h1 h4 h5
 have hn := line63
 exact tail_any (typeIs_str s z t) slot_str_getitem.lookup (getItem_str (c := c) (by
  have e1 : decide (i < -(2 ^ 63 : Int)) = false := decide_eq_false (by omega)
  have e2 : decide (i ≥ 2 ^ 63) = false := decide_eq_false (by omega)
  rw [e1, e2, Bool.or_false]) (by rw [h1]; simpa using h2) ⟨.str ⟨#[c]⟩, H, I.tok _, ⟨_, rfl⟩, q⟩) hs
theorem slice_bounds (lo hi : Option Int) (n : Nat) : (sliceBounds lo hi none n).1 = ((HT.sIx n 0 lo : Nat) : Int) ∧ (sliceBounds lo hi none n).2.1 = ((HT.sIx n n hi : Nat) : Int) ∧ (sliceBounds lo hi none n).2.2 = 1 := by
 refine ⟨?_, ?_, rfl⟩
 ·cases lo with
  | none => simp [sliceBounds, HT.sIx]
  | some i =>
   simp only [sliceBounds, HT.sIx, Option.getD_none, show (1 : Int) > 0 by decide, if_true]
   by_cases h : i < 0
   ·simp only [h, if_true] <;> omega
   ·simp only [h, if_false] <;> omega
 ·cases hi with
  | none => simp [sliceBounds, HT.sIx]
  | some i =>
   simp only [sliceBounds, HT.sIx, Option.getD_none, show (1 : Int) > 0 by decide, if_true]
   by_cases h : i < 0
   ·simp only [h, if_true] <;> omega
   ·simp only [h, if_false] <;> omega
theorem slicePick_cut (its : List Value) (lo hi : Option Int) : slicePick its.toArray lo hi none = ((its.drop (HT.sIx its.length 0 lo)).take (HT.sIx its.length its.length hi - HT.sIx its.length 0 lo)).toArray := by
 obtain ⟨h1, h2, h3⟩ := slice_bounds lo hi its.toArray.size
 unfold slicePick
 rw [h1, h2, h3]
 simp only [sliceRange_one, pick_run, List.size_toArray] <;> rfl
def rSlL (K : PySem.W.Frag) : V → Option Int → Option Int → Hp → VK → Prop := fun x lo hi H Q => ∃ a xs, x = .ref a ∧ SqL K H a xs ∧ ∀ p, H p = none → Q (.ref p) (upd H p (.lst (cutV xs lo hi)))
theorem sl_list : SlR X (rSlL X.K) := by
 intro pins s σ H x v vl vu lo hi sl Q I rx hs pl pu h
 obtain ⟨a, xs, rfl, hx, q⟩ := h
 cases rx
 obtain ⟨its, r, ht, hz⟩ := I.list hx
 have hlen := r.length
 refine ⟨"list", _, slot_list_getitem.lookup, ht.isList.typeIs, ?_⟩
 refine wpAny_getItem_list_slice ht.isList hs pl pu .none (by simp) ?_ (by rw [List.size_toArray] <;> omega)
 rw [slicePick_cut, ← hlen]
 refine ⟨.ref s.heap.objs.size, _, I.laid (t' := s.toks) (o := .lst (cutV xs lo hi)) (fun b ob q => Heap.get?_push_of_some _ q) (Nat.le_refl _) ?_, rfl, q _ (I.hok.fresh (Nat.le_refl _))⟩
 exact ⟨Nat.le_trans (cutV_length xs lo hi) hz, _, 0, (r.drop (HT.sIx xs.length 0 lo)).take (HT.sIx xs.length xs.length hi - HT.sIx xs.length 0 lo), Heap.get?_push_size _ rfl⟩
def flatV : V → Bool
 | .non => true
 | .bl _ => true
 | .int _ => true
 | .str _ => true
 | _ => false
def eqV : V → V → Bool
 | .non, .non => true
 | .bl a, .bl b => a == b
 | .bl a, .int b => (if a then 1 else 0) == b
 | .int a, .bl b => a == (if b then 1 else 0)
 | .int a, .int b => a == b
 | .str a, .str b => a == b
 | _, _ => false
theorem eqAt_V {A : Around} {s : Shared} {y x : V} {u v : Value} (ry : RelV y u) (rx : RelV x v) (fy : flatV y = true) (fx : flatV x = true) : SeqAt.EqAt A s u v (eqV y x) := by
 cases y with
 | non =>
  cases ry
  cases x with
  | non => cases rx; exact SeqAt.EqAt.same _
  | bl b => cases rx; exact SeqAt.EqAt.none_bool b
  | int b => obtain ⟨t, rfl⟩ := rx; exact SeqAt.EqAt.none_int b t
  | str b => obtain ⟨t, rfl⟩ := rx; exact SeqAt.EqAt.none_str b t
  | _ => exact absurd (show false = true from fx) Bool.false_ne_true
 | bl a =>
  cases ry
  cases x with
  | non => cases rx; exact SeqAt.EqAt.bool_none a
  | bl b => cases rx; exact SeqAt.EqAt.bool_bool a b
  | int b => obtain ⟨t, rfl⟩ := rx; exact SeqAt.EqAt.bool_int a b t
  | str b => obtain ⟨t, rfl⟩ := rx; exact SeqAt.EqAt.bool_str a b t
  | _ => exact absurd (show false = true from fx) Bool.false_ne_true
 | int a =>
  obtain ⟨t', rfl⟩ := ry
  cases x with
  | non => cases rx; exact SeqAt.EqAt.int_none a t'
  | bl b => cases rx; exact SeqAt.EqAt.int_bool a t' b
  | int b => obtain ⟨t, rfl⟩ := rx; exact SeqAt.EqAt.int_int a t' b t
  | str b => obtain ⟨t, rfl⟩ := rx; exact SeqAt.EqAt.int_str a t' b t
  | _ => exact absurd (show false = true from fx) Bool.false_ne_true
 | str a =>
  obtain ⟨t', rfl⟩ := ry
  cases x with
  | non => cases rx; exact SeqAt.EqAt.str_none a t'
  | bl b => cases rx; exact SeqAt.EqAt.str_bool a t' b
  | int b => obtain ⟨t, rfl⟩ := rx; exact SeqAt.EqAt.str_int a t' b t
  | str b => obtain ⟨t, rfl⟩ := rx; exact SeqAt.EqAt.str_str a t' b t
  | _ => exact absurd (show false = true from fx) Bool.false_ne_true
 | _ => exact absurd (show false = true from fy) Bool.false_ne_true
def eqU (x : V) (u : Value) : Bool := match u with
 | .none => eqV .non x
 | .bool b => eqV (.bl b) x
 | .int i _ => eqV (.int i) x
 | .str z _ => eqV (.str z) x
 | _ => false
theorem eqU_of {x y : V} {u : Value} (r : RelV y u) (f : flatV y = true) : eqU x u = eqV y x := by
 cases y with
 | non => cases r; rfl
 | bl b => cases r; rfl
 | int i => obtain ⟨t, rfl⟩ := r; rfl
 | str z => obtain ⟨t, rfl⟩ := r; rfl
 | _ => exact absurd (show false = true from f) Bool.false_ne_true
theorem any_eqU {x : V} : ∀ {xs : List V} {us : List Value}, Vals xs us → xs.all flatV = true → us.any (eqU x) = xs.any fun y => eqV y x
 | _, _, .nil, _ => rfl
 | y :: xs, u :: us, .cons r t, f => by
  rw [List.all_cons, Bool.and_eq_true] at f
  rw [List.any_cons, List.any_cons, eqU_of r f.1, any_eqU t f.2]
theorem mem_eqAt {A : Around} {s : Shared} {x : V} {v : Value} (rx : RelV x v) (fx : flatV x = true) : ∀ {xs : List V} {us : List Value}, Vals xs us → xs.all flatV = true → ∀ u ∈ us, SeqAt.EqAt A s u v (eqU x u)
 | _, _, .nil, _ => fun u hu => by cases hu
 | y :: xs, u :: us, .cons r t, f => fun u' hu => by
  rw [List.all_cons, Bool.and_eq_true] at f
  rcases List.mem_cons.mp hu with rfl | hu
  ·rw [eqU_of r f.1]; exact eqAt_V r rx f.1 fx
  ·exact mem_eqAt rx fx t f.2 u' hu
def inV (x : V) (xs : List V) : Bool := xs.any fun y => eqV y x
def rIn (K : PySem.W.Frag) (neg : Bool) : R2 := fun x y H Q => ∃ p xs, y = .ref p ∧ (SqL K H p xs ∨ SqT K H p xs) ∧ flatV x = true ∧ xs.all flatV = true ∧ Q (.bl (if neg then !inV x xs else inV x xs)) H
theorem op_in_seq : OpR X (compareOp .In) (rIn X.K false) := by
 intro pins s σ H x y v u Q I rx ry h
 obtain ⟨p, xs, rfl, hq, fx, fs, q⟩ := h
 cases ry
 rcases hq with hq | hq
 ·obtain ⟨its, r, pl, hz⟩ := I.list hq
  refine SeqAt.in_listAt (eqU x) pl.isList (fun w hw => mem_eqAt rx fx r fs w (by simpa using hw)) ⟨.bl _, H, I, rfl, ?_⟩
  rw [show its.toArray.any (eqU x) = its.any (eqU x) by simp, any_eqU r fs]
  exact q
 ·obtain ⟨its, r, pl, hz⟩ := I.tuple hq
  refine SeqAt.in_tupleAt (eqU x) pl (fun w hw => mem_eqAt rx fx r fs w (by simpa using hw)) ⟨.bl _, H, I, rfl, ?_⟩
  rw [show its.toArray.any (eqU x) = its.any (eqU x) by simp, any_eqU r fs]
  exact q
theorem op_notIn_seq : OpR X (compareOp .NotIn) (rIn X.K true) := by
 intro pins s σ H x y v u Q I rx ry h
 obtain ⟨p, xs, rfl, hq, fx, fs, q⟩ := h
 cases ry
 rcases hq with hq | hq
 ·obtain ⟨its, r, pl, hz⟩ := I.list hq
  refine SeqAt.notIn_listAt (eqU x) pl.isList (fun w hw => mem_eqAt rx fx r fs w (by simpa using hw)) ⟨.bl _, H, I, rfl, ?_⟩
  rw [show its.toArray.any (eqU x) = its.any (eqU x) by simp, any_eqU r fs]
  exact q
 ·obtain ⟨its, r, pl, hz⟩ := I.tuple hq
  refine SeqAt.notIn_tupleAt (eqU x) pl (fun w hw => mem_eqAt rx fx r fs w (by simpa using hw)) ⟨.bl _, H, I, rfl, ?_⟩
  rw [show its.toArray.any (eqU x) = its.any (eqU x) by simp, any_eqU r fs]
  exact q
theorem call_tuple_of : CallR X (.type "tuple") (fun xs H Q => ∃ p ys, xs = [.ref p] ∧ ((SqL X.K H p ys ∧ ∀ l, H l = none → Q (.ref l) (upd H l (.tup ys))) ∨ (SqT X.K H p ys ∧ Q (.ref p) H))) := by
 intro pins s σ H xs us Q I r h
 obtain ⟨p, ys, rfl, h⟩ := h
 obtain ⟨u, rfl, rx⟩ := vals1 r
 cases rx
 rcases h with ⟨hq, q⟩ | ⟨hq, q⟩
 ·obtain ⟨its, r', pl, hz⟩ := I.list hq
  have hlen := r'.length
  refine call_tuple_list pl.isList (fun h' kp => ?_) (by simp only [List.size_toArray] <;> omega)
  have I1 : Inv X pins σ H { s with heap := h' } := I.kept (t' := s.toks) kp
  have I2 : Inv X pins σ (upd H h'.objs.size (.tup ys)) { s with heap := h'.push { cls := .type "tuple", data := .seq its.toArray } } :=
   I1.laid (t' := s.toks) (fun b o e => Heap.get?_push_of_some _ e) (Nat.le_refl _) (show ObjOk X.prog X.w _ _ _ (.tup ys) from ⟨⟨hz, _, Heap.get?_push_size _ rfl, rfl⟩, its, r', IsTup.new _ _⟩)
  exact ⟨.ref h'.objs.size, _, I2, rfl, q _ (I1.hok.fresh (Nat.le_refl _))⟩
 ·obtain ⟨its, r', pl, hz⟩ := I.tuple hq
  exact call_tuple_same pl ⟨.ref p, H, I, rfl, q⟩
def tyV (K : PySem.W.Frag) (T : String) (x : V) (H : Hp) : Prop := match x with
 | .str _ => T = "str"
 | .int _ => T = "int"
 | .ref p => (T = "list" ∧ ∃ xs, SqL K H p xs) ∨ (T = "tuple" ∧ ∃ o, K.lookup p = some o ∧ o.cls = .type "tuple" ∧ o.dict = none) ∨
   (T = "dict" ∧ ((∃ kvs, H p = some (.dK kvs)) ∨ ∃ kvs, H p = some (.dT kvs))) ∨ (T = "set" ∧ ∃ S n, H p = some (.set S n))
 | _ => False
theorem tyV_is {pins : List (Addr × Obj)} {σ : St} {H : Hp} {s : Shared} {T : String} {x : V} {v : Value} (I : Inv X pins σ H s) (r : RelV x v) (ty : tyV X.K T x H) :
  s.TypeIs v T ∧ ∀ a, v = .ref a → ∃ ob, s.heap.get? a = some ob ∧ ob.dict = none := by
 cases x with
 | str z =>
  obtain ⟨t, rfl⟩ := r
  cases (show T = "str" from ty)
  exact ⟨typeIs_str s z t, fun _ e => nomatch e⟩
 | int i =>
  obtain ⟨t, rfl⟩ := r
  cases (show T = "int" from ty)
  exact ⟨typeIs_int s i t, fun _ e => nomatch e⟩
 | ref p =>
  cases r
  rcases ty with ⟨rfl, xs, hq⟩ | ⟨rfl, o, hk, hc, hd⟩ | ⟨rfl, hk⟩ | ⟨rfl, S, n, hk⟩
  ·obtain ⟨its, _, pl, _⟩ := I.list hq
   refine ⟨pl.isList.typeIs, fun a e => ?_⟩
   cases e
   obtain ⟨o, n, e, c, hd, _⟩ := pl
   exact ⟨o, e, hd⟩
  ·refine ⟨⟨o, I.kIn p o hk, hc⟩, fun a e => ?_⟩
   cases e
   exact ⟨o, I.kIn _ o hk, hd⟩
  ·have z : ∃ o, s.heap.get? p = some o ∧ o.ExactDict := by
    rcases hk with ⟨kvs, hk⟩ | ⟨kvs, hk⟩
    ·obtain ⟨_, _, _, _, o, _, _, e, ex, _⟩ := I.hok p _ hk
     exact ⟨o, e, ex⟩
    ·obtain ⟨_, _, _, _, o, _, _, e, ex, _⟩ := I.hok p _ hk
     exact ⟨o, e, ex⟩
   obtain ⟨o, e, ex⟩ := z
   refine ⟨⟨o, e, ex.1⟩, fun a e2 => ?_⟩
   cases e2
   exact ⟨o, e, ex.2.1⟩
  ·obtain ⟨o, _, _, _, e, ex, _⟩ := I.hok p _ hk
   refine ⟨⟨o, e, ex.1⟩, fun a e2 => ?_⟩
   cases e2
   exact ⟨o, e, ex.2.1⟩
 | _ => exact False.elim ty
def tBM0 (K : PySem.W.Frag) (T : String) (r : V → List V → Hp → VK → Prop) (to : TE) : TE := fun σ H Q => to σ H fun x H1 => tyV K T x H1 ∧ r x [] H1 Q
def tBM (K : PySem.W.Frag) (T : String) (r : V → List V → Hp → VK → Prop) (to : TE) (t : TA) : TE := fun σ H Q => to σ H fun x H1 => tyV K T x H1 ∧ t σ H1 fun xs H2 => r x xs H2 Q
variable {o e : Expr} {es : List Expr} {to : TE} {t : TA} {name : Str} {apos cpos : Pos} {T id : String} {r : V → List V → Hp → VK → Prop}
theorem pe_bm0 (pa : PlainAttrs T) (slot : Slot T name id) (hty : typeOf (.builtin id) = pure (.type "method_descriptor")) (hm : MtR X id r) (ho : PE X o to)
  (hbase : attributeBase o name X.env (eval o X.env) = eval o X.env := by rfl) (hline : (apos.endLine == cpos.line) = true := by rfl) : PE X (.Call (.Attribute o name apos) [] [] cpos) (tBM0 X.K T r to) := by
 intro pins s σ H Q I h
 refine wpAny_Call_method0_late hbase hline (thn (ho pins s σ H _ I h) ?_)
 rintro v s1 ⟨x, H1, I1, r1, ty, q1⟩
 obtain ⟨h1, h2⟩ := tyV_is I1 r1 ty
 exact ⟨T, id, pa, slot, hty, h1, h2, Calls.callWith_builtin rfl (PySem.evalArgs_none (hm pins s1 σ H1 x [] v [] Q I1 r1 .nil q1))⟩
theorem pe_bm (pa : PlainAttrs T) (slot : Slot T name id) (hty : typeOf (.builtin id) = pure (.type "method_descriptor")) (hm : MtR X id r) (ho : PE X o to) (ha : PA X (e :: es) t)
  (hbase : attributeBase o name X.env (eval o X.env) = eval o X.env := by rfl)
  (hfew : ((backTo cpos (starEach (e :: es) X.env)).all (fun x => !x.1) && (backToKw cpos (keywordEach [] X.env)).all (fun x => x.1.isSome)
   && decide ((e :: es).length + ([] : List Keyword).length + (if ([] : List Keyword).isEmpty then 0 else 1) < 30)) = true := by rfl)
  (hline : (apos.endLine == cpos.line) = true := by rfl) (hs : starEach (e :: es) X.env = (false, eval e X.env) :: starEach es X.env := by rfl) (hplain : (backTo cpos (starEach es X.env)).any (·.1) = false := by rfl) :
  PE X (.Call (.Attribute o name apos) (e :: es) [] cpos) (tBM X.K T r to t) := by
 intro pins s σ H Q I h
 refine wpAny_Call_method_late hbase hfew hline rfl (thn (ho pins s σ H _ I h) ?_)
 rintro v s1 ⟨x, H1, I1, r1, ty, q1⟩
 obtain ⟨h1, h2⟩ := tyV_is I1 r1 ty
 refine ⟨T, id, pa, slot, hty, h1, h2, ?_⟩
 have hA := ha cpos pins s1 σ H1 _ I1 q1
 rw [hs] at hA ⊢
 refine Calls.callWith_builtin (by show (false || (backTo cpos (starEach es X.env)).any (·.1)) = false; rw [hplain] <;> rfl) (Calls.evalArgs_plain ?_)
 refine thn hA ?_
 rintro us s2 ⟨vs, H2, I2, r2, q2⟩
 exact hm pins s2 σ H2 x vs v us Q I2 r1 r2 q2
end
def MtM (X : Cx) (id : String) (r : V → List V → Hp → VK → Prop) : Prop :=
 ∀ (pins : List (Addr × Obj)) (s : Shared) (σ : St) (H : Hp) (x : V) (xs : List V) (v : Value) (us : List Value) (Q : VK), Inv X pins σ H s → RelV x v → Vals xs us → r x xs H Q →
  wpAny (model X.prog X.w) X.A (call (.builtin id) (v :: us)) (EP X pins σ Q) X.xe s
theorem Vals.one : ∀ {x : V} {us : List Value}, Vals [x] us → ∃ u, us = [u] ∧ RelV x u
 | _, _, .cons r .nil => ⟨_, rfl, r⟩
theorem Vals.zero : ∀ {us : List Value}, Vals [] us → us = []
 | _, .nil => rfl
theorem Vals.dropLast {xs : List V} {us : List Value} (h : Vals xs us) : Vals xs.dropLast us.dropLast := by
 induction h with
 | nil => exact .nil
 | cons r t ih =>
  cases t with
  | nil => exact .nil
  | cons q t' => exact .cons r ih
theorem erase_last {α : Type} (l : List α) : l.eraseIdx (l.length - 1) = l.dropLast := by
 induction l with
 | nil => rfl
 | cons a r ih =>
  cases r with
  | nil => rfl
  | cons b r =>
   have e : (a :: b :: r).length - 1 = ((b :: r).length - 1) + 1 := by
    have h1 : (a :: b :: r).length = r.length + 2 := rfl
    have h2 : (b :: r).length = r.length + 1 := rfl
    omega
   rw [e, List.eraseIdx_cons_succ, ih]
   all_goals rfl
section
variable {X : Cx} {pins : List (Addr × Obj)} {σ : St} {H : Hp} {s : Shared} {l b : Addr} {xs ys zs : List V}
theorem Inv.lset {its its' : List Value} {n : Nat} {f : Array Value → Array Value} {t' : Nat} (I : Inv X pins σ H s) (hH : H l = some (.lst xs))
  (e : s.heap.get? l = some { cls := .type "list", data := .seq its.toArray n }) (hf : f its.toArray = its'.toArray) (hv : Vals ys its') (hz : ys.length ≤ sizeLine) :
  Inv X pins σ (upd H l (.lst ys)) { s with heap := s.heap.update l (Obj.mapSeq f), toks := t' } := by
 have q := PySem.IsL.update e f
 rw [hf] at q
 refine I.write (x := l) (e := l) (by rw [hH]; exact trivial) (.inl rfl) (fun b' u hb hu => (Heap.get?_update_other s.heap (Obj.mapSeq f) (Ne.symm hb)).trans hu) ⟨_, q⟩ ?_
 exact ⟨hz, its', _, hv, q⟩
theorem Inv.lnew {its : List Value} {t' : Nat} (I : Inv X pins σ H s) (hv : Vals ys its) (hz : ys.length ≤ sizeLine) :
  Inv X pins σ (upd H s.heap.objs.size (.lst ys)) { s with heap := s.heap.push { cls := .type "list", data := .seq its.toArray }, toks := t' } :=
 I.laid (fun _ _ q => Heap.get?_push_of_some _ q) (Nat.le_refl _) ⟨hz, its, 0, hv, Heap.get?_push_size _ rfl⟩
theorem Inv.fresh (I : Inv X pins σ H s) : H s.heap.objs.size = none := I.hok.fresh (Nat.le_refl _)
theorem Inv.lstM (I : Inv X pins σ H s) (hH : H l = some (.lst xs)) : xs.length ≤ sizeLine ∧ ∃ (its : List Value) (n : Nat), Vals xs its ∧ xs.length = its.length ∧ s.heap.get? l = some { cls := .type "list", data := .seq its.toArray n } := by
 obtain ⟨z, its, n, r, e⟩ := I.hok l _ hH
 exact ⟨z, its, n, r, r.length, e⟩
theorem notLongL {n : Nat} (h : n ≤ sizeLine) : Builtin.List.listTooLong n = false := by
 unfold Builtin.List.listTooLong
 exact decide_eq_false (by omega)
end
section
variable {X : Cx}
def rAppend : V → List V → Hp → VK → Prop := fun x vs H Q => ∃ l xs y, x = .ref l ∧ vs = [y] ∧ H l = some (.lst xs) ∧ xs.length < sizeLine ∧ Q .non (upd H l (.lst (xs ++ [y])))
theorem mt_append : MtM X "list.append" rAppend := by
 intro pins s σ H x vs v us Q I rx rv h
 obtain ⟨l, xs, y, rfl, rfl, hH, hz, q⟩ := h
 cases rx
 obtain ⟨u, rfl, ru⟩ := rv.one
 obtain ⟨z, its, n, r, hl, e⟩ := I.lstM hH
 refine call_meets F.slot_list_append ⟨_, e, rfl⟩ F.entry_list_append (F.args_list_append_2 _ _) (PySem.list_append l its.toArray n u (by rw [List.size_toArray]; omega)) ⟨e, ?_⟩
 refine ⟨.non, _, I.lset (its' := its ++ [u]) hH e (by simp) (r.append (.cons ru .nil)) ?_, rfl, q⟩
 rw [List.length_append, List.length_singleton]
 omega
def rExtend : V → List V → Hp → VK → Prop := fun x vs H Q => ∃ l b xs zs, x = .ref l ∧ vs = [.ref b] ∧ H l = some (.lst xs) ∧ H b = some (.lst zs) ∧ xs.length + zs.length ≤ sizeLine ∧ Q .non (upd H l (.lst (xs ++ zs)))
theorem mt_extend : MtM X "list.extend" rExtend := by
 intro pins s σ H x vs v us Q I rx rv h
 obtain ⟨l, b, xs, zs, rfl, rfl, hH, hB, hz, q⟩ := h
 cases rx
 obtain ⟨u, rfl, ru⟩ := rv.one
 cases ru
 obtain ⟨z, its, n, r, hl, e⟩ := I.lstM hH
 obtain ⟨z2, its2, n2, r2, hl2, e2⟩ := I.lstM hB
 have hsz : its.toArray.size + its2.toArray.size ≤ sizeLine := by rw [List.size_toArray, List.size_toArray]; omega
 have hlong : ¬ (!its.toArray.isEmpty && Builtin.List.listTooLong (its.toArray.size + its2.toArray.size)) = true := by
  rw [notLongL hsz, Bool.and_false]
  exact Bool.false_ne_true
 refine call_meets F.slot_list_extend ⟨_, e, rfl⟩ F.entry_list_extend (F.args_list_extend_2 _ _)
  (AutoSeq1.list_extend_list_list_0 l its.toArray n b its2.toArray n2 hlong (by rw [List.size_toArray]; omega) (by omega)) ⟨e, e2, ?_⟩
 refine ⟨.non, _, I.lset (its' := its ++ its2) hH e (by simp) (r.append r2) ?_, rfl, q⟩
 rw [List.length_append]
 omega
def rPop : V → List V → Hp → VK → Prop := fun x vs H Q => ∃ l xs y, x = .ref l ∧ vs = [] ∧ H l = some (.lst xs) ∧ xs[xs.length - 1]? = some y ∧ Q y (upd H l (.lst xs.dropLast))
theorem mt_pop : MtM X "list.pop" rPop := by
 intro pins s σ H x vs v us Q I rx rv h
 obtain ⟨l, xs, y, rfl, rfl, hH, hy, q⟩ := h
 cases rx
 have hus := rv.zero
 subst hus
 obtain ⟨z, its, n, r, hl, e⟩ := I.lstM hH
 obtain ⟨u, hu, ru⟩ := r.get hy
 have hy' : its.toArray[its.toArray.size - 1]? = some u := by
  show its.toArray[its.length - 1]? = some u
  rw [← Array.getElem?_toList, ← hl]
  exact hu
 refine call_meets F.slot_list_pop ⟨_, e, rfl⟩ F.entry_list_pop (F.args_list_pop_1 _) (MeetsSeq.list_pop_last l its.toArray n u hy' (by rw [List.size_toArray]; omega)) ⟨e, ?_⟩
 refine ⟨y, _, I.lset (its' := its.dropLast) hH e ?_ r.dropLast ?_, ru, q⟩
 ·show its.toArray.eraseIdxIfInBounds (its.toArray.size - 1) = its.dropLast.toArray
  rw [List.size_toArray, List.eraseIdxIfInBounds_toArray, erase_last]
 ·rw [List.length_dropLast]
  omega
end
end L2
namespace Att
open PySem PySem.W PySem.Calls PyProof.Rows
theorem ints_of_wellAll {P : Params} {h : Heap} : ∀ (ns : List Int) (vs : List Value), WellAll P h vs (ns.map WData.int) → IntsAre vs ns := by
 intro ns
 induction ns with
 | nil =>
  intro vs w
  rw [List.map_nil] at w
  cases w
  exact .nil
 | cons n ns ih =>
  intro vs w
  rw [List.map_cons] at w
  cases w with
  | cons a b =>
   cases a
   exact .cons _ _ (ih _ b)
theorem script_of {l : OpenLaw} {n : Nat} (hn : l.most = some n) {P : Params} {h : Heap} {args : List WData} {vals : List Value}
  (hpre : l.row.toRowW.claim.pre args = true) (hwl : WellAll P h vals args) :
  ∃ a vs ns, vals = [Value.ref a] ∧ args = [WData.list (ns.map WData.int)] ∧ h.get? a = some { cls := .type "list", data := .seq vs.toArray } ∧ IntsAre vs ns ∧ ns.length ≤ n := by
 have hsh : WShape.hasAll [] args [.list .int] = true := (pre_splitW hpre).1
 have hc : l.pre.holds [] { args := args } = true := (pre_splitW hpre).2
 obtain ⟨d, r, rfl, h1, h2⟩ := hasAllW_cons hsh
 obtain rfl := hasAllW_nil h2
 obtain ⟨xs, rfl, h3⟩ := hasW_list h1
 obtain ⟨ns, rfl⟩ := items_int h3
 have hlen : ns.length ≤ n := by
  unfold OpenLaw.pre at hc
  have h4 : (WTm.not (.lt (.lit (.int (n : Int))) (.len (.arg 0)))).holds [] { args := [.list (ns.map .int)] } = true := by
   have h4 := (holds_andW hc).1
   rw [hn] at h4
   exact h4
  have h5 := condW_of h4 (w_not (w_lt w_lit (w_len_list (w_arg rfl))))
  rw [List.length_map] at h5
  refine Nat.le_of_not_lt fun q => ?_
  have q' : (n : Int) < ((ns.length : Nat) : Int) := by omega
  first
   | (rw [decide_eq_true q'] at h5; exact absurd h5 (by decide))
   | (simp at h5; omega)
 cases hwl with
 | cons w1 w2 =>
  cases w2
  cases w1 with
  | list ho hall => exact ⟨_, _, ns, rfl, rfl, ho, ints_of_wellAll ns _ hall, hlen⟩
theorem post_true (l : OpenLaw) (args : List WData) : l.row.toRowW.claim.post args (.bool true) args = true :=
 postW_of (r := l.row.toRowW) (X := (true == true))
  (show WShape.has [] (.bool true) .bool = true by first | rfl | decide | simp [WShape.has, WShape.arms, WShape.armsAll])
  (show (WTm.eq .res (.lit (.bool true))).value [] { args := args, res := some (.bool true), after := args } = some (.bool (true == true)) from w_eq_bool (w_res rfl) w_lit) rfl
theorem attach_call {l : OpenLaw} {n : Nat} {q : Program} {loose : List Str} {XP : (Str → Option Value) → Heap → Prop} {YP : World → Heap → Prop} {d : DefRec}
  (hn : l.most = some n) (hdf : d.params.defaults = [])
  (call : ∀ (w : World) (s₀ s₁ : Shared) (mg mb : Str → Option Value) (fa : Addr) (o : Obj) (pm cd doc : Value) (a : Addr) (vs : List Value) (ns : List Int),
   Ground q loose [] XP w s₀ mg mb s₁.heap → YP w s₁.heap →
   s₁.heap.get? fa = some o → o.data = .func (docDef d.name d.params d.body d.scope pm cd doc) → s₁.heap.CodeRec cd d.name → mg d.name = some (.ref fa) →
   s₁.heap.get? a = some { cls := .type "list", data := .seq vs.toArray } → IntsAre vs ns → ns.length ≤ n → s₁.gens = #[] →
   codeAny (model l.prog w) callerA (.call (.ref fa) ⟨[.ref a], []⟩) (fun r s' => r = .ok (.ret (.bool true)) ∧ OldK s₁.heap s'.heap ∧ s'.os = s₁.os ∧ AllBare s'.gens) s₁) :
  WalkO q loose XP YP l.row.toRowW d [] (fun f vs => PySem.call f vs) := by
 intro w s₀ s₁ mg mb G Y fa o pm cd doc dV kV ho hd hcd hD hmg hg args vals as hpre hlay hrd hwl hlo
 obtain rfl : dV = .none := Dflts.none hD hdf
 obtain rfl : kV = .none := Dflts.noKw hD
 obtain ⟨a, vs, ns, rfl, rfl, hobj, hints, hlen⟩ := script_of hn hpre hwl
 refine enter_call (codeAny_mono (call w s₀ s₁ mg mb fa o pm cd doc a vs ns G Y ho (fd_plain hd) hcd hmg hobj hints hlen hg) fun r s' hq => ?_)
 obtain ⟨rfl, h2, h3, h4⟩ := hq
 exact ⟨.inl ⟨.bool true, .bool true, [], rfl, fun _ => rfl, .bool true, post_true l _, fun _ => ⟨List.Pairwise.nil, fun _ hm => (nomatch hm)⟩⟩, h2, h3, h4⟩
end Att
namespace L2
open PySem PySem.Spec PyProof.Rows
theorem vals_ints : ∀ {vs : List Value} {ns : List Int}, IntsAre vs ns → Vals (ns.map V.int) vs
 | _, _, .nil => .nil
 | _, _, .cons n t h => .cons ⟨t, rfl⟩ (vals_ints h)
def defArgs (s : Stmt) : Arguments := match s with
 | .FunctionDef _ a _ _ _ _ _ _ _ _ => a
 | _ => { posonlyargs := [], args := [], vararg := none, kwonlyargs := [], kw_defaults := [], kwarg := none, defaults := [] }
def defBody (s : Stmt) : List Stmt := match s with
 | .FunctionDef _ _ b _ _ _ _ _ _ _ => b
 | _ => []
def defScope (s : Stmt) : Scope := match s with
 | .FunctionDef _ _ _ _ _ _ sc _ _ _ => sc
 | _ => { kind := .function, names := [], isGenerator := false, isCoroutine := false }
abbrev CX0 : CXT := fun _ _ _ _ _ _ => False
abbrev E0 : XK := fun _ _ _ => False
theorem pass0 {X : Cx} : Passes CX0 X E0 := fun _ _ _ _ _ _ _ h => h.elim
structure Fun (K : PySem.W.Frag) (x qual : Str) (st : Stmt) (f : Addr) (fd : FuncData) : Prop where
 ex : ∃ (oc : Value) (od : Option Addr) (kV doc pm : Value) (an : Option Addr) (cdv ct : Value) (osl : Array (Option Value)),
  fd = PySem.W.fnOf x qual (defArgs st) (defBody st) (defScope st) .none kV doc pm an cdv ct ∧ K.lookup f = some ⟨oc, od, .func fd, osl⟩ ∧ PySem.W.codeIn K cdv qual = true
 kp : PySem.W.keepIn K (.ref f) = true
section
variable {P : Program} {w : World} {K : PySem.W.Frag} {mg : Str → Option Value} {base : Heap}
theorem Fun.ok {x qual : Str} {st : Stmt} {f : Addr} {fd : FuncData} {N ps : List Str} {k : Nat} {sp : Sp} (F : Fun K x qual st f fd) (S : FnScope N ps (defScope st)) (len : ∀ vs H Q E, sp vs H Q E → vs.length = ps.length)
  (hbody : ∀ (cdv : Value) (A : Around) (outer : List Env) (s : Shared) (H : Hp) (vs : List V) (Q : VK) (E : XK), Room k (A.deeper (envOfC qual (defScope st) s.heap.objs.size f cdv)) → sp vs H Q E →
   ∃ t, PSs (cxOf CX0 P w K mg base N qual (defScope st) f cdv A outer s H E).nox (defBody st) t ∧ t { nx := fun _ H' => Q .non H', rt := Q } (start N vs) H) : FnOk P w K mg base CX0 (k + 1) f fd ps sp := by
 obtain ⟨oc, od, kV, doc, pm, an, cdv, ct, osl, rfl, lk, hcd⟩ := F.ex
 refine fn_of lk hcd S len fun A outer s H vs Q E hr hsp => ?_
 obtain ⟨t, h, q⟩ := hbody cdv A outer s H vs Q E hr hsp
 exact ⟨t, h.nox, q⟩
theorem Fun.binds {x qual : Str} {st : Stmt} {f : Addr} {fd : FuncData} {ps : List Str} (F : Fun K x qual st f fd)
  (h : ∀ (kV doc pm : Value) (an : Option Addr) (cdv ct : Value) (us : List Value), us.length = ps.length → bindArgs (PySem.W.fnOf x qual (defArgs st) (defBody st) (defScope st) .none kV doc pm an cdv ct) ⟨us, []⟩ = pure (ps.zip us)) : Binds K fd ps [] := by
 obtain ⟨oc, od, kV, doc, pm, an, cdv, ct, osl, rfl, lk, hcd⟩ := F.ex
 exact .all (h kV doc pm an cdv ct)
theorem fun_mk {x qual : Str} {st : Stmt} {f : Addr} {oc : Value} {od an : Option Addr} {osl : Array (Option Value)} {kV doc pm cdv ct : Value} (l : K.lookup f = some ⟨oc, od, .func (PySem.W.fnOf x qual (defArgs st) (defBody st) (defScope st) .none kV doc pm an cdv ct), osl⟩)
  (c : PySem.W.codeIn K cdv qual = true) (k : PySem.W.keepIn K (.ref f) = true) : Fun K x qual st f (PySem.W.fnOf x qual (defArgs st) (defBody st) (defScope st) .none kV doc pm an cdv ct) := ⟨⟨oc, od, kV, doc, pm, an, cdv, ct, osl, rfl, l, c⟩, k⟩
end
theorem hu_of {A : Around} {k : Nat} (hr : Room k A) : A.units + 1 < cLine := Nat.lt_of_le_of_lt (Nat.add_le_add_left (by decide : 1 ≤ 64) _) hr.units
section
variable {X : Cx}
theorem pv (i : Nat) {x : Str} {pos : Pos} (hN : X.N[i]? = some x := by rfl) (hv : Vis X.env.scope x := by first | exact Or.inl rfl | exact Or.inr (Or.inl rfl) | exact Or.inr (Or.inr rfl)) (hd : (x == ("__debug__" : Str)) = false := by decide)
  (hcd : (x == ("__classdict__" : Str)) = false := by decide) : PE X (.Name x pos) (tVar i) := pe_var hN hv hd hcd
end
theorem iteF {A B : Prop} (h : B) : if false = true then A else B := by
 rw [if_neg Bool.false_ne_true]
 exact h
theorem iteT {A B : Prop} (h : A) : if true = true then A else B := by
 rw [if_pos rfl]
 exact h
theorem ite2 {c A B : Prop} [Decidable c] (h1 : c → A) (h2 : ¬ c → B) : if c then A else B := by
 by_cases h : c
 ·rw [if_pos h]
  exact h1 h
 ·rw [if_neg h]
  exact h2 h
def Same (H H' : Hp) : Prop := ∀ b o, H b = some o → H' b = some o
theorem Same.refl (H : Hp) : Same H H := fun _ _ h => h
theorem Same.trans {H H1 H2 : Hp} (a : Same H H1) (b : Same H1 H2) : Same H H2 := fun c o h => b c o (a c o h)
theorem Same.free {H H' : Hp} (e : Same H H') {l : Addr} (h : H' l = Option.none) : H l = Option.none := by
 cases q : H l with
 | none => rfl
 | some o =>
  rw [e l o q] at h
  cases h
theorem Same.seq {K : PySem.W.Frag} {H H' : Hp} {a : Addr} {xs : List V} (e : Same H H') (h : SqL K H a xs) : SqL K H' a xs := by
 rcases h with (h | ⟨o, h⟩) | h
 ·exact .inl (.inl (e _ _ h))
 ·exact .inl (.inr ⟨o, e _ _ h⟩)
 ·exact .inr h
section
variable {κ : Type} [DecidableEq κ]
def valV (kvs : List (κ × V)) (k : κ) : Option V := (kvs.find? fun kv => decide (kv.1 = k)).map (·.2)
def putK (kvs : List (κ × V)) (k : κ) (v : V) : List (κ × V) :=
 if (kvs.any fun kv => decide (kv.1 = k)) = true then kvs.map (fun kv => if kv.1 = k then (kv.1, v) else kv) else kvs ++ [(k, v)]
theorem valV_nil {k : κ} : valV ([] : List (κ × V)) k = none := rfl
theorem valV_pos {p : κ × V} {r : List (κ × V)} {k : κ} (e : p.1 = k) : valV (p :: r) k = some p.2 := by simp [valV, List.find?_cons, e]
theorem valV_neg {p : κ × V} {r : List (κ × V)} {k : κ} (e : ¬ p.1 = k) : valV (p :: r) k = valV r k := by simp [valV, List.find?_cons, e]
theorem valV_any (k : κ) : ∀ kvs : List (κ × V), (kvs.any fun kv => decide (kv.1 = k)) = (valV kvs k).isSome
 | [] => rfl
 | p :: r => by
  rw [List.any_cons]
  by_cases e : p.1 = k
  ·simp only [valV_pos e, decide_eq_true e, Bool.true_or, Option.isSome_some]
  ·rw [valV_neg e, decide_eq_false e, Bool.false_or]; exact valV_any k r
theorem length_putK (kvs : List (κ × V)) (k : κ) (v : V) : (putK kvs k v).length ≤ kvs.length + 1 := by
 unfold putK
 split
 ·rw [List.length_map]; omega
 ·rw [List.length_append, List.length_cons, List.length_nil]; omega
theorem putK_new {kvs : List (κ × V)} {k : κ} (v : V) (h : valV kvs k = none) : putK kvs k v = kvs ++ [(k, v)] := by
 unfold putK
 rw [valV_any, h]
 exact if_neg (by decide)
theorem RelO.isSome_eq {o : Option V} {u : Option Value} (r : RelO o u) : o.isSome = u.isSome := by
 cases o with
 | none => cases u with
  | none => rfl
  | some _ => exact (show False from r).elim
 | some _ => cases u with
  | none => exact (show False from r).elim
  | some _ => rfl
theorem KV.val {kvs : List (κ × V)} {vs : List (κ × Value)} (r : KV kvs vs) (k : κ) : RelO (valV kvs k) (valueAt vs k) := by
 unfold KV at r
 induction r with
 | nil => exact True.intro
 | @cons p q ps qs h t ih =>
  obtain ⟨h1, h2⟩ := h
  by_cases e : p.1 = k
  ·have e' : q.1 = k := h1.symm.trans e
   have b : valueAt (q :: qs) k = some q.2 := by simp [valueAt, List.find?_cons, e']
   rw [valV_pos e, b]; exact h2
  ·have e' : ¬ q.1 = k := fun z => e (h1.trans z)
   have b : valueAt (q :: qs) k = valueAt qs k := by simp [valueAt, List.find?_cons, e']
   rw [valV_neg e, b]; exact ih
theorem KV.any {kvs : List (κ × V)} {vs : List (κ × Value)} (r : KV kvs vs) (k : κ) : (kvs.any fun kv => decide (kv.1 = k)) = vs.any fun kv => decide (kv.1 = k) := by
 unfold KV at r
 induction r with
 | nil => rfl
 | cons h t ih => rw [List.any_cons, List.any_cons, ih, h.1]
theorem KV.repl {kvs : List (κ × V)} {vs : List (κ × Value)} (r : KV kvs vs) (k : κ) {y : V} {u : Value} (ry : RelV y u) :
  KV (kvs.map fun kv => if kv.1 = k then (kv.1, y) else kv) (vs.map fun kv => if kv.1 = k then (kv.1, u) else kv) := by
 unfold KV at r ⊢
 induction r with
 | nil => exact .nil
 | @cons p q ps qs h t ih =>
  rw [List.map_cons, List.map_cons]
  refine .cons ?_ ih
  obtain ⟨h1, h2⟩ := h
  by_cases e : p.1 = k
  ·rw [if_pos e, if_pos (h1.symm.trans e)]; exact ⟨h1, ry⟩
  ·rw [if_neg e, if_neg (fun z => e (h1.trans z))]; exact ⟨h1, h2⟩
theorem KV.put {kvs : List (κ × V)} {vs : List (κ × Value)} (r : KV kvs vs) (k : κ) {y : V} {u : Value} (ry : RelV y u) : KV (putK kvs k y) (stored vs k u) := by
 unfold putK stored
 rw [r.any k]
 by_cases e : (vs.any fun kv => decide (kv.1 = k)) = true
 ·rw [if_pos e, if_pos e]; exact r.repl k ry
 ·rw [if_neg e, if_neg e]; exact Paired.snoc r ⟨rfl, ry⟩
theorem KV.length {kvs : List (κ × V)} {vs : List (κ × Value)} (r : KV kvs vs) : kvs.length = vs.length := Paired.length r
end
theorem kV_is {P : Program} {w : World} {k : Key} {u : Value} (r : RelV (kV k) u) : (mixKind P w).is k u = true := by
 cases k with
 | inl i => obtain ⟨t, e⟩ := (show ∃ t, u = Value.int i t from r); subst e; exact mixKind_int P w i t
 | inr x => obtain ⟨t, e⟩ := (show ∃ t, u = Value.str x t from r); subst e; exact mixKind_str P w x t
theorem items_are {P : Program} {w : World} : ∀ {ks : List Key} {us : List Value}, Vals (ks.map kV) us → ItemsAre (mixKind P w) ks us
 | [], _, r => by rw [List.map_nil] at r; cases r; exact .nil
 | k :: ks, _, r => by
  rw [List.map_cons] at r
  cases r with
  | cons h t => exact .cons (kV_is h) (items_are t)
abbrev KT (H : Hp) : List (List Key × V) → List (List Key × Addr × Value) → Prop := Paired fun p q => p.1 = q.1 ∧ H q.2.1 = some (.tup (p.1.map kV)) ∧ RelV p.2 q.2.2
theorem KT.val {H : Hp} {kvs : List (List Key × V)} {xs : List (List Key × Addr × Value)} (r : KT H kvs xs) (k : List Key) : RelO (valV kvs k) ((atKey xs k).map (·.2)) := by
 induction r with
 | nil => exact True.intro
 | @cons p q ps qs h t ih =>
  obtain ⟨h1, _, h2⟩ := h
  by_cases e : p.1 = k
  ·have e' : q.1 = k := h1.symm.trans e
   have b : atKey (q :: qs) k = some q.2 := by simp [atKey, List.find?_cons, e']
   rw [valV_pos e, b]; exact h2
  ·have e' : ¬ q.1 = k := fun z => e (h1.trans z)
   have b : atKey (q :: qs) k = atKey qs k := by simp [atKey, List.find?_cons, e']
   rw [valV_neg e, b]; exact ih
theorem KT.repl {H : Hp} {kvs : List (List Key × V)} {xs : List (List Key × Addr × Value)} (r : KT H kvs xs) (k : List Key) {y : V} {u : Value} (ry : RelV y u) :
  KT H (kvs.map fun kv => if kv.1 = k then (kv.1, y) else kv) (xs.map (putAt k u)) := by
 induction r with
 | nil => exact .nil
 | @cons p q ps qs h t ih =>
  rw [List.map_cons, List.map_cons]
  refine .cons ?_ ih
  obtain ⟨h1, h2, h3⟩ := h
  unfold putAt
  by_cases e : p.1 = k
  ·rw [if_pos e, if_pos (h1.symm.trans e)]; exact ⟨h1, h2, ry⟩
  ·rw [if_neg e, if_neg (fun z => e (h1.trans z))]; exact ⟨h1, h2, h3⟩
theorem KT.put {H : Hp} {kvs : List (List Key × V)} {xs : List (List Key × Addr × Value)} (r : KT H kvs xs) (k : List Key) {b : Addr} {y : V} {u : Value} (hb : H b = some (.tup (k.map kV))) (ry : RelV y u) :
  KT H (putK kvs k y) (storedH xs k b u) := by
 have e : (kvs.any fun kv => decide (kv.1 = k)) = (atKey xs k).isSome := by
  rw [valV_any, (r.val k).isSome_eq, Option.isSome_map]
 unfold putK storedH
 rw [e]
 by_cases q : (atKey xs k).isSome = true
 ·rw [if_pos q, if_pos q]; exact r.repl k ry
 ·rw [if_neg q, if_neg q]; exact Paired.snoc r ⟨rfl, hb, ry⟩
theorem KT.keeps {H H' : Hp} {kvs : List (List Key × V)} {xs : List (List Key × Addr × Value)} (r : KT H kvs xs) (ht : ∀ b ys, H b = some (.tup ys) → H' b = some (.tup ys)) : KT H' kvs xs :=
 Paired.mapP r fun _ _ z => ⟨z.1, ht _ _ z.2.1, z.2.2⟩
section
variable {P : Program} {w : World} {H : Hp} {h : Heap} {a : Addr}
theorem rd_of {u : HO} (ok : HOk P w H h) (e : Rd H a u) : ObjOk P w H h a u := e.ok ok
theorem dk_rd {kvs : List (Key × V)} (ok : HOk P w H h) (e : Rd H a (.dK kvs)) : kvs.length ≤ sizeLine ∧ (a == sysModules) = false ∧ ∃ vs, KV kvs vs ∧ h.DictOf (mixKind P w) a vs :=
 show ObjOk P w H h a (.dK kvs) from rd_of ok e
theorem dk_of {kvs : List (Key × V)} (ok : HOk P w H h) (e : H a = some (.dK kvs)) : kvs.length ≤ sizeLine ∧ (a == sysModules) = false ∧ ∃ vs, KV kvs vs ∧ h.DictOf (mixKind P w) a vs := dk_rd ok (.inl e)
theorem key_of {ks : List Key} (ok : HOk P w H h) (e : H a = some (.tup (ks.map kV))) : (tupleKind (mixKind P w)).is h ks a := by
 obtain ⟨_, its, r, o, h1, h2, n, h3⟩ := (show ObjOk P w H h a (.tup (ks.map kV)) from ok a _ e)
 exact ⟨o, its.toArray, n, h1, h2, h3, by simpa using items_are r⟩
theorem dt_rd {kvs : List (List Key × V)} (ok : HOk P w H h) (e : Rd H a (.dT kvs)) : kvs.length ≤ sizeLine ∧ (a == sysModules) = false ∧
  ∃ xs, KT H kvs xs ∧ h.DictOfH (tupleKind (mixKind P w)) a xs := by
 obtain ⟨z, y, xs, r, o, es, ep, h1, h2, h3, h4, h5⟩ := (show ObjOk P w H h a (.dT kvs) from rd_of ok e)
 refine ⟨z, y, xs, r, o, es, ep, h1, h2, h3, h4, fun x hx => ?_, h5⟩
 have all : ∀ {l : List (List Key × V)} {m : List (List Key × Addr × Value)}, KT H l m → ∀ x ∈ m, (tupleKind (mixKind P w)).is h x.1 x.2.1 := by
  intro l m q
  induction q with
  | nil => intro x hx; exact nomatch hx
  | @cons p q ps qs hq t ih =>
   intro x hx
   rcases List.mem_cons.mp hx with e | hx
   ·subst e
    exact key_of ok (by rw [← hq.1]; exact hq.2.1)
   ·exact ih x hx
 exact all r x hx
theorem dt_of {kvs : List (List Key × V)} (ok : HOk P w H h) (e : H a = some (.dT kvs)) : kvs.length ≤ sizeLine ∧ (a == sysModules) = false ∧
  ∃ xs, KT H kvs xs ∧ h.DictOfH (tupleKind (mixKind P w)) a xs := dt_rd ok (.inl e)
end
def DGet (H : Hp) (a : Addr) (y : V) (r : Option V) : Prop :=
 (∃ kvs k, Rd H a (.dK kvs) ∧ y = kV k ∧ r = valV kvs k) ∨ ∃ kvs k b, Rd H a (.dT kvs) ∧ y = .ref b ∧ H b = some (.tup (k.map kV)) ∧ r = valV kvs k
def DPut (H : Hp) (a : Addr) (y v : V) (H' : Hp) : Prop :=
 (∃ kvs k, H a = some (.dK kvs) ∧ y = kV k ∧ kvs.length < sizeLine ∧ H' = upd H a (.dK (putK kvs k v))) ∨
 ∃ kvs k b, H a = some (.dT kvs) ∧ y = .ref b ∧ H b = some (.tup (k.map kV)) ∧ kvs.length < sizeLine ∧ H' = upd H a (.dT (putK kvs k v))
theorem DPut.k {H : Hp} {a : Addr} {kvs : List (Key × V)} {k : Key} {v : V} (e : H a = some (.dK kvs)) (hl : kvs.length < sizeLine) : DPut H a (kV k) v (upd H a (.dK (putK kvs k v))) := .inl ⟨kvs, k, e, rfl, hl, rfl⟩
theorem DPut.t {H : Hp} {a b : Addr} {kvs : List (List Key × V)} {k : List Key} {v : V} (e : H a = some (.dT kvs)) (eb : H b = some (.tup (k.map kV))) (hl : kvs.length < sizeLine) :
  DPut H a (.ref b) v (upd H a (.dT (putK kvs k v))) := .inr ⟨kvs, k, b, e, rfl, eb, hl, rfl⟩
section
variable {X : Cx} {pins : List (Addr × Obj)} {σ : St} {H : Hp} {s : Shared} {a : Addr} {y v : V} {u r : Value} {o : Option V} {A : Around} {E : Value → Shared → Prop}
theorem Inv.big (I : Inv X pins σ H s) : sysModules < s.heap.objs.size := by
 have h : mainGlobals < s.heap.objs.size := (I.mod.glob.keeps I.bk).lt
 exact Nat.lt_trans (by decide) h
theorem d_getItem {Q : Value → Shared → Prop} (hu : A.units + 1 < cLine) (I : Inv X pins σ H s) (g : DGet H a y (some v)) (ry : RelV y u) (h : ∀ w' s', Inv X pins σ H s' → RelV v w' → Q w' s') :
  wpAny (model X.prog X.w) A (getItem (.ref a) u) Q E s := by
 rcases g with ⟨kvs, k, e, ey, l⟩ | ⟨kvs, k, b, e, ey, eb, l⟩
 ·subst ey
  obtain ⟨z, hd, vs, rel, dd⟩ := dk_rd I.hok e
  obtain ⟨w', hw, rw'⟩ := RelO.some_of (v := v) (o := valueAt vs k) (by rw [l]; exact rel.val k)
  exact wpAny_getItem_of (kV_is ry) dd.mapOf hw (h w' _ (I.tok _) rw')
 ·subst ey
  cases (show u = Value.ref b from ry)
  obtain ⟨z, hd, xs, rel, dd⟩ := dt_rd I.hok e
  obtain ⟨w', hw, rw'⟩ := RelO.some_of (v := v) (o := (atKey xs k).map (·.2)) (by rw [l]; exact rel.val k)
  obtain ⟨p, hp, hp2⟩ := Option.map_eq_some_iff.mp hw
  refine wpAny_getItem_heap (tupleKind_room_in1 hu) (key_of I.hok eb) dd hp ?_
  rw [hp2]
  exact h w' _ (I.tok _) rw'
theorem d_notIn {Q : Value → Shared → Prop} (hu : A.units + 1 < cLine) (I : Inv X pins σ H s) (g : DGet H a y o) (ry : RelV y u) (h : ∀ s', Inv X pins σ H s' → Q (.bool (!o.isSome)) s') :
  wpAny (model X.prog X.w) A (compareOp .NotIn u (.ref a)) Q E s := by
 rcases g with ⟨kvs, k, e, ey, l⟩ | ⟨kvs, k, b, e, ey, eb, l⟩
 ·subst ey
  obtain ⟨z, hd, vs, rel, dd⟩ := dk_rd I.hok e
  refine wpAny_notIn_of (kV_is ry) hd dd.mapOf ?_
  rw [← (rel.val k).isSome_eq, ← l]
  exact h _ (I.tok _)
 ·subst ey
  cases (show u = Value.ref b from ry)
  obtain ⟨z, hd, xs, rel, dd⟩ := dt_rd I.hok e
  refine wpAny_notIn_heap (tupleKind_room_in1 hu) (key_of I.hok eb) hd dd ?_
  have q := (rel.val k).isSome_eq
  rw [Option.isSome_map] at q
  rw [← q, ← l]
  exact h _ (I.tok _)
theorem d_write {h' : Heap} {t' : Nat} {ob : HO} (I : Inv X pins σ H s) (mu : Mut (H a)) (hs : Heap.SameBut a s.heap h') (he : ∃ q, h'.get? a = some q) (new : ObjOk X.prog X.w (upd H a ob) h' a ob) :
  Inv X pins σ (upd H a ob) { s with heap := h', toks := t' } :=
 I.write (x := a) (e := a) mu (.inl rfl) (fun b q hb z => (hs.2 b hb).trans z) he new
theorem dk_new {P : Program} {w : World} {H' : Hp} {h' : Heap} {kvs : List (Key × V)} {vs : List (Key × Value)} (z : kvs.length ≤ sizeLine) (hd : (a == sysModules) = false) (rel : KV kvs vs) (dd : h'.DictOf (mixKind P w) a vs) :
  ObjOk P w H' h' a (.dK kvs) := ⟨z, hd, vs, rel, dd⟩
theorem d_setItem {H' : Hp} {Q : Unit → Shared → Prop} (hu : A.units + 1 < cLine) (I : Inv X pins σ H s) (g : DPut H a y v H') (ry : RelV y u) (rv : RelV v r) (h : ∀ s', Inv X pins σ H' s' → Q () s') :
  wpAny (model X.prog X.w) A (setItem (.ref a) u r) Q E s := by
 rcases g with ⟨kvs, k, e, ey, l, eH⟩ | ⟨kvs, k, b, e, ey, eb, l, eH⟩
 ·subst ey eH
  obtain ⟨z, hd, vs, rel, dd⟩ := dk_of I.hok e
  have hz : vs.length ≤ sizeLine := by rw [← rel.length]; exact z
  have hl : (putK kvs k v).length ≤ sizeLine := by have := length_putK kvs k v; omega
  refine wpAny_setItem_pairs (hsz := hz) (kV_is ry) dd fun h' dd' hs => h _ ?_
  have he : ∃ q, h'.get? a = some q := let ⟨q, _, _, hq, _⟩ := dd'; ⟨q, hq⟩
  exact d_write I (by rw [e]; exact True.intro) hs he (dk_new hl hd (rel.put k rv) dd')
 ·subst ey eH
  cases (show u = Value.ref b from ry)
  obtain ⟨z, hd, xs, rel, dd⟩ := dt_of I.hok e
  have hz : xs.length ≤ sizeLine := by rw [← Paired.length rel]; exact z
  have hl : (putK kvs k v).length ≤ sizeLine := by have := length_putK kvs k v; omega
  refine wpAny_setItem_heap (hsz := hz) (tupleKind_room_in1 hu) (key_of I.hok eb) dd fun h' dd' hs => h _ ?_
  obtain ⟨q, es, ep, hq, h2, h3, h4, _, h5⟩ := dd'
  refine d_write I (by rw [e]; exact True.intro) hs ⟨q, hq⟩ ⟨hl, hd, _, (rel.put k eb rv).keeps fun c ys ec => ?_, q, es, ep, hq, h2, h3, h4, h5⟩
  rw [upd_ne (ne_of ec e (fun z => nomatch z))]
  exact ec
end
def NoSl (i : Expr) : Prop := ∀ ov iv, subscripted i false ov iv = operate [ov, iv] (getItem ov iv)
theorem subD_of {prog : Program} {w : World} {A : Around} {E : Value → Shared → Prop} {s : Shared} {env : Env} {value slice : Expr} {pos : Pos} {T id : String} {Q : Value → Shared → Prop}
  (hl : typeLookup (.type T) "__getitem__" = pure (some (.builtin id))) (hs : NoSl slice)
  (h : wpAny (model prog w) A (eval value env) (fun o s₁ => wpAny (model prog w) A (eval slice env) (fun i s₂ => s₂.TypeIs o T ∧ wpAny (model prog w) A (getItem o i) Q E s₂) E s₁) E s) :
  wpAny (model prog w) A (eval (.Subscript value slice pos) env) Q E s := by
 refine Subscript_ (wpAny_mono h (fun o s₁ h₁ => wpAny_mono h₁ (fun i s₂ h₂ => ?_) fun _ _ x => x) fun _ _ x => x)
 obtain ⟨hT, h₂⟩ := h₂
 unfold subscriptTail
 refine wpAny_bind ?_
 rw [getitemInPython_of_ne hT.not_modules]
 refine wpAny_bind (wpAny_specialOf hT hl ?_)
 have fin : wpAny (model prog w) A (subscripted slice false o i) (fun r s₃ => wpAny (model prog w) A (letTemporaryGo value o r >>= fun _ => pure r) Q E s₃) E s₂ := by
  rw [hs o i]
  exact wpAny_operating (wpAny_mono h₂ (fun r s₃ h₃ => wpAny_bind (wpAny_letTemporaryGo (wpAny_pure h₃))) fun _ _ x => x)
 first
  | exact wpAny_pure (wpAny_bind fin)
  | exact wpAny_bind (wpAny_pure (wpAny_bind fin))
  | exact wpAny_bind fin
theorem dict_typeIs {X : Cx} {pins : List (Addr × Obj)} {σ : St} {H : Hp} {s : Shared} {a : Addr} {y : V} {o : Option V} (I : Inv X pins σ H s) (g : DGet H a y o) : s.TypeIs (.ref a) "dict" := by
 rcases g with ⟨kvs, k, e, _, _⟩ | ⟨kvs, k, b, e, _, _, _⟩
 ·obtain ⟨_, _, vs, _, dd⟩ := dk_rd I.hok e
  exact dd.typeIs
 ·obtain ⟨_, _, xs, _, dd⟩ := dt_rd I.hok e
  exact dd.typeIs
inductive tDGetI (x y : V) (H2 : Hp) (Q : VK) : Prop where
 | mk (a : Addr) (v : V) (h1_ : x = .ref a) (h2_ : DGet H2 a y (some v)) (h3_ : Q v H2)
def tDGet (td ty : TE) : TE := fun σ H Q => td σ H fun x H1 => ty σ H1 fun y H2 => tDGetI x y H2 Q
def tDNotIn (ty td : TE) : TE := fun σ H Q => ty σ H fun y H1 => td σ H1 fun x H2 => ∃ a o, x = .ref a ∧ DGet H2 a y o ∧ Q (.bl (!o.isSome)) H2
def sDPut (td ty tv : TE) : TS := fun D σ H => tv σ H fun v H1 => td σ H1 fun x H2 => ty σ H2 fun y H3 => ∃ a H4, x = .ref a ∧ DPut H3 a y v H4 ∧ D.nx σ H4
section
variable {X : Cx} {o i e value : Expr} {pos pos' tpos : Pos} {td ty tv : TE}
theorem pe_dget (hu : X.A.units + 1 < cLine) (ho : PE X o td) (hi : PE X i ty) (hs : NoSl i) : PE X (.Subscript o i pos) (tDGet td ty) := by
 intro pins s σ H Q I h
 refine subD_of PySem.F.slot_dict_getitem.lookup hs (thn (ho pins s σ H _ I h) ?_)
 rintro u s1 ⟨x, H1, I1, rx, q1⟩
 refine thn (hi pins s1 σ H1 _ I1 q1) ?_
 rintro iv s2 ⟨y, H2, I2, ry, a, v, ex, g, q2⟩
 subst ex
 obtain rfl : u = Value.ref a := rx
 exact ⟨dict_typeIs I2 g, d_getItem hu I2 g ry fun w' s3 I3 rw' => ⟨v, H2, I3, rw', q2⟩⟩
theorem pc_dnotin (hu : X.A.units + 1 < cLine) (hi : PE X i ty) (ho : PE X o td) : PC X .NotIn i o (tDNotIn ty td) := by
 intro pins s σ H Q I h
 refine thn (hi pins s σ H _ I h) ?_
 rintro iv s1 ⟨y, H1, I1, ry, q1⟩
 refine thn (ho pins s1 σ H1 _ I1 q1) ?_
 rintro u s2 ⟨x, H2, I2, rx, a, ov, ex, g, q2⟩
 subst ex
 obtain rfl : u = Value.ref a := rx
 exact d_notIn hu I2 g ry fun s3 I3 => ⟨.bl (!ov.isSome), H2, I3, rfl, q2⟩
theorem ps_dput (hu : X.A.units + 1 < cLine) (ho : PE X o td) (hi : PE X i ty) (hv : PE X value tv) (hs : swapsWith value (some (.Subscript o i pos')) pos.line X.env = pure false) :
  PS X (.Assign [.Subscript o i pos'] value pos) (sDPut td ty tv) := by
 intro pins s σ H D I h
 refine wpAny_Assign_Subscript (thn (hv pins s σ H _ I h) ?_) hs
 rintro r s1 ⟨v, H1, I1, rv, q1⟩
 refine thn (ho pins s1 σ H1 _ I1 q1) ?_
 rintro u s2 ⟨x, H2, I2, rx, q2⟩
 refine thn (hi pins s2 σ H2 _ I2 q2) ?_
 rintro iv s3 ⟨y, H3, I3, ry, a, H4, ex, g, q3⟩
 subst ex
 obtain rfl : u = Value.ref a := rx
 exact d_setItem hu I3 g ry rv fun s4 I4 => ⟨σ, H4, I4, q3⟩
end
theorem dk_empty {P : Program} {w : World} {H : Hp} (h : Heap) (hb : sysModules < h.objs.size) : ObjOk P w H (h.push { cls := .type "dict", data := .dict #[] }) h.objs.size (.dK []) :=
 ⟨Nat.zero_le _, beq_eq_false_iff_ne.mpr (Ne.symm (Nat.ne_of_lt hb)), [], .nil, Heap.DictOf.new h⟩
theorem dt_empty {P : Program} {w : World} {H : Hp} (h : Heap) (hb : sysModules < h.objs.size) : ObjOk P w H (h.push { cls := .type "dict", data := .dict #[] }) h.objs.size (.dT []) :=
 ⟨Nat.zero_le _, beq_eq_false_iff_ne.mpr (Ne.symm (Nat.ne_of_lt hb)), [], .nil, _, #[], 0, Heap.get?_push_size _ rfl, ⟨rfl, rfl, rfl⟩, rfl, rfl, List.nodup_nil⟩
def tPairs : List (TE × TE) → St → Hp → (List (V × V) → Hp → Prop) → Prop
 | [], _, H, Q => Q [] H
 | (tk, tv) :: r, σ, H, Q => tk σ H fun x H1 => tv σ H1 fun y H2 => tPairs r σ H2 fun ps H3 => Q ((x, y) :: ps) H3
abbrev VV : List (V × V) → List (Value × Value) → Prop := Paired fun p q => RelV p.1 q.1 ∧ RelV p.2 q.2
def PPs (X : Cx) (pos : Pos) (keys : List (Option Expr)) (values : List Expr) (trs : List (TE × TE)) : Prop :=
 ∀ (pins : List (Addr × Obj)) (s : Shared) (σ : St) (H : Hp) (Q : List (V × V) → Hp → Prop), Inv X pins σ H s → tPairs trs σ H Q →
  wpAny (model X.prog X.w) X.A (evalPairs (pairTrees keys values X.env pos)) (fun vs s' => ∃ ps H', Inv X pins σ H' s' ∧ VV ps vs ∧ Q ps H') X.xe s
theorem pps_nil {X : Cx} {pos : Pos} : PPs X pos [] [] [] := fun pins s σ H Q I h => pairTrees_nil_walk ⟨[], H, I, .nil, h⟩
theorem pps_cons {X : Cx} {pos : Pos} {k v : Expr} {ks : List (Option Expr)} {vs : List Expr} {tk tv : TE} {trs : List (TE × TE)} (hk : PE X k tk) (hv : PE X v tv) (hr : PPs X pos ks vs trs) :
  PPs X pos (some k :: ks) (v :: vs) ((tk, tv) :: trs) := fun pins s σ H Q I h =>
 pairTrees_cons_walk (thn (hk pins s σ H _ I h) fun u s1 ⟨x, H1, I1, rx, q1⟩ => thn (hv pins s1 σ H1 _ I1 q1) fun w2 s2 ⟨y, H2, I2, ry, q2⟩ =>
  thn (hr pins s2 σ H2 _ I2 q2) fun ws s3 ⟨ps, H3, I3, rel, q3⟩ => ⟨(x, y) :: ps, H3, I3, .cons ⟨rx, ry⟩ rel, q3⟩)
def mergeK (kvs more : List (Key × V)) : List (Key × V) := more.foldl (fun acc kv => putK acc kv.1 kv.2) kvs
theorem KV.merge : ∀ {more : List (Key × V)} {rs : List (Key × Value)} {kvs : List (Key × V)} {vs : List (Key × Value)}, KV more rs → KV kvs vs → KV (mergeK kvs more) (merged vs rs) := by
 intro more rs kvs vs r
 unfold KV at r
 induction r generalizing kvs vs with
 | nil => intro q; exact q
 | @cons p q ps qs h t ih =>
  intro r0
  have e : KV (putK kvs p.1 p.2) (stored vs q.1 q.2) := by
   have := r0.put p.1 h.2
   rw [← h.1]; exact this
  exact ih e
theorem length_mergeK : ∀ (more kvs : List (Key × V)), (mergeK kvs more).length ≤ kvs.length + more.length
 | [], kvs => by show kvs.length ≤ kvs.length + 0; omega
 | p :: r, kvs => by
  have h1 := length_mergeK r (putK kvs p.1 p.2)
  have h2 := length_putK kvs p.1 p.2
  show (mergeK (putK kvs p.1 p.2) r).length ≤ _
  rw [List.length_cons]; omega
theorem carries_of {P : Program} {w : World} : ∀ {kvs : List (Key × V)} {ws : List (Value × Value)}, VV (kvs.map fun kv => (kV kv.1, kv.2)) ws → ∃ rs, Carries (mixKind P w) ws rs ∧ KV kvs rs
 | [], _, r => by rw [List.map_nil] at r; cases r; exact ⟨[], True.intro, .nil⟩
 | p :: kvs, _, r => by
  rw [List.map_cons] at r
  cases r with
  | @cons a b as bs h t =>
   obtain ⟨rs, c, q⟩ := carries_of (P := P) (w := w) t
   obtain ⟨b1, b2⟩ := b
   exact ⟨(p.1, b2) :: rs, ⟨kV_is h.1, rfl, c⟩, .cons ⟨rfl, h.2⟩ q⟩
def tDisp (trs : List (TE × TE)) : TE := fun σ H Q => ∀ p, H p = none → tPairs trs σ (upd H p (.dK [])) fun ps H2 => H2 p = some (.dK []) ∧ ∃ kvs : List (Key × V), ps = kvs.map (fun kv => (kV kv.1, kv.2)) ∧ kvs.length ≤ 15 ∧ Q (.ref p) (upd H2 p (.dK (mergeK [] kvs)))
theorem pe_disp {X : Cx} {pos : Pos} {keys : List (Option Expr)} {values : List Expr} {trs : List (TE × TE)} (h : PPs X pos keys values trs) (hall : keys.all (·.isSome) = true) (hl : keys.length = values.length) (h0 : keys ≠ [])
  (h15 : keys.length ≤ 15) : PE X (.Dict keys values pos) (tDisp trs) := by
 intro pins s σ H Q I q
 have hn := I.hok.fresh (Nat.le_refl s.heap.objs.size)
 have I1 := I.laid (a := s.heap.objs.size) (o := .dK []) (h' := s.heap.push { cls := .type "dict", data := .dict #[] }) (t' := s.toks) (fun _ _ q => Heap.get?_push_of_some _ q) (Nat.le_refl _) (dk_empty s.heap I.big)
 refine wpAny_Dict_walk (knd := mixKind X.prog X.w) hall hl h0 h15 (thn (h pins _ σ _ _ I1 (q _ hn)) ?_)
 rintro ws s2 ⟨ps, H2, I2, rel, e, kvs, ep, lk, q2⟩
 subst ep
 obtain ⟨rs, c, rk⟩ := carries_of (P := X.prog) (w := X.w) rel
 obtain ⟨z, hd, vs0, r0, dd⟩ := dk_of I2.hok e
 cases r0
 refine ⟨rs, c, dd, fun h' dd' hs => ⟨.ref s.heap.objs.size, _, ?_, rfl, q2⟩⟩
 have hz : (mergeK [] kvs).length ≤ sizeLine := by
  have h1 := length_mergeK kvs []
  rw [List.length_nil] at h1
  rw [sizeLine_eq]; omega
 have he : ∃ q, h'.get? s.heap.objs.size = some q := let ⟨q, _, _, hq, _⟩ := dd'; ⟨q, hq⟩
 exact d_write I2 (by rw [e]; exact True.intro) hs he (dk_new hz hd (rk.merge .nil) dd')
section
variable {X : Cx} {pins : List (Addr × Obj)} {σ : List (Option V)} {H H' : Hp} {s : Shared} {h' : Heap}
theorem Inv.turnLaid {t' : Nat} {ch : List Addr} {p : Addr} {o : HO} (I : Inv X pins σ H s) (hf : ∀ b ∈ ch, FpOk X pins H b)
  (k : ∀ b u, b ∉ ch → s.heap.get? b = some u → h'.get? b = some u) (hp : s.heap.objs.size ≤ p) (new : ObjOk X.prog X.w (upd H p o) h' p o) :
  Inv X pins σ (upd H p o) { s with heap := h', toks := t' } := by
 have hn : H p = none := I.hok.fresh hp
 have nch : ∀ b u, H b = some u → b ∉ ch := fun b u e z => by have q := (hf b z).1; rw [e] at q; cases q
 have old : ∀ b u, s.heap.get? b = some u → b ≠ p := fun b u e => Nat.ne_of_lt (Nat.lt_of_lt_of_le (Heap.lt_size e) hp)
 have keepH : ∀ b u, H b = some u → upd H p o b = some u := fun b u e => by rw [upd_ne (ne_of_none e hn)]; exact e
 refine I.step (g' := s.gens) (d' := s.drawn) (ch := ch) (fun b hb => ?_) (fun b o _ _ hc e _ => k b o hc e) (fun b o _ _ hc e _ => ⟨o.slots, k b o hc e⟩) (fun b o _ e n => by rw [upd_ne (old b o e)]; exact n)
  (fun b o hc e => ⟨o, k b o hc e⟩) (fun b xs e => keepH b _ e) (fun b _ _ e => keepH b _ e) (fun b ps e => ⟨#[], by rw [keepH b _ e]; simp⟩) (fun m hm => ?_) (fun b u e => ?_) I.bare
 ·obtain ⟨f0, f1, f2, f3, f4, f5⟩ := hf b hb
  exact ⟨f3, f1, f4, f5⟩
 ·obtain ⟨ob, es, ep, ho, r⟩ := hm
  exact ⟨ob, es, ep, k _ ob (fun z => (hf _ z).2.1 rfl) ho, r⟩
 ·by_cases hb : b = p
  ·subst hb; rw [upd_same] at e; cases e; exact new
  ·rw [upd_ne hb] at e
   refine (I.hok b u e).stay (fun c v hc q => k c v ?_ q) (fun c q => keepH c _ q) fun c xs q => keepH c _ q
   rcases hc with z | z
   ·rw [z]; exact nch b u e
   ·exact nch c _ z
end
def clOf (env : Env) : List (Str × NameKind) → List (Str × Addr) → List (Str × Addr)
 | [], cs => cs
 | (n, k) :: r, cs => clOf env r (if k == .free then (n, (env.cells.lookup n).getD 0) :: cs else cs)
theorem clos_forIn {env : Env} : ∀ (names : List (Str × NameKind)) (cs : List (Str × Addr)), (∀ y ∈ names, y.2 = .free → ∃ c, env.cells.lookup y.1 = some c) →
  (forIn names cs fun (x : Str × NameKind) (r : List (Str × Addr)) => (match x with
   | (name, kind) => if (kind == NameKind.free) = true then (cellOf env name >>= fun a => pure (ForInStep.yield ((name, a) :: r)) : Sem (ForInStep (List (Str × Addr)))) else pure (ForInStep.yield r))) = pure (clOf env names cs)
 | [], cs, _ => rfl
 | (n, k) :: r, cs, h => by
  have ih := fun cs' => clos_forIn r cs' fun y hy => h y (List.mem_cons_of_mem _ hy)
  rw [List.forIn_cons]
  by_cases hk : k = .free
  ·subst hk
   obtain ⟨c, hc⟩ := h (n, .free) List.mem_cons_self rfl
   have e : cellOf env n = pure c := by unfold cellOf; rw [hc]
   simp only [beq_self_eq_true, if_true, e, pure_bind]
   rw [ih]
   show _ = pure (clOf env r (if (NameKind.free == NameKind.free) = true then _ else _))
   rw [hc]; rfl
  ·have hb : (k == NameKind.free) = false := by simpa using hk
   simp only [hb, Bool.false_eq_true, if_false, pure_bind]
   rw [ih]
   show _ = pure (clOf env r (if (k == NameKind.free) = true then _ else _))
   rw [hb]; rfl
theorem closureFor_clOf {env : Env} {scope : Scope} (h : ∀ y ∈ scope.names, y.2 = .free → ∃ c, env.cells.lookup y.1 = some c) : closureFor scope env = pure (clOf env scope.names []) := by
 unfold closureFor
 have e := clos_forIn (env := env) scope.names [] h
 show ((forIn scope.names [] _ : Sem (List (Str × Addr))) >>= fun cs => pure cs) = _
 rw [bind_pure]
 refine Eq.trans ?_ e
 first
  | rfl
  | (congr 1; funext x r; obtain ⟨n, k⟩ := x; dsimp only; split <;> simp)
theorem mem_clOf {env : Env} {x : Str} {c : Addr} : ∀ (names : List (Str × NameKind)) (cs : List (Str × Addr)), (x, c) ∈ clOf env names cs → (x, c) ∈ cs ∨ ((x, NameKind.free) ∈ names ∧ c = (env.cells.lookup x).getD 0)
 | [], cs, h => .inl h
 | (n, k) :: r, cs, h => by
  have h' : (x, c) ∈ clOf env r (if (k == NameKind.free) = true then (n, (env.cells.lookup n).getD 0) :: cs else cs) := h
  rcases mem_clOf r _ h' with z | ⟨z1, z2⟩
  ·by_cases hk : k = .free
   ·subst hk
    simp only [beq_self_eq_true, if_true, List.mem_cons] at z
    rcases z with z | z
    ·cases z; exact .inr ⟨List.mem_cons_self, rfl⟩
    ·exact .inl z
   ·have hb : (k == NameKind.free) = false := by simpa using hk
    rw [hb] at z
    exact .inl z
  ·exact .inr ⟨List.mem_cons_of_mem _ z1, z2⟩
theorem clOf_mono {env : Env} {p : Str × Addr} : ∀ (names : List (Str × NameKind)) (cs : List (Str × Addr)), p ∈ cs → p ∈ clOf env names cs
 | [], cs, h => h
 | (n, k) :: r, cs, h => by
  show p ∈ clOf env r (if (k == NameKind.free) = true then (n, (env.cells.lookup n).getD 0) :: cs else cs)
  refine clOf_mono r _ ?_
  split
  ·exact List.mem_cons_of_mem _ h
  ·exact h
theorem clOf_has {env : Env} {x : Str} : ∀ (names : List (Str × NameKind)) (cs : List (Str × Addr)), (x, NameKind.free) ∈ names → (x, (env.cells.lookup x).getD 0) ∈ clOf env names cs
 | [], _, h => by cases h
 | (n, k) :: r, cs, h => by
  show _ ∈ clOf env r (if (k == NameKind.free) = true then (n, (env.cells.lookup n).getD 0) :: cs else cs)
  rcases List.mem_cons.mp h with z | z
  ·cases z
   exact clOf_mono r _ (by simp)
  ·exact clOf_has r _ z
theorem mem_of_lookup' {α β : Type} [BEq α] [LawfulBEq α] {x : α} {c : β} : ∀ {l : List (α × β)}, l.lookup x = some c → (x, c) ∈ l
 | [], h => by simp at h
 | (n, k) :: r, h => by
  rw [List.lookup_cons] at h
  by_cases e : x = n
  ·subst e; simp at h; subst h; exact List.mem_cons_self
  ·have : (x == n) = false := by simpa using e
   rw [this] at h
   exact List.mem_cons_of_mem _ (mem_of_lookup' h)
theorem lookup_of_mem' {α β : Type} [BEq α] [LawfulBEq α] {x : α} {c : β} : ∀ {l : List (α × β)}, (x, c) ∈ l → ∃ c', l.lookup x = some c'
 | [], h => by cases h
 | (n, k) :: r, h => by
  rw [List.lookup_cons]
  by_cases e : x = n
  ·subst e; simp
  ·have q : (x == n) = false := by simpa using e
   rw [q]
   rcases List.mem_cons.mp h with z | z
   ·cases z; exact absurd rfl e
   ·exact lookup_of_mem' z
theorem lookup_relabel_mem {env : Env} {x : Str} {k' : NameKind} : ∀ {names : List (Str × NameKind)},
  (names.map fun (n, k) => if (k == NameKind.free && env.scope.kind == .function && env.kindOf n == some .cell) then (n, NameKind.cell) else (n, k)).lookup x = some k' →
  (x, k') ∈ names ∨ (k' = .cell ∧ (x, NameKind.free) ∈ names)
 | [], h => by simp at h
 | (n, k) :: r, h => by
  rw [List.map_cons, List.lookup_cons] at h
  dsimp only at h
  by_cases e : x = n
  ·subst e
   by_cases hc : (k == NameKind.free && env.scope.kind == .function && env.kindOf x == some .cell) = true
   ·rw [if_pos hc] at h
    simp at h
    have hk : k = .free := by
     simp only [Bool.and_eq_true, beq_iff_eq] at hc
     exact hc.1.1
    subst hk
    exact .inr ⟨h.symm, List.mem_cons_self⟩
   ·rw [if_neg hc] at h
    simp at h
    subst h
    exact .inl List.mem_cons_self
  ·have q : (x == (if (k == NameKind.free && env.scope.kind == .function && env.kindOf n == some .cell) = true then (n, NameKind.cell) else (n, k)).1) = false := by
    split <;> simpa using e
   rw [q] at h
   rcases lookup_relabel_mem h with z | ⟨z1, z2⟩
   ·exact .inl (List.mem_cons_of_mem _ z)
   ·exact .inr ⟨z1, List.mem_cons_of_mem _ z2⟩
structure CompScope (X : Cx) (scope : Scope) (own frn : List Str) (frj : List Nat) : Prop where
 cell : ∀ y ∈ scope.names, y.2 ≠ .cell
 kind : scope.kind = .function
 names : ∀ y ∈ scope.names, y.2 = .local → scope.names.lookup y.1 = some .local
 free : ∀ y ∈ scope.names, y.2 = .free → X.env.scope.names.lookup y.1 = some .cell ∨ X.env.scope.names.lookup y.1 = some .free
 frl : frj.length = frn.length
 frN : ∀ (i j : Nat), frj[i]? = some j → X.N[j]? = frn[i]?
 frF : ∀ x ∈ frn, (x, NameKind.free) ∈ scope.names ∧ scope.names.lookup x = some .free
def cxComp (X : Cx) (own frn : List Str) (scope : Scope) (C : Addr) (s₃ : Shared) (H₃ : Hp) (fp : List Addr) : Cx :=
 { X with N := own ++ frn, s₀ := s₃, H₀ := H₃, env := compEnvC scope (clOf X.env scope.names []) C X.env, outer := X.stack, stack := X.stack, ex := fp, fn := fun _ => false, pn := [], xe := fun _ _ => False }
def startC (own : List Str) (frj : List Nat) (σ : St) : St := List.replicate own.length none ++ frj.map fun j => (σ[j]?).join
section
variable {X : Cx} {pins : List (Addr × Obj)} {σ : List (Option V)} {H : Hp} {s : Shared} {scope : Scope} {own frn : List Str} {frj : List Nat}
theorem CompScope.cells (sc : CompScope X scope own frn frj) (ok : X.Ok) : ∀ y ∈ scope.names, y.2 = .free → ∃ c, X.env.cells.lookup y.1 = some c := fun y hy hf => by
 rcases sc.free y hy hf with z | z
 ·exact ok.has y.1 (.inl z)
 ·exact ok.has y.1 (.inr z)
theorem CompScope.look (sc : CompScope X scope own frn frj) (ok : X.Ok) {x : Str} {c : Addr} (h : (clOf X.env scope.names []).lookup x = some c) : X.env.cells.lookup x = some c ∧ (x, NameKind.free) ∈ scope.names := by
 rcases mem_clOf _ _ (mem_of_lookup' h) with z | ⟨z1, z2⟩
 ·cases z
 ·obtain ⟨c', hc⟩ := sc.cells ok (x, .free) z1 rfl
  have hc' : X.env.cells.lookup x = some c' := hc
  rw [hc'] at z2
  have z3 : c = c' := z2
  subst z3
  exact ⟨hc', z1⟩
theorem CompScope.lookF (sc : CompScope X scope own frn frj) (ok : X.Ok) {x : Str} (h : (x, NameKind.free) ∈ scope.names) : ∃ c, (clOf X.env scope.names []).lookup x = some c ∧ X.env.cells.lookup x = some c := by
 obtain ⟨c, hc⟩ := lookup_of_mem' (clOf_has (env := X.env) scope.names [] h)
 exact ⟨c, hc, (sc.look ok hc).1⟩
theorem Inv.block {fp : List Addr} {h₄ : Heap} {tk : Nat} (I : Inv X pins σ H s) (sc : CompScope X scope own frn frj) (hfp : ∀ b ∈ fp, FpOk X pins H b) (hfl : ∀ b ∈ fp, b < s.heap.objs.size)
  (k : ∀ b o, s.heap.get? b = some o → h₄.get? b = some o) (hn : h₄.Ns s.heap.objs.size fun _ => none) :
  Inv (cxComp X own frn scope s.heap.objs.size s H fp) [] (startC own frj σ) H { s with heap := h₄, toks := tk } := by
 have ok := I.ok
 refine ⟨⟨ok.mod, by show (relabel scope X.env).kind = _; exact sc.kind, ok.glob, ok.blt, Nat.le_refl _, ?_, ?_, fun x c h => (nomatch h), ok.hd, ok.frames, .inl rfl, ?_, fun b o e => I.bs b o e, Nat.le_trans ok.bsz I.sz, ?_, ?_, I.stack, I.stkFree⟩, rfl, I.bare, Un.kept k, ?_, ?_, I.fresh, ?_, fun p hp => (nomatch hp), I.hok.kept k, ?_⟩
 ·intro x y c e1 e2
  exact ok.inj x y c (sc.look ok e1).1 (sc.look ok e2).1
 ·intro x h
  have mem : (x, NameKind.free) ∈ scope.names := by
   rcases h with h | h
   ·rcases lookup_relabel_mem h with z | ⟨_, z⟩
    ·exact absurd rfl (sc.cell _ z)
    ·exact z
   ·rcases lookup_relabel_mem h with z | ⟨z, _⟩
    ·exact z
    ·cases z
  obtain ⟨c, hc, _⟩ := sc.lookF ok mem
  exact ⟨c, hc⟩
 ·intro b hb
  obtain ⟨f0, f1, f2, f3, f4, f5⟩ := hfp b hb
  exact ⟨Nat.ne_of_lt (hfl b hb), fun x c e => f4 x c (sc.look ok e).1⟩
 ·intro b o e hb
  rcases (hfp b hb).2.2.2.1 with z | z
  ·exact ok.noex b o e z
  ·exact absurd (Nat.lt_of_lt_of_le (Heap.lt_size e) (Nat.le_trans ok.bsz z)) (Nat.lt_irrefl _)
 ·intro b hb hfs
  obtain ⟨f0, f1, f2, _⟩ := hfp b hb
  rcases List.mem_cons.mp (I.stkSub b hfs) with z | z
  ·exact f1 z
  ·exact f2 z
 ·refine ⟨_, hn, fun i x v e1 e2 e3 => ?_⟩
  have e1' : (own ++ frn)[i]? = some x := e1
  have e2' : (List.replicate own.length none ++ frj.map fun j => (σ[j]?).join)[i]? = some (some v) := e2
  by_cases hi : i < own.length
  ·rw [List.getElem?_append_left (by simpa using hi)] at e2'
   rw [List.getElem?_replicate] at e2'
   split at e2' <;> cases e2'
  ·rw [List.getElem?_append_right (by simp; omega), List.length_replicate] at e2'
   rw [List.getElem?_append_right (by omega)] at e1'
   rw [List.getElem?_map] at e2'
   cases ej : frj[i - own.length]? with
   | none => rw [ej] at e2'; cases e2'
   | some j =>
    rw [ej] at e2'
    have e2'' : (σ[j]?).join = some v := by simpa using e2'
    have e4 : σ[j]? = some (some v) := by
     cases q : σ[j]? with
     | none => rw [q] at e2''; cases e2''
     | some o => rw [q] at e2''; simpa using e2''
    have e5 := (sc.frN _ j ej).trans e1'
    obtain ⟨hm, hlk⟩ := sc.frF x (List.mem_of_getElem? e1')
    obtain ⟨m, hnL, hl⟩ := I.loc
    have hv : Vis X.env.scope x := by
     rcases sc.free (x, .free) hm rfl with z | z
     ·exact .inr (.inl z)
     ·exact .inr (.inr z)
    obtain ⟨u, r, lk⟩ := hl j x v e5 e4 hv
    refine ⟨u, r, .inr ?_⟩
    obtain ⟨c, hc, hc'⟩ := sc.lookF ok hm
    have cellOk : h₄.IsCell c (some u) := by
     rcases lk with ⟨z, _⟩ | ⟨_, c', hx, ⟨o, ho, hd⟩⟩
     ·exfalso
      have z' : X.env.scope.names.lookup x = some .local := z
      rcases sc.free (x, .free) hm rfl with q | q
      ·rw [show X.env.scope.names.lookup x = some .cell from q] at z'; cases z'
      ·rw [show X.env.scope.names.lookup x = some .free from q] at z'; cases z'
     ·rw [hc'] at hx; cases hx
      exact ⟨o, k _ o ho, hd⟩
    refine ⟨?_, c, hc, cellOk⟩
    have e3' : Vis (relabel scope X.env) x := e3
    rcases e3' with z | z | z
    ·exfalso
     rcases lookup_relabel_mem z with q | ⟨q, _⟩
     ·have := sc.names _ q rfl
      rw [show scope.names.lookup x = some .local from this] at hlk
      cases hlk
     ·cases q
    ·exact .inl z
    ·exact .inr z
 ·intro x c e
  obtain ⟨v, o, ho, hd⟩ := I.cell x c (sc.look ok e).1
  exact ⟨v, o, k _ o ho, hd⟩
 ·intro x c e
  exact I.freeC x c (sc.look ok e).1
 ·show (List.replicate own.length none ++ frj.map fun j => (σ[j]?).join).length = (own ++ frn).length
  simp [sc.frl]
end
theorem codeAny_compLoop_any {prog : Program} {w : World} {A : Around} {R : Result → Shared → Prop} {s : Shared} {elt target iter : Expr} {ifs : List Expr} {scope : Scope} {pos : Pos} {it acc : Value} {env : Env} (I : Nat → Shared → Prop)
  (turn : ∀ n s, I n s → wpAny (model prog w) A (pyNext it) (fun r s₁ => match r with
   | none => R (.ok .next) s₁
   | some v => wpAny (model prog w) A (letOwnedTupleGo target it v) (fun _ s₁' => wpAny (model prog w) A (assign target env v) (fun _ s₂ =>
     wpAny (model prog w) A (forIn ifs true fun c r => if r = true then do let ok ← isTrue c env (eval c env); pure (ForInStep.yield ok) else pure (ForInStep.yield r)) (fun ok s₃ =>
      if ok = true then wpAny (model prog w) A (eval elt env) (fun x s₄ =>
       wpAny (model prog w) A (call (.builtin "list.append") [acc, x]) (fun _ s₅ => ∃ m, m < n ∧ I m s₅) (fun _ _ => False) s₄) (fun _ _ => False) s₃
      else ∃ m, m < n ∧ I m s₃) (fun _ _ => False) s₂) (fun _ _ => False) s₁') (fun _ _ => False) s₁) (fun _ _ => False) s)
  (n : Nat) (h : I n s) :
  codeAny (model prog w) A (.compLoop (.ListComp elt [⟨target, iter, ifs, 0⟩] scope pos) 0 it acc env) R s := by
 refine codeAny_loop rfl I (fun n s hI => ?_) n h
 show wpAny _ A ((compTurn (.ListComp elt [⟨target, iter, ifs, 0⟩] scope pos) 0 it acc env).onRaise (fun x => do noteFrame x env; theTreesLotGoes x)) _ _ s
 refine wpAny_noted ?_
 rw [compTurn_list]
 refine wpAny_bind (wpAny_standAt (wpAny_bind (wpAny_mono (turn n s hI) (fun r s₁ h₁ => ?_) fun _ _ h' => h'.elim)))
 cases r with
 | none => exact wpAny_pure h₁
 | some v =>
  refine wpAny_bind (wpAny_mono h₁ (fun _ s₁' h₁' => ?_) fun _ _ h' => h'.elim)
  refine wpAny_bind (wpAny_mono h₁' (fun _ s₂ h₂ => wpAny_bind (wpAny_mono h₂ (fun ok s₃ h₃ => ?_) fun _ _ h' => h'.elim)) fun _ _ h' => h'.elim)
  cases ok with
  | false => exact wpAny_pure ⟨rfl, h₃⟩
  | true =>
   exact wpAny_bind (wpAny_bind (wpAny_mono h₃ (fun x s₄ h₄ => wpAny_bind (wpAny_mono h₄ (fun _ s₅ h₅ => wpAny_pure (wpAny_pure ⟨rfl, h₅⟩)) fun _ _ h' => h'.elim)) fun _ _ h' => h'.elim))
def PIfs (X : Cx) (ifs : List Expr) (t : TT) : Prop :=
 ∀ (pins : List (Addr × Obj)) (s : Shared) (σ : St) (H : Hp) (Q : Bool → Hp → Prop), Inv X pins σ H s → t σ H Q →
  wpAny (model X.prog X.w) X.A (forIn ifs true fun c r => if r = true then do let ok ← isTrue c X.env (eval c X.env); pure (ForInStep.yield ok) else pure (ForInStep.yield r)) (TP X pins σ Q) X.xe s
def tTrue : TT := fun _ H Q => Q true H
theorem pifs_nil {X : Cx} : PIfs X [] tTrue := fun _ _ _ H _ I h => wpAny_tests_nil ⟨H, I, h⟩
theorem pifs_one {X : Cx} {c : Expr} {t : TT} (h : PT X c t) : PIfs X [c] t := fun pins s σ H Q I hq => wpAny_tests_one (h pins s σ H Q I hq)
def cLoop (J : It) (g : TG) (tt : TT) (te : TE) (D : Addr) (σ : St) (H : Hp) (R : Hp → Prop) : Prop :=
 ∃ W : Nat → Nat → St → Hp → Prop, (∃ m, W 0 m σ H) ∧ ∀ i m σ H, W i m σ H → (J.stop i H ∧ R H) ∨ (J.go i H ∧ ∃ N : St → Hp → Prop, (∀ σ' H', N σ' H' → ∃ m', m' < m ∧ W (i + 1) m' σ' H') ∧
  ∀ x H', J.yld i H x H' → g x σ H' fun σ2 H2 => tt σ2 H2 fun b H3 => if b = true then te σ2 H3 fun y H4 => ∃ ys, H4 D = some (.lst ys) ∧ ys.length < sizeLine ∧ N σ2 (upd H4 D (.lst (ys ++ [y]))) else N σ2 H3)
section
variable {X : Cx} {scope : Scope} {own frn : List Str} {frj : List Nat} {elt tg iter : Expr} {ifs : List Expr} {pos : Pos} {g : TG} {tt : TT} {te : TE}
theorem comp_block {pins : List (Addr × Obj)} {σ : St} {H : Hp} {s : Shared} {J : It} {fp : List Addr} {it : Addr} {tn : Nat → Heap → Prop} {R : Addr → Hp → Prop} {RR : Value → Addr → Result → Shared → Prop} {E : Value → Shared → Prop}
  (sc : CompScope X scope own frn frj) (hc : X.calm = true)
  (hg : ∀ C s₃ H₃ fp, PG (cxComp X own frn scope C s₃ H₃ fp) tg g) (ht : ∀ C s₃ H₃ fp, PIfs (cxComp X own frn scope C s₃ H₃ fp) ifs tt) (he : ∀ C s₃ H₃ fp, PE (cxComp X own frn scope C s₃ H₃ fp) elt te)
  (I : Inv X pins σ H s) (T : Turn X.prog X.w X.K tg J fp it tn) (st : tn 0 s.heap) (hfp : ∀ b ∈ fp, FpOk X pins H b)
  (h : ∀ D, H D = none → cLoop J g tt te D (startC own frj σ) (upd H D (.lst [])) (R D))
  (hRR : ∀ D C H' s' m, Inv X pins σ H' s' → s.heap.objs.size ≤ C → s'.heap.Ns C m → H' C = none → R D H' → RR (.ref D) C (.ok .next) s') :
  wpAny (model X.prog X.w) X.A (newList []) (fun acc s₃ => wpAny (model X.prog X.w) X.A (newFunctionEnv scope X.env.globals (clOf X.env scope.names []) [] X.env.qual none .none (some X.env)) (fun cenv s₄ =>
   codeAny (model X.prog X.w) X.A (.compStart (.ListComp elt [⟨tg, iter, ifs, 0⟩] scope pos) 0 (.ref it) acc { cenv with scope := relabel scope X.env }) (RR acc cenv.locals) s₄) E s₃) E s := by
 refine wpAny_newObj_type (wpAny_newFunctionEnv sc.cell (by intro y hy; simp at hy) (fun h₁ hns₁ hsb₁ => ?_) sc.kind)
 dsimp only at hns₁ hsb₁ ⊢
 have hD := I.fresh
 have I3 : Inv X pins σ (upd H s.heap.objs.size (.lst [])) { s with heap := s.heap.push { cls := .type "list", dict := none, data := .seq ([] : List Value).toArray } } := I.lnew (its := []) (t' := s.toks) .nil (Nat.zero_le _)
 have hsz : (s.heap.push { cls := .type "list", dict := none, data := .seq ([] : List Value).toArray }).objs.size = s.heap.objs.size + 1 := Heap.size_push ..
 generalize hs3 : ({ s with heap := s.heap.push { cls := .type "list", dict := none, data := .seq ([] : List Value).toArray } } : Shared) = s₃ at I3
 have hh3 : s.heap.push { cls := .type "list", dict := none, data := .seq ([] : List Value).toArray } = s₃.heap := by rw [← hs3]
 rw [hh3] at hns₁ hsb₁ hsz ⊢
 have hfl : ∀ b ∈ fp, b < s.heap.objs.size := fun b hb => by
  obtain ⟨o, e, _⟩ := T.obj 0 _ st b hb
  exact Heap.lt_size e
 have hfp3 : ∀ b ∈ fp, FpOk X pins (upd H s.heap.objs.size (.lst [])) b := fun b hb => by
  obtain ⟨f0, f⟩ := hfp b hb
  exact ⟨by rw [upd_ne (Nat.ne_of_lt (hfl b hb))]; exact f0, f⟩
 have hfl3 : ∀ b ∈ fp, b < s₃.heap.objs.size := fun b hb => by rw [hsz]; exact Nat.lt_succ_of_lt (hfl b hb)
 have k4 : ∀ b o, s₃.heap.get? b = some o → h₁.get? b = some o := fun b o e => (hsb₁.2 b (Nat.ne_of_lt (Heap.lt_size e))).trans (Heap.get?_push_of_some _ e)
 have k3 : ∀ b o, s.heap.get? b = some o → s₃.heap.get? b = some o := fun b o e => by rw [← hh3]; exact Heap.get?_push_of_some _ e
 have hnone : (fun x : Str => List.lookup x ([] : List (Str × Value)).reverse) = fun _ => none := by funext x; rfl
 have hns₁' : h₁.Ns s₃.heap.objs.size fun _ => none := by
  have q := hns₁
  first
   | exact q
   | (rw [hnone] at q; exact q)
 have I4 := I3.block (own := own) (tk := s.toks + ([] : List (Str × Value)).length) sc hfp3 hfl3 k4 hns₁'
 have st4 : tn 0 h₁ := T.keep _ _ _ st fun b hb o e => k4 b o (k3 b o e)
 generalize hX : cxComp X own frn scope s₃.heap.objs.size s₃ (upd H s.heap.objs.size (.lst [])) fp = X' at I4
 have hXp : X'.prog = X.prog := by rw [← hX]; rfl
 have hXw : X'.w = X.w := by rw [← hX]; rfl
 have hXK : X'.K = X.K := by rw [← hX]; rfl
 have hXA : X'.A = X.A := by rw [← hX]; rfl
 have hXc : X'.calm = true := by rw [← hX]; exact hc
 have hXx : X'.xe = fun _ _ => False := by rw [← hX]; rfl
 have hXe : X'.env = compEnvC scope (clOf X.env scope.names []) s₃.heap.objs.size X.env := by rw [← hX]; rfl
 have hg' : PG X' tg g := by rw [← hX]; exact hg _ _ _ _
 have ht' : PIfs X' ifs tt := by rw [← hX]; exact ht _ _ _ _
 have he' : PE X' elt te := by rw [← hX]; exact he _ _ _ _
 have ofX : ∀ {H' : Hp} {s' : Shared} {σ' : St}, Inv X' [] σ' H' s' → Inv X pins σ H' s' ∧ (∃ m, s'.heap.Ns s₃.heap.objs.size m) ∧ H' s₃.heap.objs.size = none := by
  intro H' s' σ' I'
  subst hX
  refine ⟨I3.call' (ch := fp) I'.os I'.base I'.hok I'.bare fun b hb => ?_, let ⟨m, hn, _⟩ := I'.loc; ⟨m, hn⟩, I'.free⟩
  obtain ⟨f0, f1, f2, f3, f4, f5⟩ := hfp3 b hb
  exact ⟨f3, f1, f4, f5⟩
 have stat : ∀ {H' : Hp}, (∀ b ∈ fp, H' b = none) → ∀ b ∈ fp, FpOk X' [] H' b := by
  intro H' hn b hb
  subst hX
  obtain ⟨a1, a2⟩ := I4.ok.exf b hb
  exact ⟨hn b hb, a1, I4.ok.exfs b hb, .inl hb, a2, fun p hp => by cases hp⟩
 obtain ⟨W, ⟨m0, w0⟩, turn⟩ := h s.heap.objs.size hD
 have loop : codeAny (model X.prog X.w) X.A (.compLoop (.ListComp elt [⟨tg, iter, ifs, 0⟩] scope pos) 0 (.ref it) (.ref s.heap.objs.size) X'.env) (RR (.ref s.heap.objs.size) s₃.heap.objs.size)
   { s₃ with heap := h₁, toks := s.toks + ([] : List (Str × Value)).length } := by
  refine codeAny_compLoop_any (fun n s' => ∃ i σ' H', Inv X' [] σ' H' s' ∧ tn i s'.heap ∧ (∀ b ∈ fp, H' b = none) ∧ W i n σ' H') ?_ m0 ⟨0, _, _, I4, st4, fun b hb => (hfp3 b hb).1, w0⟩
  rintro n s5 ⟨i, σ5, H5, I5, st5, fr5, w5⟩
  rw [← hXp, ← hXw, ← hXA]
  have hxe : ∀ {α : Type} {t : Sem α} {Q : α → Shared → Prop} {s : Shared}, wpAny (model X'.prog X'.w) X'.A t Q X'.xe s → wpAny (model X'.prog X'.w) X'.A t Q (fun _ _ => False) s := fun h => by rw [hXx] at h; exact h
  have T' : Turn X'.prog X'.w X'.K tg J fp it tn := by rw [hXp, hXw, hXK]; exact T
  rcases turn i n σ5 H5 w5 with ⟨stop, q⟩ | ⟨go, N, hN, step⟩
  ·refine thn (T'.done X' rfl rfl rfl hXc i [] s5 σ5 H5 _ I5 (stat fr5) st5 stop) ?_
   rintro r s6 ⟨hr, I6⟩
   subst hr
   obtain ⟨J1, ⟨m, J2⟩, J3⟩ := ofX I6
   exact hRR _ _ H5 s6 m J1 (by rw [hsz]; exact Nat.le_succ _) J2 J3 q
  ·refine thn (T'.item X' rfl rfl rfl hXc i [] s5 σ5 H5 _ I5 (stat fr5) st5 go) ?_
   rintro r s6 ⟨u, hr, h6⟩
   subst hr
   refine thn h6 ?_
   rintro _ s7 ⟨x, H7, I7, r7, y7, st7, fr7⟩
   have I7' := I7.pinned (stat fr7) (T'.obj _ _ st7)
   have again : ∀ {s9 : Shared} {σ9 : St} {H9 : Hp}, Inv X' ([] ++ pinsAt fp s7.heap) σ9 H9 s9 → N σ9 H9 → ∃ m, m < n ∧ ∃ i σ' H', Inv X' [] σ' H' s9 ∧ tn i s9.heap ∧ (∀ b ∈ fp, H' b = none) ∧ W i m σ' H' := fun {s9 σ9 H9} I9 n9 => by
    obtain ⟨m', hm, w9⟩ := hN σ9 H9 n9
    refine ⟨m', hm, i + 1, σ9, H9, I9.unpinned, T'.keep _ _ _ st7 fun b hb o e => (I9.pin (b, o) (List.mem_append_right _ (List.mem_append_right _ (mem_pinsAt hb e)))).1, fun b hb => ?_, w9⟩
    obtain ⟨o, e, d⟩ := T'.obj _ _ st7 b hb
    exact (I9.pin (b, o) (List.mem_append_right _ (List.mem_append_right _ (mem_pinsAt hb e)))).2.1
   refine thn (hxe (hg' _ s7 σ5 H7 x u _ I7' r7 (step x H7 y7))) ?_
   rintro _ s8 ⟨σ8, H8, I8, q8⟩
   refine thn (hxe (ht' _ s8 σ8 H8 _ I8 q8)) ?_
   rintro b s9 ⟨H9, I9, q9⟩
   cases b with
   | false => exact again I9 (by simpa using q9)
   | true =>
    rw [if_pos rfl] at q9
    refine thn (hxe (he' _ s9 σ8 H9 _ I9 q9)) ?_
    rintro y s10 ⟨v, H10, I10, r10, q10⟩
    obtain ⟨ys, e10, z10, n10⟩ := q10
    refine thn (hxe (mt_append _ s10 σ8 H10 (.ref s.heap.objs.size) [v] (.ref s.heap.objs.size) [y] (fun _ H' => H' = upd H10 s.heap.objs.size (.lst (ys ++ [v]))) I10 rfl (.cons r10 .nil) ⟨_, ys, v, rfl, rfl, e10, z10, rfl⟩)) fun u s11 ⟨v', H11, I11, _, e11⟩ => ?_
    subst e11
    exact again I11 n10
 rw [hXe] at loop
 have e4 : ({ s with heap := h₁, toks := s.toks + ([] : List (Str × Value)).length } : Shared) = { s₃ with heap := h₁, toks := s.toks + ([] : List (Str × Value)).length } := by rw [← hs3]
 rw [e4]
 exact codeAny_compStart_list loop (T.self _ 0 _ _ _ st4 loop)
end
def tComp (own : List Str) (frj : List Nat) (wi : TI) (g : TG) (tt : TT) (te : TE) : TE := fun σ H Q => wi σ H fun J H1 => ∀ D, H1 D = none → cLoop J g tt te D (startC own frj σ) (upd H1 D (.lst [])) fun H' => Q (.ref D) H'
section
variable {X : Cx} {scope : Scope} {own frn : List Str} {frj : List Nat} {elt tg iter : Expr} {ifs : List Expr} {pos : Pos} {wi : TI} {g : TG} {tt : TT} {te : TE}
theorem pe_comp (sc : CompScope X scope own frn frj) (hc : X.calm = true) (hi : PI X tg iter wi)
  (hg : ∀ C s₃ H₃ fp, PG (cxComp X own frn scope C s₃ H₃ fp) tg g) (ht : ∀ C s₃ H₃ fp, PIfs (cxComp X own frn scope C s₃ H₃ fp) ifs tt) (he : ∀ C s₃ H₃ fp, PE (cxComp X own frn scope C s₃ H₃ fp) elt te)
  (hs : ∀ x, foldedSetIterable iter X.env x = pure x := by intro _; rfl) : PE X (.ListComp elt [⟨tg, iter, ifs, 0⟩] scope pos) (tComp own frj wi g tt te) := by
 intro pins s σ H Q I h
 rw [eval_ListComp]
 refine wpAny_comprehension_free (use := none) rfl hs (closureFor_clOf (sc.cells I.ok)) sc.kind sc.names (thn (hi pins s σ H _ I h) fun v s1 h1 => thn h1 fun itv s2 h2 => ?_)
 obtain ⟨it, fp, tn, J, H2, e, I2, T, st2, f2, q⟩ := h2
 subst e
 refine comp_block (RR := fun acc C => compPost (model X.prog X.w) X.A X.xe none (EP X pins σ Q) acc C) (R := fun D H' => Q (.ref D) H') sc hc hg ht he I2 T st2 f2 q ?_
 intro D C H' s' m I' hC hn hf hq
 refine ⟨m, hn, fun h' sb => ?_⟩
 obtain ⟨f0, f1, f2, f3, f4, f5⟩ := I2.fpOk (H' := H') hC hf
 exact ⟨.ref D, H', I'.turned (t' := s'.toks) (it := C) (fun b o hb e => (sb.2 b hb).trans e) f0 f1 f3 f4 f5, rfl, hq⟩
theorem ps_setComp {i : Nat} {y : Str} {py spos : Pos} (sc : CompScope X scope own frn frj) (hc : X.calm = true) (hi : PI X tg iter wi)
  (hg : ∀ C s₃ H₃ fp, PG (cxComp X own frn scope C s₃ H₃ fp) tg g) (ht : ∀ C s₃ H₃ fp, PIfs (cxComp X own frn scope C s₃ H₃ fp) ifs tt) (he : ∀ C s₃ H₃ fp, PE (cxComp X own frn scope C s₃ H₃ fp) elt te)
  (hN : X.N.Nodup) (hi' : X.N[i]? = some y) (hx : X.env.scope.names.lookup y = some .local)
  (hsw : swapsWith (.ListComp elt [⟨tg, iter, ifs, 0⟩] scope pos) (some (.Name y py)) spos.line X.env = pure true := by rfl)
  (hs : ∀ x, foldedSetIterable iter X.env x = pure x := by intro _; rfl) : PS X (.Assign [.Name y py] (.ListComp elt [⟨tg, iter, ifs, 0⟩] scope pos) spos) (tAsg (tComp own frj wi g tt te) (gName i)) := by
 intro pins s σ H D I h
 rw [exec_Assign_Name_used _ _ _ _ hsw]
 refine wpAny_bind (wpAny_standAt (wpAny_bind ?_))
 show wpAny _ X.A (do let _ ← comprehension (.ListComp elt [⟨tg, iter, ifs, 0⟩] scope pos) scope X.env _ (newList []) false (eval iter X.env) (some (assign (.Name y py) X.env))) _ _ s
 refine wpAny_bind (wpAny_mono (wpAny_comprehension_free (use := some (assign (.Name y py) X.env)) (Q := fun _ s' => SP X pins D .next s') rfl hs (closureFor_clOf (sc.cells I.ok)) sc.kind sc.names
  (thn (hi pins s σ H _ I h) fun v s1 h1 => thn h1 fun itv s2 h2 => ?_)) (fun _ s' hq => wpAny_pure (wpAny_pure hq)) fun _ _ e => e)
 obtain ⟨it, fp, tn, J, H2, e, I2, T, st2, f2, q⟩ := h2
 subst e
 refine comp_block (RR := fun acc C => compPost (model X.prog X.w) X.A X.xe (some (assign (.Name y py) X.env)) (fun _ s' => SP X pins D .next s') acc C) (R := fun E H' => D.nx (σ.set i (some (.ref E))) H') sc hc hg ht he I2 T st2 f2 q ?_
 intro E C H' s' m I' hC hn hf hq
 show wpAny _ X.A (assign (.Name y py) X.env (.ref E)) _ _ _
 obtain ⟨f0, f1, f2, f3, f4, f5⟩ := I2.fpOk (H' := H') hC hf
 refine wpAny_assign_Name (store_ok2 I' hN hi' (.inl hx) (v := .ref E) (u := .ref E) rfl (?_) (.inr hx))
 rintro s3 I3 ⟨a, sb, ha⟩
 have hCa : C ≠ a := by
  rcases ha with z | z
  ·rw [z]; exact f1
  ·exact (f4 y a z).symm
 refine ⟨m, hn.sameBut sb hCa, fun h' sb' => ?_⟩
 exact ⟨_, H', I3.turned (t' := s3.toks) (it := C) (fun b o hb e => (sb'.2 b hb).trans e) f0 f1 f3 f4 f5, hq⟩
end
theorem comp_range {lo : Int} {n : Nat} {g : TG} {tt : TT} {te : TE} {D : Addr} {σ : St} {H : Hp} {R : Hp → Prop} (Pv : Nat → St → Hp → Prop) (h0 : Pv 0 σ H)
  (hs : ∀ i σ H, i < n → Pv i σ H → g (.int (lo + i)) σ H fun σ2 H2 => tt σ2 H2 fun b H3 => if b = true then te σ2 H3 fun y H4 => ∃ ys, H4 D = some (.lst ys) ∧ ys.length < sizeLine ∧ Pv (i + 1) σ2 (upd H4 D (.lst (ys ++ [y]))) else Pv (i + 1) σ2 H3)
  (hd : ∀ σ H, Pv n σ H → R H) : cLoop (Itr lo n) g tt te D σ H R := by
 refine ⟨fun i m σ H => m = n - i ∧ i ≤ n ∧ Pv i σ H, ⟨n, by simp, Nat.zero_le _, h0⟩, ?_⟩
 rintro i m σ H ⟨rfl, hi, p⟩
 by_cases hlt : i < n
 ·refine .inr ⟨hlt, Pv (i + 1), fun σ' H' p' => ⟨n - (i + 1), by omega, rfl, hlt, p'⟩, fun x H' y => ?_⟩
  obtain ⟨e, y⟩ := y
  subst e y
  exact hs i σ _ hlt p
 ·have e : i = n := by omega
  subst e
  exact .inl ⟨Nat.le_refl _, hd σ H p⟩
theorem comp_list {K : PySem.W.Frag} {a : Addr} {xs : List V} {g : TG} {tt : TT} {te : TE} {D : Addr} {σ : St} {H : Hp} {R : Hp → Prop} (Pv : Nat → St → Hp → Prop) (h0 : Pv 0 σ H) (hl : ∀ i σ H, i ≤ xs.length → Pv i σ H → SqL K H a xs)
  (hs : ∀ i x σ H, xs[i]? = some x → Pv i σ H → g x σ H fun σ2 H2 => tt σ2 H2 fun b H3 => if b = true then te σ2 H3 fun y H4 => ∃ ys, H4 D = some (.lst ys) ∧ ys.length < sizeLine ∧ Pv (i + 1) σ2 (upd H4 D (.lst (ys ++ [y]))) else Pv (i + 1) σ2 H3)
  (hd : ∀ σ H, Pv xs.length σ H → R H) : cLoop (Itl K a) g tt te D σ H R := by
 refine ⟨fun i m σ H => m = xs.length - i ∧ i ≤ xs.length ∧ Pv i σ H, ⟨xs.length, by simp, Nat.zero_le _, h0⟩, ?_⟩
 rintro i m σ H ⟨rfl, hi, p⟩
 have q := hl i σ H hi p
 by_cases hlt : i < xs.length
 ·refine .inr ⟨⟨xs, xs[i], q, by simp [hlt]⟩, Pv (i + 1), fun σ' H' p' => ⟨xs.length - (i + 1), by omega, rfl, hlt, p'⟩, fun x H' y => ?_⟩
  obtain ⟨e, y⟩ := y
  subst e
  exact hs i x σ _ (y xs q) p
 ·have e : i = xs.length := by omega
  subst e
  exact .inl ⟨⟨xs, q, Nat.le_refl _⟩, hd σ H p⟩
theorem comp_tup {K : PySem.W.Frag} {a : Addr} {xs : List V} {g : TG} {tt : TT} {te : TE} {D : Addr} {σ : St} {H : Hp} {R : Hp → Prop} (Pv : Nat → St → Hp → Prop) (h0 : Pv 0 σ H) (hl : ∀ i σ H, i ≤ xs.length → Pv i σ H → SqT K H a xs)
  (hs : ∀ i x σ H, xs[i]? = some x → Pv i σ H → g x σ H fun σ2 H2 => tt σ2 H2 fun b H3 => if b = true then te σ2 H3 fun y H4 => ∃ ys, H4 D = some (.lst ys) ∧ ys.length < sizeLine ∧ Pv (i + 1) σ2 (upd H4 D (.lst (ys ++ [y]))) else Pv (i + 1) σ2 H3)
  (hd : ∀ σ H, Pv xs.length σ H → R H) : cLoop (Itt K a) g tt te D σ H R := by
 refine ⟨fun i m σ H => m = xs.length - i ∧ i ≤ xs.length ∧ Pv i σ H, ⟨xs.length, by simp, Nat.zero_le _, h0⟩, ?_⟩
 rintro i m σ H ⟨rfl, hi, p⟩
 have q := hl i σ H hi p
 by_cases hlt : i < xs.length
 ·refine .inr ⟨⟨xs, xs[i], q, by simp [hlt]⟩, Pv (i + 1), fun σ' H' p' => ⟨xs.length - (i + 1), by omega, rfl, hlt, p'⟩, fun x H' y => ?_⟩
  obtain ⟨e, y⟩ := y
  subst e
  exact hs i x σ _ (y xs q) p
 ·have e : i = xs.length := by omega
  subst e
  exact .inl ⟨⟨xs, q, Nat.le_refl _⟩, hd σ H p⟩
section
variable {X : Cx}
def CDivB (i j : Int) : Prop := 0 < j ∧ j.natAbs.log2 < 9000
theorem op_fdivB : OpR X (binaryOp .FloorDiv) (rI CDivB fun i j => .int (i / j)) := opI fun i j _ _ _ _ _ hc q => by
 obtain ⟨h0, h1⟩ := hc
 refine floordiv_int (by omega) ?_ (.inl (PyProof.noPylong_of_log2 h1))
 rw [Int.fdiv_eq_ediv_of_nonneg _ (by omega)]
 exact q
theorem call_isinst : CallR X (.builtin "isinstance") (fun xs H Q => ∃ (x : V) (t : Value) (T : String) (b : Bool), xs = [x, .ty T] ∧ TyOf X.K H x t ∧ PySem.W.kitOne X.K t (.type T) = some b ∧ Q (.bl b) H) := by
 intro pins s σ H xs us Q I r h
 obtain ⟨x, t, T, b, rfl, ty, e, q⟩ := h
 obtain ⟨u, w', rfl, rx, rT⟩ := vals2 r
 cases (show w' = Value.type T from rT)
 exact isinst_ok I rx ty e fun tk => ⟨.bl b, H, I.tok tk, rfl, q⟩
theorem kit_ii {K : PySem.W.Frag} : PySem.W.kitOne K (.type "int") (.type "int") = some true := by rfl
theorem kit_ib {K : PySem.W.Frag} : PySem.W.kitOne K (.type "int") (.type "bool") = some false := by rfl
theorem kit_tt {K : PySem.W.Frag} : PySem.W.kitOne K (.type "tuple") (.type "tuple") = some true := by rfl
theorem op_cat0 : OpR X (binaryOp .Add) (fun x y H Q => ∃ (a b : Addr) (ys : List V), x = .ref a ∧ y = .ref b ∧ SqT X.K H a [] ∧ SqT X.K H b ys ∧ Q (.ref b) H) := by
 intro pins s σ H x y v u Q I rx ry h
 obtain ⟨a, b, ys, rfl, rfl, ha, hb, q⟩ := h
 cases rx
 cases ry
 obtain ⟨its, r1, p1, _⟩ := I.tuple ha
 obtain ⟨its2, r2, p2, _⟩ := I.tuple hb
 cases r1
 obtain ⟨⟨cls, dd, data, sl⟩, ho, hc, n, hd⟩ := id p1
 obtain ⟨⟨cls2, dd2, data2, sl2⟩, ho2, hc2, n2, hd2⟩ := id p2
 simp only at hc hd hc2 hd2
 subst hc hd hc2 hd2
 exact concat_meets ⟨_, ho, rfl⟩ ⟨_, ho2, rfl⟩ noFill_tuple_add seq_tuple_add PySem.F.slot_tuple_add PySem.F.entry_tuple_add (PySem.F.args_tuple_add_2 _ _)
  (tuple_addW0 a b #[] its2.toArray n n2 dd dd2 sl sl2 rfl) ⟨ho, ho2, ⟨.ref b, H, I, rfl, q⟩⟩
def rCatN (K : PySem.W.Frag) : R2 := fun x y H Q => ∃ (a b : Addr) (xs ys : List V), x = .ref a ∧ y = .ref b ∧ SqT K H a xs ∧ SqT K H b ys ∧ ys ≠ [] ∧ xs.length + ys.length ≤ sizeLine ∧
 (xs = [] → Q (.ref b) H) ∧ (xs ≠ [] → ∀ p, H p = none → Q (.ref p) (upd H p (.tup (xs ++ ys))))
theorem op_catN : OpR X (binaryOp .Add) (rCatN X.K) := by
 intro pins s σ H x y v u Q I rx ry h
 obtain ⟨a, b, xs, ys, rfl, rfl, ha, hb, hy, hz, q1, q2⟩ := h
 by_cases hx : xs = []
 ·subst hx
  exact op_cat0 pins s σ H _ _ v u Q I rx ry ⟨a, b, ys, rfl, rfl, ha, hb, q1 rfl⟩
 ·exact op_catT pins s σ H _ _ v u Q I rx ry ⟨a, b, xs, ys, rfl, rfl, ha, hb, hx, hz, fun z => absurd z hy, fun _ => q2 hx⟩
end
def compCheck (scope esc : Scope) (N own frn : List Str) (frj : List Nat) : Bool :=
 scope.names.all (fun y => y.2 != .cell) && scope.kind == .function && scope.names.all (fun y => y.2 != .local || scope.names.lookup y.1 == some .local)
 && scope.names.all (fun y => y.2 != .free || (esc.names.lookup y.1 == some .cell || esc.names.lookup y.1 == some .free))
 && frj.length == frn.length && (List.range frj.length).all (fun i => (frj[i]?).bind (fun j => N[j]?) == frn[i]?)
 && frn.all (fun x => scope.names.contains (x, NameKind.free) && scope.names.lookup x == some .free)
theorem CompScope.mk' {X : Cx} {scope esc : Scope} {N own frn : List Str} {frj : List Nat} (hs : X.env.scope = esc) (hN : X.N = N) (h : compCheck scope esc N own frn frj = true) : CompScope X scope own frn frj := by
 unfold compCheck at h
 simp only [Bool.and_eq_true, List.all_eq_true, bne_iff_ne, beq_iff_eq, Bool.or_eq_true, List.contains_iff_mem] at h
 obtain ⟨⟨⟨⟨⟨⟨h1, h2⟩, h3⟩, h4⟩, h5⟩, h6⟩, h7⟩ := h
 refine ⟨h1, h2, fun y hy hl => ?_, fun y hy hf => ?_, h5, fun i j e => ?_, fun x hx => h7 x hx⟩
 ·rcases h3 y hy with z | z
  ·exact absurd hl z
  ·exact z
 ·rw [hs]
  rcases h4 y hy with z | z
  ·exact absurd hf z
  ·exact z
 ·have hi : i < frj.length := (List.getElem?_eq_some_iff.mp e).1
  have q := h6 i (List.mem_range.mpr hi)
  rw [e] at q
  rw [hN]
  exact q
def KB (d : Addr) (H H' : Hp) : Prop := ∀ b o, H b = some o → b ≠ d → H' b = some o
theorem KB.write {d : Addr} {H : Hp} {o : HO} : KB d H (upd H d o) := fun b o h n => by rw [upd_ne n]; exact h
theorem Same.new {H : Hp} {p : Addr} {o : HO} (h : H p = none) : Same H (upd H p o) := fun b u e => by rw [upd_ne (ne_of_none e h)]; exact e
theorem Same.kbn {d : Addr} {H H1 H2 : Hp} (s : Same H H1) (h : H d = none) (k : KB d H1 H2) : Same H H2 := fun b o e => k b o (s b o e) (ne_of_none e h)
def KTu (H H' : Hp) : Prop := ∀ b xs, H b = some (.tup xs) → H' b = some (.tup xs)
theorem KTu.trans {H H1 H2 : Hp} (a : KTu H H1) (b : KTu H1 H2) : KTu H H2 := fun c o h => b c o (a c o h)
theorem Same.kt {H H' : Hp} (s : Same H H') : KTu H H' := fun b xs h => s b _ h
theorem KTu.lst {H : Hp} {d : Addr} {xs : List V} {o : HO} (h : H d = some (.lst xs)) : KTu H (upd H d o) := fun b ys e => by
 rw [upd_ne (ne_of e h (fun z => nomatch z))]; exact e
def Tups (H : Hp) (ps : List Addr) (ls : List (List Int)) : Prop := Paired (fun p (l : List Int) => H p = some (.tup (l.map V.int))) ps ls
theorem Tups.keep {H H' : Hp} {ps : List Addr} {ls : List (List Int)} (t : Tups H ps ls) (k : KTu H H') : Tups H' ps ls := Paired.mapP t fun _ _ h => k _ _ h
theorem Tups.get {H : Hp} : ∀ {ps : List Addr} {ls : List (List Int)} {i : Nat} {p : Addr}, Tups H ps ls → ps[i]? = some p → ∃ l, ls[i]? = some l ∧ H p = some (.tup (l.map V.int))
 | _, _, _, _, .nil, e => by simp at e
 | _, _, 0, _, .cons r _, e => by simp at e; subst e; exact ⟨_, rfl, r⟩
 | _, _, i + 1, p, .cons _ t, e => by
  obtain ⟨u, h1, h2⟩ := Tups.get (i := i) (p := p) t (by simpa using e)
  exact ⟨u, by simpa using h1, h2⟩
theorem paired_append {α β : Type} {F : α → β → Prop} : ∀ {xs ys : List α} {us ws : List β}, Paired F xs us → Paired F ys ws → Paired F (xs ++ ys) (us ++ ws)
 | _, _, _, _, .nil, s => s
 | _, _, _, _, .cons r t, s => .cons r (paired_append t s)
end L2
namespace L2
open PySem
theorem bt_len : bootBuiltins "len" = some (.builtin "len") := by decide +kernel
theorem bt_abs : bootBuiltins "abs" = some (.builtin "abs") := by decide +kernel
theorem bt_min : bootBuiltins "min" = some (.builtin "min") := by decide +kernel
theorem bt_isinstance : bootBuiltins "isinstance" = some (.builtin "isinstance") := by decide +kernel
theorem bt_sorted : bootBuiltins "sorted" = some (.builtin "sorted") := by decide +kernel
theorem bt_all : bootBuiltins "all" = some (.builtin "all") := by decide +kernel
theorem bt_list : bootBuiltins "list" = some (.type "list") := by decide +kernel
theorem bt_tuple : bootBuiltins "tuple" = some (.type "tuple") := by decide +kernel
theorem bt_int : bootBuiltins "int" = some (.type "int") := by decide +kernel
theorem bt_bool : bootBuiltins "bool" = some (.type "bool") := by decide +kernel
theorem bt_set : bootBuiltins "set" = some (.type "set") := by decide +kernel
end L2
namespace L2
open PySem PySem.Spec PyProof.Rows
def rLen (K : PySem.W.Frag) : List V → Hp → VK → Prop := fun xs H Q => ∃ x n, xs = [x] ∧ LenV K x H n ∧ Q (.int n) H
def rIsi (K : PySem.W.Frag) : List V → Hp → VK → Prop := fun xs H Q => ∃ (x : V) (t : Value) (T : String) (b : Bool), xs = [x, .ty T] ∧ TyOf K H x t ∧ PySem.W.kitOne K t (.type T) = some b ∧ Q (.bl b) H
section
variable {X : Cx}
theorem call_lenK (K : PySem.W.Frag) (hK : X.K = K := by rfl) : CallR X (.builtin "len") (rLen K) := by subst hK; exact call_len
theorem call_isiK (K : PySem.W.Frag) (hK : X.K = K := by rfl) : CallR X (.builtin "isinstance") (rIsi K) := by subst hK; exact call_isinst
theorem ix_listK (K : PySem.W.Frag) (hK : X.K = K := by rfl) : IxR X (rIxL K) := by subst hK; exact ix_list
theorem ix_tupK (K : PySem.W.Frag) (hK : X.K = K := by rfl) : IxR X (rIxT K) := by subst hK; exact ix_tup
theorem sl_listK (K : PySem.W.Frag) (hK : X.K = K := by rfl) : SlR X (rSlL K) := by subst hK; exact sl_list
theorem op_catNK (K : PySem.W.Frag) (hK : X.K = K := by rfl) : OpR X (binaryOp .Add) (rCatN K) := by subst hK; exact op_catN
theorem op_inK (K : PySem.W.Frag) (hK : X.K = K := by rfl) : OpR X (compareOp .In) (rIn K false) := by subst hK; exact op_in_seq
theorem op_notInK (K : PySem.W.Frag) (hK : X.K = K := by rfl) : OpR X (compareOp .NotIn) (rIn K true) := by subst hK; exact op_notIn_seq
def CPos (_ j : Int) : Prop := 0 < j
theorem cpos {i j : Int} (h : 0 < j) : CPos i j := h
theorem op_modP : OpR X (binaryOp .Mod) (rI CPos fun i j => .int (i % j)) := op_mod
end
inductive Dt where
 | non | bl (b : Bool) | int (i : Int) | str (x : Str) | tup (xs : List Dt) | lst (xs : List Dt)
mutual
def Dt.beq : Dt → Dt → Bool
 | .non, .non => true
 | .bl a, .bl b => a == b
 | .bl a, .int b => (if a then 1 else 0) == b
 | .int a, .bl b => a == (if b then 1 else 0)
 | .int a, .int b => a == b
 | .str a, .str b => a == b
 | .tup xs, .tup ys => Dt.beqs xs ys
 | .lst xs, .lst ys => Dt.beqs xs ys
 | _, _ => false
def Dt.beqs : List Dt → List Dt → Bool
 | [], [] => true
 | x :: xs, y :: ys => x.beq y && Dt.beqs xs ys
 | _, _ => false
end
mutual
def Dt.dep : Dt → Nat
 | .tup xs => Dt.deps xs + 1
 | .lst xs => Dt.deps xs + 1
 | _ => 0
def Dt.deps : List Dt → Nat
 | [] => 0
 | x :: xs => max x.dep (Dt.deps xs)
end
mutual
def DatAt (K : PySem.W.Frag) (H : Hp) : V → Dt → Prop
 | x, .non => x = .non
 | x, .bl b => x = .bl b
 | x, .int i => x = .int i
 | x, .str z => x = .str z
 | x, .tup ds => ∃ a xs, x = .ref a ∧ SqT K H a xs ∧ DatsAt K H xs ds
 | x, .lst ds => ∃ a xs, x = .ref a ∧ SqL K H a xs ∧ DatsAt K H xs ds
def DatsAt (K : PySem.W.Frag) (H : Hp) : List V → List Dt → Prop
 | [], [] => True
 | x :: xs, d :: ds => DatAt K H x d ∧ DatsAt K H xs ds
 | _, _ => False
end
theorem Dt.beq_refl (d : Dt) : d.beq d = true := by
 induction d using Dt.rec (motive_2 := fun xs => Dt.beqs xs xs = true) with
 | non => simp [Dt.beq]
 | bl b => simp [Dt.beq]
 | int b => simp [Dt.beq]
 | str b => simp [Dt.beq]
 | tup xs ih => simp [Dt.beq, ih]
 | lst xs ih => simp [Dt.beq, ih]
 | nil => simp [Dt.beqs]
 | cons x xs h1 h2 => simp [Dt.beqs, h1, h2]
theorem DatsAt.length {K : PySem.W.Frag} {H : Hp} : ∀ {xs : List V} {ds : List Dt}, DatsAt K H xs ds → xs.length = ds.length
 | [], [], _ => rfl
 | [], _ :: _, h => by simp [DatsAt] at h
 | _ :: _, [], h => by simp [DatsAt] at h
 | x :: xs, d :: ds, h => by
  rw [DatsAt] at h
  rw [List.length_cons, List.length_cons, DatsAt.length h.2]
theorem DatsAt.get {K : PySem.W.Frag} {H : Hp} : ∀ {xs : List V} {ds : List Dt} {i : Nat} {x : V}, DatsAt K H xs ds → xs[i]? = some x → ∃ d, ds[i]? = some d ∧ DatAt K H x d
 | [], _, _, _, _, e => by simp at e
 | _ :: _, [], _, _, h, _ => by simp [DatsAt] at h
 | x :: xs, d :: ds, 0, y, h, e => by
  rw [DatsAt] at h
  simp at e; subst e
  exact ⟨d, rfl, h.1⟩
 | x :: xs, d :: ds, i + 1, y, h, e => by
  rw [DatsAt] at h
  obtain ⟨d', h1, h2⟩ := DatsAt.get (i := i) (x := y) h.2 (by simpa using e)
  exact ⟨d', by simpa using h1, h2⟩
theorem Dt.deps_mem {d : Dt} : ∀ {ds : List Dt}, d ∈ ds → d.dep ≤ Dt.deps ds
 | [], h => by cases h
 | x :: xs, h => by
  rw [Dt.deps]
  rcases List.mem_cons.mp h with rfl | h
  ·exact Nat.le_max_left ..
  ·exact Nat.le_trans (Dt.deps_mem h) (Nat.le_max_right ..)
def beqAt (xs ys : List Dt) (j : Nat) : Bool := match xs[j]?, ys[j]? with
 | some x, some y => x.beq y
 | _, _ => false
theorem all_range_succ (n : Nat) (e : Nat → Bool) : (List.range (n + 1)).all e = (e 0 && (List.range n).all fun j => e (j + 1)) := by
 rw [List.range_succ_eq_map, List.all_cons, List.all_map]; rfl
theorem beqs_all : ∀ (xs ys : List Dt), xs.length = ys.length → (List.range xs.length).all (beqAt xs ys) = Dt.beqs xs ys
 | [], [], _ => by simp [Dt.beqs]
 | x :: xs, y :: ys, h => by
  have h' : xs.length = ys.length := by simpa using h
  rw [List.length_cons, all_range_succ, Dt.beqs, ← beqs_all xs ys h']
  rfl
theorem beqs_len : ∀ (xs ys : List Dt), xs.length ≠ ys.length → Dt.beqs xs ys = false
 | [], [], h => absurd rfl h
 | [], _ :: _, _ => by simp [Dt.beqs]
 | _ :: _, [], _ => by simp [Dt.beqs]
 | x :: xs, y :: ys, h => by
  have h' : xs.length ≠ ys.length := fun z => h (by simp [z])
  rw [Dt.beqs, beqs_len xs ys h', Bool.and_false]
section
variable {X : Cx} {pins : List (Addr × Obj)} {σ : St} {H : Hp} {s : Shared}
theorem list_not_tuple {a : Addr} {xs ys : List V} (I : Inv X pins σ H s) (h1 : SqL X.K H a xs) (h2 : SqT X.K H a ys) : False := by
 obtain ⟨its, _, p, _⟩ := I.list h1
 obtain ⟨its2, _, q, _⟩ := I.tuple h2
 exact SeqAt.ne_of_list_tuple p.isList (show s.heap.IsTuple a its2.toArray from q) rfl
theorem dat_inj (I : Inv X pins σ H s) (d : Dt) : ∀ (x : V) (d' : Dt), DatAt X.K H x d → DatAt X.K H x d' → d = d' := by
 induction d using Dt.rec (motive_2 := fun ds => ∀ (xs : List V) (ds' : List Dt), DatsAt X.K H xs ds → DatsAt X.K H xs ds' → ds = ds') with
 | non => intro x d' h h'; cases d' <;> simp_all [DatAt]
 | bl b => intro x d' h h'; cases d' <;> simp_all [DatAt]
 | int b => intro x d' h h'; cases d' <;> simp_all [DatAt]
 | str b => intro x d' h h'; cases d' <;> simp_all [DatAt]
 | tup ds ih =>
  intro x d' h h'
  rw [DatAt] at h
  obtain ⟨a, xs, rfl, hq, hd⟩ := h
  cases d' with
  | tup ds' =>
   rw [DatAt] at h'
   obtain ⟨a', xs', e, hq', hd'⟩ := h'
   cases e
   rw [I.tuple_inj hq' hq] at hd'
   rw [ih xs ds' hd hd']
  | lst ds' =>
   rw [DatAt] at h'
   obtain ⟨a', xs', e, hq', hd'⟩ := h'
   cases e
   exact (list_not_tuple I hq' hq).elim
  | _ => simp [DatAt] at h'
 | lst ds ih =>
  intro x d' h h'
  rw [DatAt] at h
  obtain ⟨a, xs, rfl, hq, hd⟩ := h
  cases d' with
  | lst ds' =>
   rw [DatAt] at h'
   obtain ⟨a', xs', e, hq', hd'⟩ := h'
   cases e
   rw [I.list_inj hq' hq] at hd'
   rw [ih xs ds' hd hd']
  | tup ds' =>
   rw [DatAt] at h'
   obtain ⟨a', xs', e, hq', hd'⟩ := h'
   cases e
   exact (list_not_tuple I hq hq').elim
  | _ => simp [DatAt] at h'
 | nil =>
  rename_i xs ds' h h'
  cases xs with
  | nil => cases ds' with
   | nil => rfl
   | cons _ _ => simp [DatsAt] at h'
  | cons _ _ => simp [DatsAt] at h
 | cons d ds h1 h2 =>
  rename_i xs ds' h h'
  cases xs with
  | nil => simp [DatsAt] at h
  | cons x xs => cases ds' with
   | nil => simp [DatsAt] at h'
   | cons d' ds' =>
    rw [DatsAt] at h h'
    rw [h1 x d' h.1 h'.1, h2 xs ds' h.2 h'.2]
theorem items_eq {A : Around} {xs ys : List V} {ds ds' : List Dt} {its its2 : List Value} (r1 : Vals xs its) (r2 : Vals ys its2) (h1 : DatsAt X.K H xs ds) (h2 : DatsAt X.K H ys ds')
  (ih : ∀ d ∈ ds, ∀ (d' : Dt) (x y : V) (u v : Value), DatAt X.K H x d → DatAt X.K H y d' → RelV x u → RelV y v → SeqAt.EqAt A s u v (d.beq d')) :
  ∀ j (a : j < its.toArray.size) (b : j < its2.toArray.size), SeqAt.EqAt A s its.toArray[j] its2.toArray[j] (beqAt ds ds' j) := fun j a b => by
 have a' : j < its.length := by simpa using a
 have b' : j < its2.length := by simpa using b
 have la := r1.length
 have lb := r2.length
 have ex : xs[j]? = some (xs[j]'(by omega)) := List.getElem?_eq_getElem (by omega)
 have ey : ys[j]? = some (ys[j]'(by omega)) := List.getElem?_eq_getElem (by omega)
 obtain ⟨u, eu, ru⟩ := r1.get ex
 obtain ⟨v, ev, rv⟩ := r2.get ey
 obtain ⟨d, ed, hd⟩ := h1.get ex
 obtain ⟨d', ed', hd'⟩ := h2.get ey
 have e1 : its.toArray[j] = u := by
  rw [List.getElem?_eq_getElem a'] at eu
  simpa using Option.some.inj eu
 have e2 : its2.toArray[j] = v := by
  rw [List.getElem?_eq_getElem b'] at ev
  simpa using Option.some.inj ev
 rw [e1, e2]
 have e3 : beqAt ds ds' j = d.beq d' := by unfold beqAt; rw [ed, ed']
 rw [e3]
 exact ih d (List.mem_of_getElem? ed) d' _ _ u v hd hd' ru rv
theorem rc_lists {A : Around} {a b : Addr} {xs ys : List V} {ds ds' : List Dt} (I : Inv X pins σ H s) (q1 : SqL X.K H a xs) (q2 : SqL X.K H b ys) (h1 : DatsAt X.K H xs ds) (h2 : DatsAt X.K H ys ds') (hu : A.units < cLine)
  (ih : ∀ d ∈ ds, ∀ (d' : Dt) (x y : V) (u v : Value), DatAt X.K H x d → DatAt X.K H y d' → RelV x u → RelV y v → SeqAt.EqAt A.in1 s u v (d.beq d')) : SeqAt.RcAt A s (.ref a) (.ref b) (Dt.beqs ds ds') := by
 obtain ⟨its, r1, p1, _⟩ := I.list q1
 obtain ⟨its2, r2, p2, _⟩ := I.list q2
 have l1 := r1.length
 have l2 := r2.length
 have l3 := h1.length
 have l4 := h2.length
 by_cases hl : ds.length = ds'.length
 ·have := SeqAt.RcAt.lists p1.isList p2.isList (by simp; omega) hu (items_eq r1 r2 h1 h2 ih)
  rw [show its.toArray.size = ds.length by simp; omega, beqs_all ds ds' hl] at this
  exact this
 ·rw [beqs_len ds ds' hl]
  exact SeqAt.RcAt.lists_lengths p1.isList p2.isList (by simp; omega) hu
theorem rc_tuples {A : Around} {a b : Addr} {xs ys : List V} {ds ds' : List Dt} (I : Inv X pins σ H s) (q1 : SqT X.K H a xs) (q2 : SqT X.K H b ys) (h1 : DatsAt X.K H xs ds) (h2 : DatsAt X.K H ys ds') (hu : A.units < cLine)
  (ih : ∀ d ∈ ds, ∀ (d' : Dt) (x y : V) (u v : Value), DatAt X.K H x d → DatAt X.K H y d' → RelV x u → RelV y v → SeqAt.EqAt A.in1 s u v (d.beq d')) : SeqAt.RcAt A s (.ref a) (.ref b) (Dt.beqs ds ds') := by
 obtain ⟨its, r1, p1, _⟩ := I.tuple q1
 obtain ⟨its2, r2, p2, _⟩ := I.tuple q2
 have l1 := r1.length
 have l2 := r2.length
 have l3 := h1.length
 have l4 := h2.length
 have := SeqAt.RcAt.tuples (show s.heap.IsTuple a its.toArray from p1) (show s.heap.IsTuple b its2.toArray from p2) hu (items_eq r1 r2 h1 h2 ih)
 by_cases hl : ds.length = ds'.length
 ·rw [show min its.toArray.size its2.toArray.size = ds.length by simp; omega, beqs_all ds ds' hl, show (its.toArray.size == its2.toArray.size) = true by simp; omega, Bool.and_true] at this
  exact this
 ·rw [show (its.toArray.size == its2.toArray.size) = false by simp; omega, Bool.and_false] at this
  rw [beqs_len ds ds' hl]
  exact this
theorem dat_eqAt (I : Inv X pins σ H s) (d : Dt) : ∀ (A : Around) (d' : Dt) (x y : V) (u v : Value), A.units + d.dep < cLine → DatAt X.K H x d → DatAt X.K H y d' → RelV x u → RelV y v → SeqAt.EqAt A s u v (d.beq d') := by
 have flat : ∀ {A : Around} {d d' : Dt} {x y : V} {u v : Value}, flatV x = true → flatV y = true → eqV x y = d.beq d' → RelV x u → RelV y v → SeqAt.EqAt A s u v (d.beq d') := fun fx fy e ru rv => e ▸ eqAt_V ru rv fx fy
 have lOf : ∀ {a : Addr} {xs : List V}, SqL X.K H a xs → ∃ its : Array Value, s.heap.IsList a its := fun q => let ⟨its, _, p, _⟩ := I.list q; ⟨_, p.isList⟩
 have tOf : ∀ {a : Addr} {xs : List V}, SqT X.K H a xs → ∃ its : Array Value, s.heap.IsTuple a its := fun q => let ⟨its, _, p, _⟩ := I.tuple q; ⟨_, p⟩
 have refs : ∀ {A : Around} {a b : Addr} {d d' : Dt}, DatAt X.K H (.ref a) d → DatAt X.K H (.ref b) d' → SeqAt.RcAt A s (.ref a) (.ref b) (d.beq d') → SeqAt.EqAt A s (.ref a) (.ref b) (d.beq d') := by
  intro A a b d d' h h' r
  by_cases e : a = b
  ·subst e
   rw [← dat_inj I d _ _ h h', Dt.beq_refl]
   exact SeqAt.EqAt.same _
  ·exact SeqAt.EqAt.of_refs e r
 induction d using Dt.rec (motive_2 := fun ds => ∀ d ∈ ds, ∀ (A : Around) (d' : Dt) (x y : V) (u v : Value), A.units + d.dep < cLine → DatAt X.K H x d → DatAt X.K H y d' → RelV x u → RelV y v → SeqAt.EqAt A s u v (d.beq d')) with
 | non =>
  intro A d' x y u v hu h h' ru rv
  rw [DatAt] at h
  subst h
  have hu' : A.units < cLine := by omega
  cases d' with
  | tup ds' =>
   rw [DatAt] at h'; obtain ⟨b, ys, rfl, q, _⟩ := h'
   cases ru; cases rv
   obtain ⟨its, p⟩ := tOf q
   exact SeqAt.EqAt.none_tuple p hu'
  | lst ds' =>
   rw [DatAt] at h'; obtain ⟨b, ys, rfl, q, _⟩ := h'
   cases ru; cases rv
   obtain ⟨its, p⟩ := lOf q
   exact SeqAt.EqAt.none_list p hu'
  | _ => rw [DatAt] at h'; subst h'; exact flat rfl rfl (by simp [Dt.beq, eqV]) ru rv
 | bl b0 =>
  intro A d' x y u v hu h h' ru rv
  rw [DatAt] at h
  subst h
  have hu' : A.units < cLine := by omega
  cases d' with
  | tup ds' =>
   rw [DatAt] at h'; obtain ⟨b, ys, rfl, q, _⟩ := h'
   cases ru; cases rv
   obtain ⟨its, p⟩ := tOf q
   exact SeqAt.EqAt.bool_tuple _ p hu'
  | lst ds' =>
   rw [DatAt] at h'; obtain ⟨b, ys, rfl, q, _⟩ := h'
   cases ru; cases rv
   obtain ⟨its, p⟩ := lOf q
   exact SeqAt.EqAt.bool_list _ p hu'
  | _ => rw [DatAt] at h'; subst h'; exact flat rfl rfl (by simp [Dt.beq, eqV]) ru rv
 | int i0 =>
  intro A d' x y u v hu h h' ru rv
  rw [DatAt] at h
  subst h
  have hu' : A.units < cLine := by omega
  cases d' with
  | tup ds' =>
   rw [DatAt] at h'; obtain ⟨b, ys, rfl, q, _⟩ := h'
   obtain ⟨t, rfl⟩ := ru; cases rv
   obtain ⟨its, p⟩ := tOf q
   exact SeqAt.EqAt.int_tuple _ _ p hu'
  | lst ds' =>
   rw [DatAt] at h'; obtain ⟨b, ys, rfl, q, _⟩ := h'
   obtain ⟨t, rfl⟩ := ru; cases rv
   obtain ⟨its, p⟩ := lOf q
   exact SeqAt.EqAt.int_list _ _ p hu'
  | _ => rw [DatAt] at h'; subst h'; exact flat rfl rfl (by simp [Dt.beq, eqV]) ru rv
 | str z0 =>
  intro A d' x y u v hu h h' ru rv
  rw [DatAt] at h
  subst h
  have hu' : A.units < cLine := by omega
  cases d' with
  | tup ds' =>
   rw [DatAt] at h'; obtain ⟨b, ys, rfl, q, _⟩ := h'
   obtain ⟨t, rfl⟩ := ru; cases rv
   obtain ⟨its, p⟩ := tOf q
   exact SeqAt.EqAt.str_tuple _ _ p hu'
  | lst ds' =>
   rw [DatAt] at h'; obtain ⟨b, ys, rfl, q, _⟩ := h'
   obtain ⟨t, rfl⟩ := ru; cases rv
   obtain ⟨its, p⟩ := lOf q
   exact SeqAt.EqAt.str_list _ _ p hu'
  | _ => rw [DatAt] at h'; subst h'; exact flat rfl rfl (by simp [Dt.beq, eqV]) ru rv
 | tup ds ih =>
  intro A d' x y u v hu h h' ru rv
  have hD := h
  have hD' := h'
  rw [DatAt] at h
  obtain ⟨a, xs, rfl, q, hd⟩ := h
  cases ru
  obtain ⟨its, p⟩ := tOf q
  have hu' : A.units < cLine := by omega
  cases d' with
  | non => rw [DatAt] at h'; subst h'; cases rv; exact SeqAt.EqAt.tuple_none p hu'
  | bl b => rw [DatAt] at h'; subst h'; cases rv; exact SeqAt.EqAt.tuple_bool _ p hu'
  | int b => rw [DatAt] at h'; subst h'; obtain ⟨t, rfl⟩ := rv; exact SeqAt.EqAt.tuple_int _ _ p hu'
  | str b => rw [DatAt] at h'; subst h'; obtain ⟨t, rfl⟩ := rv; exact SeqAt.EqAt.tuple_str _ _ p hu'
  | lst ds' =>
   rw [DatAt] at h'; obtain ⟨b, ys, rfl, q', _⟩ := h'
   cases rv
   obtain ⟨its2, p2⟩ := lOf q'
   exact SeqAt.EqAt.tuple_list p p2 hu'
  | tup ds' =>
   rw [DatAt] at h'; obtain ⟨b, ys, rfl, q', hd'⟩ := h'
   cases rv
   refine refs hD hD' ?_
   have := rc_tuples (A := A) I q q' hd hd' hu' fun d hm d' x y u v h1 h2 r1 r2 => ih d hm A.in1 d' x y u v (by
    have := Dt.deps_mem hm
    rw [Dt.dep] at hu
    show A.units + 1 + d.dep < cLine
    omega) h1 h2 r1 r2
   simpa [Dt.beq] using this
 | lst ds ih =>
  intro A d' x y u v hu h h' ru rv
  have hD := h
  have hD' := h'
  rw [DatAt] at h
  obtain ⟨a, xs, rfl, q, hd⟩ := h
  cases ru
  obtain ⟨its, p⟩ := lOf q
  have hu' : A.units < cLine := by omega
  cases d' with
  | non => rw [DatAt] at h'; subst h'; cases rv; exact SeqAt.EqAt.list_none p hu'
  | bl b => rw [DatAt] at h'; subst h'; cases rv; exact SeqAt.EqAt.list_bool _ p hu'
  | int b => rw [DatAt] at h'; subst h'; obtain ⟨t, rfl⟩ := rv; exact SeqAt.EqAt.list_int _ _ p hu'
  | str b => rw [DatAt] at h'; subst h'; obtain ⟨t, rfl⟩ := rv; exact SeqAt.EqAt.list_str _ _ p hu'
  | tup ds' =>
   rw [DatAt] at h'; obtain ⟨b, ys, rfl, q', _⟩ := h'
   cases rv
   obtain ⟨its2, p2⟩ := tOf q'
   exact SeqAt.EqAt.list_tuple p p2 hu'
  | lst ds' =>
   rw [DatAt] at h'; obtain ⟨b, ys, rfl, q', hd'⟩ := h'
   cases rv
   refine refs hD hD' ?_
   have := rc_lists (A := A) I q q' hd hd' hu' fun d hm d' x y u v h1 h2 r1 r2 => ih d hm A.in1 d' x y u v (by
    have := Dt.deps_mem hm
    rw [Dt.dep] at hu
    show A.units + 1 + d.dep < cLine
    omega) h1 h2 r1 r2
   simpa [Dt.beq] using this
 | nil =>
  rename_i d hd A d' x y u v a1 a2 a3 a4 a5
  cases hd
 | cons d ds h1 h2 =>
  rename_i d0 hd A d' x y u v a1 a2 a3 a4 a5
  rcases List.mem_cons.mp hd with e | hd
  ·subst e; exact h1 A d' x y u v a1 a2 a3 a4 a5
  ·exact h2 d0 hd A d' x y u v a1 a2 a3 a4 a5
def Dt.isSq : Dt → Bool
 | .tup _ => true
 | .lst _ => true
 | _ => false
def rEqD (K : PySem.W.Frag) (neg : Bool) : R2 := fun x y H Q => ∃ d d' : Dt, DatAt K H x d ∧ DatAt K H y d' ∧ d.isSq = true ∧ d'.isSq = true ∧ d.dep ≤ 40 ∧ Q (.bl (if neg then !d.beq d' else d.beq d')) H
theorem op_eqD (K : PySem.W.Frag) (hu : X.A.units + 64 < cLine) (hK : X.K = K := by rfl) : OpR X (compareOp .Eq) (rEqD K false) := by
 subst hK
 intro pins s σ H x y v u Q I rx ry h
 obtain ⟨d, d', h, h', sq, sq', hd, q⟩ := h
 have hA : ∀ e : Dt, e.dep ≤ 40 → X.A.in1.units + e.dep < cLine := fun e he => by show X.A.units + 1 + e.dep < cLine; omega
 have hu' : X.A.units < cLine := by omega
 cases d with
 | tup ds =>
  rw [DatAt] at h
  obtain ⟨a, xs, rfl, q1, hd1⟩ := h
  cases rx
  have ih : ∀ d ∈ ds, ∀ (d' : Dt) (x y : V) (u v : Value), DatAt X.K H x d → DatAt X.K H y d' → RelV x u → RelV y v → SeqAt.EqAt X.A.in1 s u v (d.beq d') := fun d hm d' x y u v h1 h2 r1 r2 =>
   dat_eqAt I d X.A.in1 d' x y u v (hA d (by have := Dt.deps_mem hm; rw [Dt.dep] at hd; omega)) h1 h2 r1 r2
  cases d' with
  | tup ds' =>
   rw [DatAt] at h'
   obtain ⟨b, ys, rfl, q2, hd2⟩ := h'
   cases ry
   exact rc_tuples I q1 q2 hd1 hd2 hu' ih _ _ _ _ ⟨.bl _, H, I, rfl, by simpa [Dt.beq] using q⟩
  | lst ds' =>
   rw [DatAt] at h'
   obtain ⟨b, ys, rfl, q2, hd2⟩ := h'
   cases ry
   obtain ⟨its, _, p, _⟩ := I.tuple q1
   obtain ⟨its2, _, p2, _⟩ := I.list q2
   exact SeqAt.RcAt.tuple_list (show s.heap.IsTuple a its.toArray from p) p2.isList hu' _ _ _ _ ⟨.bl _, H, I, rfl, by simpa [Dt.beq] using q⟩
  | _ => cases sq'
 | lst ds =>
  rw [DatAt] at h
  obtain ⟨a, xs, rfl, q1, hd1⟩ := h
  cases rx
  have ih : ∀ d ∈ ds, ∀ (d' : Dt) (x y : V) (u v : Value), DatAt X.K H x d → DatAt X.K H y d' → RelV x u → RelV y v → SeqAt.EqAt X.A.in1 s u v (d.beq d') := fun d hm d' x y u v h1 h2 r1 r2 =>
   dat_eqAt I d X.A.in1 d' x y u v (hA d (by have := Dt.deps_mem hm; rw [Dt.dep] at hd; omega)) h1 h2 r1 r2
  cases d' with
  | lst ds' =>
   rw [DatAt] at h'
   obtain ⟨b, ys, rfl, q2, hd2⟩ := h'
   cases ry
   exact rc_lists I q1 q2 hd1 hd2 hu' ih _ _ _ _ ⟨.bl _, H, I, rfl, by simpa [Dt.beq] using q⟩
  | tup ds' =>
   rw [DatAt] at h'
   obtain ⟨b, ys, rfl, q2, hd2⟩ := h'
   cases ry
   obtain ⟨its, _, p, _⟩ := I.list q1
   obtain ⟨its2, _, p2, _⟩ := I.tuple q2
   exact SeqAt.RcAt.list_tuple p.isList (show s.heap.IsTuple b its2.toArray from p2) hu' _ _ _ _ ⟨.bl _, H, I, rfl, by simpa [Dt.beq] using q⟩
  | _ => cases sq'
 | _ => cases sq
theorem op_neD (K : PySem.W.Frag) (hu : X.A.units + 64 < cLine) (hK : X.K = K := by rfl) : OpR X (compareOp .NotEq) (fun x y H Q => rEqD K true x y H Q ∧ ∃ d d' : Dt, DatAt K H x d ∧ DatAt K H y d' ∧ ((∃ ds ds', d = .tup ds ∧ d' = .tup ds') ∨ ∃ ds ds', d = .lst ds ∧ d' = .lst ds')) := by
 subst hK
 intro pins s σ H x y v u Q I rx ry h
 obtain ⟨⟨d, d', h, h', sq, sq', hd, q⟩, e, e', g, g', hk⟩ := h
 have e1 := dat_inj I d x e h g
 have e2 := dat_inj I d' y e' h' g'
 subst e1 e2
 have hA : ∀ e : Dt, e.dep ≤ 40 → X.A.in1.units + e.dep < cLine := fun e he => by show X.A.units + 1 + e.dep < cLine; omega
 have hu' : X.A.units < cLine := by omega
 rcases hk with ⟨ds, ds', rfl, rfl⟩ | ⟨ds, ds', rfl, rfl⟩
 ·rw [DatAt] at h h'
  obtain ⟨a, xs, rfl, q1, h1⟩ := h
  obtain ⟨b, ys, rfl, q2, h2⟩ := h'
  cases rx
  cases ry
  have ih : ∀ d ∈ ds, ∀ (d' : Dt) (x y : V) (u v : Value), DatAt X.K H x d → DatAt X.K H y d' → RelV x u → RelV y v → SeqAt.EqAt X.A.in1 s u v (d.beq d') := fun d hm d' x y u v h1 h2 r1 r2 =>
   dat_eqAt I d X.A.in1 d' x y u v (hA d (by have := Dt.deps_mem hm; rw [Dt.dep] at hd; omega)) h1 h2 r1 r2
  obtain ⟨its, r1, p1, _⟩ := I.tuple q1
  obtain ⟨its2, r2, p2, _⟩ := I.tuple q2
  have l1 := r1.length
  have l2 := r2.length
  have l3 := h1.length
  have l4 := h2.length
  have z := SeqAt.RcNeAt.tuples (show s.heap.IsTuple a its.toArray from p1) (show s.heap.IsTuple b its2.toArray from p2) hu' (items_eq r1 r2 h1 h2 ih)
  have fin : SeqAt.RcNeAt X.A s (.ref a) (.ref b) (!Dt.beqs ds ds') := by
   by_cases hl : ds.length = ds'.length
   ·rw [show min its.toArray.size its2.toArray.size = ds.length by simp; omega, beqs_all ds ds' hl, show (its.toArray.size == its2.toArray.size) = true by simp; omega, Bool.and_true] at z
    exact z
   ·rw [show (its.toArray.size == its2.toArray.size) = false by simp; omega, Bool.and_false] at z
    rw [beqs_len ds ds' hl]
    exact z
  exact fin _ _ _ _ ⟨.bl _, H, I, rfl, by simpa [Dt.beq] using q⟩
 ·rw [DatAt] at h h'
  obtain ⟨a, xs, rfl, q1, h1⟩ := h
  obtain ⟨b, ys, rfl, q2, h2⟩ := h'
  cases rx
  cases ry
  have ih : ∀ d ∈ ds, ∀ (d' : Dt) (x y : V) (u v : Value), DatAt X.K H x d → DatAt X.K H y d' → RelV x u → RelV y v → SeqAt.EqAt X.A.in1 s u v (d.beq d') := fun d hm d' x y u v h1 h2 r1 r2 =>
   dat_eqAt I d X.A.in1 d' x y u v (hA d (by have := Dt.deps_mem hm; rw [Dt.dep] at hd; omega)) h1 h2 r1 r2
  obtain ⟨its, r1, p1, _⟩ := I.list q1
  obtain ⟨its2, r2, p2, _⟩ := I.list q2
  have l1 := r1.length
  have l2 := r2.length
  have l3 := h1.length
  have l4 := h2.length
  have fin : SeqAt.RcNeAt X.A s (.ref a) (.ref b) (!Dt.beqs ds ds') := by
   by_cases hl : ds.length = ds'.length
   ·have z := SeqAt.RcNeAt.lists p1.isList p2.isList (by simp; omega) hu' (items_eq r1 r2 h1 h2 ih)
    rw [show its.toArray.size = ds.length by simp; omega, beqs_all ds ds' hl] at z
    exact z
   ·rw [beqs_len ds ds' hl]
    exact SeqAt.RcNeAt.lists_lengths p1.isList p2.isList (by simp; omega) hu'
  exact fin _ _ _ _ ⟨.bl _, H, I, rfl, by simpa [Dt.beq] using q⟩
end
theorem dats_ints {K : PySem.W.Frag} {H : Hp} : ∀ (ns : List Int), DatsAt K H (ns.map V.int) (ns.map Dt.int)
 | [] => by simp [DatsAt]
 | n :: ns => by rw [List.map_cons, List.map_cons, DatsAt]; exact ⟨by rw [DatAt], dats_ints ns⟩
theorem deps_ints : ∀ (ns : List Int), Dt.deps (ns.map Dt.int) = 0
 | [] => by simp [Dt.deps]
 | n :: ns => by rw [List.map_cons, Dt.deps, deps_ints ns]; simp [Dt.dep]
section
variable {X : Cx}
def rTuple (K : PySem.W.Frag) : List V → Hp → VK → Prop := fun xs H Q => ∃ (p : Addr) (ys : List V), xs = [.ref p] ∧ ((SqL K H p ys ∧ ∀ l, H l = none → Q (.ref l) (upd H l (.tup ys))) ∨ (SqT K H p ys ∧ Q (.ref p) H))
theorem call_tupleK (K : PySem.W.Frag) (hK : X.K = K := by rfl) : CallR X (.type "tuple") (rTuple K) := by subst hK; exact call_tuple_of
end
end L2
namespace L2
open PySem
theorem intItem {ns : List Int} {i : Nat} {x : V} (h : (ns.map V.int)[i]? = some x) : ∃ f, x = .int f ∧ ns[i]? = some f := by
 rw [List.getElem?_map] at h
 cases e : ns[i]? with
 | none => rw [e] at h; cases h
 | some f => rw [e] at h; exact ⟨f, (Option.some.inj h).symm, rfl⟩
end L2
namespace L2
open PySem PySem.Spec PyProof.Rows
theorem strsAre_of {ys : List Str} : ∀ {us : List Value}, Vals (ys.map V.str) us → StrsAre us ys := by
 induction ys with
 | nil => intro us r; cases r; exact .nil
 | cons y ys ih =>
  intro us r
  rw [List.map_cons] at r
  cases r with
  | cons a b =>
   obtain ⟨t, rfl⟩ := a
   exact .cons y t (ih b)
theorem vals_strs : ∀ {us : List Value} {ys : List Str}, StrsAre us ys → Vals (ys.map V.str) us
 | _, _, .nil => .nil
 | _, _, .cons y t r => .cons ⟨t, rfl⟩ (vals_strs r)
theorem join_len (sep : Str) (ys : List Str) (h : (ys.map (·.length)).sum + ys.length * sep.length ≤ 16777216) : (Txt.join sep ys).length ≤ sizeLine := by
 have hok := joinOk_of h
 unfold JoinOk at hok
 rw [Bool.not_eq_true'] at hok
 have e : ys = (ys.map fun y => (y, (0 : Tok))).map (·.1) := by rw [List.map_map]; exact (List.map_id ys).symm
 rw [e] at hok ⊢
 exact joinFit_length hok
section
variable {X : Cx}
def rJoin (K : PySem.W.Frag) : V → List V → Hp → VK → Prop := fun x vs H Q => ∃ (sep : Str) (a : Addr) (ys : List Str), x = .str sep ∧ vs = [.ref a] ∧ SqL K H a (ys.map V.str) ∧ (ys.map (·.length)).sum + ys.length * sep.length ≤ 16777216 ∧ ∀ z : Str, z.length ≤ sizeLine → z = Txt.join sep ys → Q (.str z) H
theorem mt_joinK (K : PySem.W.Frag) (hK : X.K = K := by rfl) : MtM X "str.join" (rJoin K) := by
 subst hK
 intro pins s σ H x vs v us Q I rx rv h
 obtain ⟨sep, a, ys, rfl, rfl, hq, hz, q⟩ := h
 obtain ⟨t, rfl⟩ := rx
 obtain ⟨u, rfl, ru⟩ := rv.one
 cases ru
 obtain ⟨its, r, p, _⟩ := I.list hq
 exact join_list p.isList (show StrsAre its.toArray.toList ys from strsAre_of r) hz fun t' k => ⟨.str _, H, I.tok k, ⟨t', rfl⟩, q _ (join_len sep ys hz) rfl⟩
def rSortS (K : PySem.W.Frag) : List V → Hp → VK → Prop := fun xs H Q => ∃ (a : Addr) (ss : List Str), xs = [.ref a] ∧ SqL K H a (ss.map V.str) ∧ ss.length < 64 ∧
 ∀ (p : Addr) (ss' : List Str), H p = none → ss'.Perm ss → PyProof.Rows.sortedS ss' = true → Q (.ref p) (upd H p (.lst (ss'.map V.str)))
theorem call_sortSK (K : PySem.W.Frag) (hK : X.K = K := by rfl) : CallR X (.builtin "sorted") (rSortS K) := by
 subst hK
 intro pins s σ H xs us Q I r h
 obtain ⟨a, ss, rfl, hq, hl, q⟩ := h
 obtain ⟨u, rfl, ru⟩ := vals1 r
 cases ru
 obtain ⟨its, rv, p, hz⟩ := I.list hq
 have hlen := rv.length
 rw [List.length_map] at hlen
 refine sorted_strs p.isList (strsAre_of rv) (by omega) fun out ss' a1 a2 a3 => ?_
 obtain ⟨e, he⟩ := sortedAll_at s.heap its out
 have hp : s.heap.objs.size ≤ s.heap.objs.size + 1 := Nat.le_succ _
 refine ⟨.ref (s.heap.objs.size + 1), upd H (s.heap.objs.size + 1) (.lst (ss'.map V.str)), ?_, rfl, q _ ss' (I.hok.fresh hp) a2 a3⟩
 refine I.laid (t' := s.toks) (h' := sortedAll s.heap its out) (fun _ _ => sortedAll_old) hp ⟨?_, out.toList, e, vals_strs a1, ?_⟩
 ·rw [List.length_map, a2.length_eq]
  rw [List.length_map] at hz
  exact hz
 ·rw [he]
  first
   | done
   | rfl
def rSlS : V → Option Int → Option Int → Hp → VK → Prop := fun x lo hi H Q => ∃ z : Str, x = .str z ∧ z.length ≤ sizeLine ∧ Q (.str (Txt.slice z lo hi)) H
theorem isPart_part {v : Value} {o : Option Int} (p : IsPart v o) : ∃ l : Option (Int × Tok), v = partValue l ∧ l.map (·.1) = o := by
 cases p with
 | none => exact ⟨none, rfl, rfl⟩
 | int i t => exact ⟨some (i, t), rfl, rfl⟩
theorem sl_str : SlR X rSlS := by
 intro pins s σ H x v vl vu lo hi sl Q I rx hs pl pu h
 obtain ⟨z, rfl, hz, q⟩ := h
 obtain ⟨t, rfl⟩ := rx
 obtain ⟨l, rfl, hl⟩ := isPart_part pl
 obtain ⟨u, rfl, hu⟩ := isPart_part pu
 subst hl hu
 obtain ⟨o, ho, hc, hd⟩ := hs
 refine ⟨"str", _, PySem.F.slot_str_getitem.lookup, typeIs_str _ _ _, wpAny_getItem_str_slice (l := l) (u := u) (st := none) ⟨o, ho, hc, hd⟩ rfl ?_⟩
 exact post_val_or_str ⟨Nat.le_trans (Txt.slice_le z _ _) hz, fun t' k => ⟨.str _, H, I.tok k, ⟨t', rfl⟩, q⟩⟩
theorem pg_tupK (K : PySem.W.Frag) {es : List Expr} {k : Nat} {t : TGs} {n : Nat} {pos : Pos} (hc : X.calm = true) (h : PGs X es t)
  (hn : (assignEach es X.env).length = n := by rfl) (hst : (assignEach es X.env).findIdx? (·.1) = none := by rfl) (hK : X.K = K := by rfl) : PG X (.Tuple es k pos) (gTup K n t) := by
 subst hK; exact pg_tup hc h hn hst
end
mutual
def Dt.noL : Dt → Bool
 | .lst _ => false
 | .tup xs => Dt.noLs xs
 | _ => true
def Dt.noLs : List Dt → Bool
 | [] => true
 | x :: xs => x.noL && Dt.noLs xs
end
theorem dat_str {K : PySem.W.Frag} {H : Hp} {z : Str} : DatAt K H (.str z) (.str z) := by rw [DatAt]
theorem dat_tup {K : PySem.W.Frag} {H : Hp} {a : Addr} {xs : List V} {ds : List Dt} (h : SqT K H a xs) (d : DatsAt K H xs ds) : DatAt K H (.ref a) (.tup ds) := by rw [DatAt]; exact ⟨a, xs, rfl, h, d⟩
theorem dat_lst {K : PySem.W.Frag} {H : Hp} {a : Addr} {xs : List V} {ds : List Dt} (h : SqL K H a xs) (d : DatsAt K H xs ds) : DatAt K H (.ref a) (.lst ds) := by rw [DatAt]; exact ⟨a, xs, rfl, h, d⟩
theorem dats_nil {K : PySem.W.Frag} {H : Hp} : DatsAt K H [] [] := by simp [DatsAt]
theorem dats_cons {K : PySem.W.Frag} {H : Hp} {x : V} {xs : List V} {d : Dt} {ds : List Dt} (h : DatAt K H x d) (t : DatsAt K H xs ds) : DatsAt K H (x :: xs) (d :: ds) := by rw [DatsAt]; exact ⟨h, t⟩
end L2
namespace L2
open PySem
def KB2 (d e : Addr) (H H' : Hp) : Prop := ∀ b o, H b = some o → b ≠ d → b ≠ e → H' b = some o
theorem KB2.trans {d e : Addr} {H H1 H2 : Hp} (a : KB2 d e H H1) (b : KB2 d e H1 H2) : KB2 d e H H2 := fun c o h n m => b c o (a c o h n m) n m
theorem KB.l {d e : Addr} {H H' : Hp} (k : KB d H H') : KB2 d e H H' := fun b o h n _ => k b o h n
theorem KB.r {d e : Addr} {H H' : Hp} (k : KB e H H') : KB2 d e H H' := fun b o h _ n => k b o h n
theorem Same.kb2 {d e : Addr} {H H' : Hp} (s : Same H H') : KB2 d e H H' := fun b o h _ _ => s b o h
theorem FnOk.none {P : Program} {w : World} {K : PySem.W.Frag} {mg : Str → Option Value} {base : Heap} {CX : CXT} {k : Nat} {f : Addr} {fd : FuncData} {ps : List Str} {sp : Sp} (h : ∀ vs H Q E, ¬ sp vs H Q E) : FnOk P w K mg base CX k f fd ps sp :=
 ⟨fun vs H Q E q => (h _ _ _ _ q).elim, fun A outer s H args us vs Q E _ _ _ _ hs => (h _ _ _ _ hs).elim⟩
end L2
namespace L2
open PySem PySem.Spec PyProof.Rows
theorem paired_reverse {α β : Type} {r : α → β → Prop} {xs : List α} {ys : List β} (h : Paired r xs ys) : Paired r xs.reverse ys.reverse := by
 induction h with
 | nil => exact .nil
 | cons a _ ih => rw [List.reverse_cons, List.reverse_cons]; exact paired_append ih (.cons a .nil)
end L2
namespace L2
open PySem PySem.Spec PyProof.Rows
open AutoSeq1 (wpAny_loadPart')
section
variable {prog : Program} {w : World} {A : Around} {E : Value → Shared → Prop} {s : Shared}
theorem nextOf_tupI {it t : Addr} {i : Nat} {items : Array Value} {x : Value} {Q : Value → Shared → Prop} (hit : s.heap.IsTupleIter it t i) (ht : s.heap.IsTuple t items) (hx : items[i]? = some x)
  (hQ : ∀ h', h'.IsTupleIter it t (i + 1) → Heap.SameBut it s.heap h' → Q x { s with heap := h' }) : wpAny (model prog w) A (Builtin.SmallTypes.nextOf (.ref it)) Q E s := by
 obtain ⟨o, ho, hc, hd⟩ := id hit
 obtain ⟨ol, hol, _, nl, hdl⟩ := ht
 unfold Builtin.SmallTypes.nextOf
 refine wpAny_bind (wpAny_callSpecial?_slot (name := Str.ofString "__next__") hit.typeIs F.slot_tuple_iterator_next (wpAny_call_entry F.slot_tuple_iterator_next hit.typeIs F.entry_tuple_iterator_next ?_ (F.args_tuple_iterator_next_1 _)))
 (show wpAny _ _ (field (.ref it) 0 >>= _) _ _ s); (refine wpAny_bind (wpAny_field ho hd (x := .ref t) rfl ?_))
 (show wpAny _ _ (if (Value.ref t == Value.none) = true then _ else _) _ _ s); rw [if_neg (show ¬ ((Value.ref t == Value.none) = true) from Bool.false_ne_true)]
 (show wpAny _ _ (field (.ref it) 1 >>= _) _ _ s); (refine wpAny_bind (wpAny_field ho hd (x := .int i 0) rfl ?_))
 (show wpAny _ _ (seqItems? (.ref t) >>= _) _ _ s); (refine wpAny_bind (wpAny_seqItems hol hdl ?_))
 simp only [Int.toNat_natCast, hx]; refine wpAny_bind (wpAny_setField ho hd (by simp) (wpAny_pure ⟨x, rfl, wpAny_pure (hQ _ ?_ (Heap.SameBut.update ..))⟩))
 exact ⟨_, Heap.get?_update_self _ ho (Obj.isFreed_of_fields (Obj.data_mapFields hd _)), (Obj.cls_mapFields ..).trans hc, (by rw [Obj.data_mapFields hd]; simp [rawInt])⟩
theorem nextOf_tupE {it t : Addr} {i : Nat} {items : Array Value} {Q : Value → Shared → Prop} (hh : A.handled = none) (hit : s.heap.IsTupleIter it t i) (ht : s.heap.IsTuple t items) (hx : items[i]? = none)
  (hE : ∀ h' e, Heap.ExtBut it s.heap h' → (∃ o, h'.get? e = some o ∧ o.cls = .type "StopIteration") → E (.ref e) { s with heap := h' }) : wpAny (model prog w) A (Builtin.SmallTypes.nextOf (.ref it)) Q E s := by
 obtain ⟨o, ho, hc, hd⟩ := id hit
 obtain ⟨ol, hol, _, nl, hdl⟩ := ht
 unfold Builtin.SmallTypes.nextOf
 refine wpAny_bind (wpAny_callSpecial?_slot (name := Str.ofString "__next__") hit.typeIs F.slot_tuple_iterator_next (wpAny_call_entry F.slot_tuple_iterator_next hit.typeIs F.entry_tuple_iterator_next ?_ (F.args_tuple_iterator_next_1 _)))
 (show wpAny _ _ (field (.ref it) 0 >>= _) _ _ s); (refine wpAny_bind (wpAny_field ho hd (x := .ref t) rfl ?_))
 (show wpAny _ _ (if (Value.ref t == Value.none) = true then _ else _) _ _ s); rw [if_neg (show ¬ ((Value.ref t == Value.none) = true) from Bool.false_ne_true)]
 (show wpAny _ _ (field (.ref it) 1 >>= _) _ _ s); (refine wpAny_bind (wpAny_field ho hd (x := .int i 0) rfl ?_))
 (show wpAny _ _ (seqItems? (.ref t) >>= _) _ _ s); (refine wpAny_bind (wpAny_seqItems hol hdl ?_))
 simp only [Int.toNat_natCast, hx]; refine wpAny_bind (wpAny_rule (wpAny_bind (wpAny_setField ho hd (by simp) ?_)))
 (show wpAny _ _ (newExc (.type "StopIteration") [] >>= _) _ _ _); (refine wpAny_bind ?_); simp only [newExc, newTuple]
 (refine wpAny_bind (wpAny_newObj_type ?_ (by size_fits)))
 (refine wpAny_bind (m := firstArgMember _ _) (wpAny_of_eq (a := Value.none) (by first | rfl | (simp only [firstArgMember]; rfl)) ?_)); (refine wpAny_newObj_type ?_ (by size_fits))
 simp only [raiseNew]; refine wpAny_bind (wpAny_handled ?_)
 (first | rw [show A.in1.handled = none from hh] | rw [hh]); refine wpAny_bind (wpAny_pure (wpAny_throw ?_))
 exact hE _ _ (((Heap.SameBut.update (a := it) ..).extBut.push _).push _) ⟨_, Heap.get?_push_size _ rfl, rfl⟩
end
end L2
namespace L2
open PySem PySem.Spec PyProof.Rows
section
variable {X : Cx}
def rAll (K : PySem.W.Frag) : List V → Hp → VK → Prop := fun xs H Q => ∃ (a : Addr) (bs : List Bool), xs = [.ref a] ∧ SqL K H a (bs.map V.bl) ∧ Q (.bl (bs.all id)) H
theorem vals_bools {bs : List Bool} {its : List Value} (r : Vals (bs.map V.bl) its) : its = bs.map Value.bool := by
 induction bs generalizing its with
 | nil => cases r; rfl
 | cons b bs ih =>
  cases r with
  | cons r1 r2 =>
   rw [List.map_cons, ih r2]
   exact congrArg (· :: _) r1
theorem call_allK (K : PySem.W.Frag) (hc : X.calm = true) (hK : X.K = K := by rfl) : CallR X (.builtin "all") (rAll K) := by
 subst hK
 intro pins s σ H xs us Q I r h
 obtain ⟨a, bs, rfl, hq, q⟩ := h
 obtain ⟨u, rfl, ru⟩ := vals1 r
 cases ru
 obtain ⟨its, rv, p, _⟩ := I.list hq
 have e := vals_bools rv
 have bl : a < s.heap.objs.size := by obtain ⟨o, e, _⟩ := p.isList; exact Heap.lt_size e
 refine call_all_walk ?_
 refine wpAny_pyIter_list p.isList ?_
 refine ⟨s.heap.objs.size, _, _, _, _, _, fun i => (bs.getD i false), rfl, Walks.list (A := X.A.in1) (I.ok.hd hc) _ a (Nat.ne_of_lt bl) its.toArray, ⟨⟨_, Heap.get?_push_size _ rfl, rfl, rfl⟩, p.isList.push _⟩, ?_, fun h' tk k => ?_⟩
 ·intro i v s' Q' E' hv hQ'
  have : v = .bool (bs.getD i false) := by
   rw [List.getElem?_toArray, e, List.getElem?_map] at hv
   rw [List.getD_eq_getElem?_getD]
   cases eb : bs[i]? with
   | none => rw [eb] at hv; cases hv
   | some b => rw [eb] at hv; exact (Option.some.inj hv).symm
  rw [this]
  exact wpAny_truthy_bool hQ'
 ·refine ⟨.bl (bs.all id), H, I.kept fun b o eo => k b o (fun z => Nat.ne_of_lt (Heap.lt_size eo) (List.mem_singleton.mp z)) (Heap.get?_push_of_some _ eo), ?_, q⟩
  have hl : its.toArray.size = bs.length := by simp [e]
  have ea : ∀ cs : List Bool, (List.range cs.length).all (fun i => cs.getD i false) = cs.all id := fun cs => by
   induction cs with
   | nil => rfl
   | cons c cs ih =>
    rw [List.length_cons, List.range_succ_eq_map, List.all_cons, List.all_map, List.all_cons, ← ih]
    rfl
  show _ = Value.bool _
  rw [hl, ea]
theorem strsAre_by : ∀ {vs : List Value} {ss : List Str}, vs.length = ss.length → (∀ (i : Nat) (v : Value) (x : Str), vs[i]? = some v → ss[i]? = some x → ∃ t, v = .str x t) → StrsAre vs ss
 | [], [], _, _ => .nil
 | [], _ :: _, h, _ => by cases h
 | _ :: _, [], h, _ => by cases h
 | v :: vs, x :: ss, h, k => by
  obtain ⟨t, rfl⟩ := k 0 v x rfl rfl
  exact .cons x t (strsAre_by (Nat.succ.inj h) fun i v y e1 e2 => k (i + 1) v y e1 e2)
end
section
variable {X : Cx} {pins : List (Addr × Obj)} {σ : List (Option V)} {H : Hp} {s : Shared} {h' : Heap}
theorem Inv.turnedL {t' : Nat} {ch : List Addr} (I : Inv X pins σ H s) (hf : ∀ b ∈ ch, FpOk X pins H b) (k : ∀ b u, b ∉ ch → s.heap.get? b = some u → h'.get? b = some u) : Inv X pins σ H { s with heap := h', toks := t' } := by
 have nch : ∀ b u, H b = some u → b ∉ ch := fun b u e z => by have q := (hf b z).1; rw [e] at q; cases q
 refine I.step (g' := s.gens) (d' := s.drawn) (ch := ch) (fun b hb => ?_) (fun b o _ _ hc e _ => k b o hc e) (fun b o _ _ hc e _ => ⟨o.slots, k b o hc e⟩) (fun _ _ _ _ n => n)
  (fun b o hc e => ⟨o, k b o hc e⟩) (fun _ _ e => e) (fun _ _ _ e => e) (fun b ps e => ⟨#[], by rw [e]; simp⟩) (fun m hm => ?_) (fun b u e => ?_) I.bare
 ·obtain ⟨f0, f1, f2, f3, f4, f5⟩ := hf b hb
  exact ⟨f3, f1, f4, f5⟩
 ·obtain ⟨ob, es, ep, ho, r⟩ := hm
  exact ⟨ob, es, ep, k _ ob (fun z => (hf _ z).2.1 rfl) ho, r⟩
 ·refine (I.hok b u e).stay (fun c v hc q => k c v ?_ q) (fun _ q => q) fun _ _ q => q
  rcases hc with z | z
  ·rw [z]; exact nch b u e
  ·exact nch c _ z
end
theorem lay_led (t : SetTable) (es : Array (Int × Value)) (h : Int) (x : Value) : (layNew t es h x).2.1.led = t.led := by
 unfold layNew
 split
 ·unfold SetTable.put SetTable.orStandIn SetTable.standIn
  dsimp only
  repeat' split
  all_goals rfl
 ·rfl
theorem relay_led (t : SetTable) (es : Array (Int × Value)) (n : Nat) : (relayAll t es n).2.1.led = t.led := by
 unfold relayAll
 split
 ·rename_i q r e
  unfold SetTable.relaid SetTable.laid at e
  dsimp only
  split
  ·simp only [Option.bind_eq_bind, Option.bind_eq_some_iff, Option.pure_def, Option.some.injEq, Prod.mk.injEq] at e
   obtain ⟨_, _, e1, _⟩ := e
   rw [← e1]
  ·rfl
 ·rfl
theorem relay_plain {t : SetTable} (es : Array (Int × Value)) (n : Nat) (hp : t.plain = false) : (relayAll t es n).2.1.plain = false := by
 unfold relayAll
 split
 ·rename_i q r e
  unfold SetTable.relaid SetTable.laid at e
  dsimp only
  split
  ·simp only [Option.bind_eq_bind, Option.bind_eq_some_iff, Option.pure_def, Option.some.injEq, Prod.mk.injEq] at e
   obtain ⟨_, _, e1, _⟩ := e
   rw [← e1]
   exact hp
  ·rfl
 ·rfl
structure SetS (P : Program) (w : World) (h : Heap) (a : Addr) (es : Array (Int × Value)) (ep : Nat) (t : SetTable) (ks : List Str) : Prop where
 obj : ∃ o, h.get? a = some o ∧ o.ExactSet ∧ o.data = .set es ep t
 elems : ElemsOf (strKind P w) es.toList
 small : es.size < scanBound
 fits : t.fits es.size = true
 led : t.led = !w.params.followText "set-order"
 plain : es.size ≠ 0 → t.plain = false
 vals : StrsAre (es.toList.map (·.2)) ks
 once : ks.Nodup
theorem SetS.at {P : Program} {w : World} {h h' : Heap} {a : Addr} {es : Array (Int × Value)} {ep : Nat} {t : SetTable} {ks : List Str} (s : SetS P w h a es ep t ks) (k : ∀ o, h.get? a = some o → h'.get? a = some o) : SetS P w h' a es ep t ks := by
 obtain ⟨o, e, r⟩ := s.obj
 exact ⟨⟨o, k o e, r⟩, s.elems, s.small, s.fits, s.led, s.plain, s.vals, s.once⟩
theorem SetS.len {P : Program} {w : World} {h : Heap} {a : Addr} {es : Array (Int × Value)} {ep : Nat} {t : SetTable} {ks : List Str} (s : SetS P w h a es ep t ks) : es.size = ks.length := by
 have := s.vals.length
 rw [List.length_map, Array.length_toList] at this
 exact this
theorem strs_perm {vs us : List Value} (p : vs.Perm us) : ∀ {ks : List Str}, StrsAre us ks → ∃ ks', StrsAre vs ks' ∧ ks'.Perm ks := by
 induction p with
 | nil => intro ks h; cases h; exact ⟨[], .nil, .refl _⟩
 | cons x _ ih =>
  intro ks h
  cases h with
  | cons y tk r =>
   obtain ⟨k', a, b⟩ := ih r
   exact ⟨y :: k', .cons y tk a, b.cons y⟩
 | swap x y l =>
  intro ks h
  cases h with
  | cons a ta r =>
   cases r with
   | cons b tb r => exact ⟨b :: a :: _, .cons b tb (.cons a ta r), .swap a b _⟩
 | trans _ _ ih1 ih2 =>
  intro ks h
  obtain ⟨k1, a1, b1⟩ := ih2 h
  obtain ⟨k2, a2, b2⟩ := ih1 a1
  exact ⟨k2, a2, b2.trans b1⟩
theorem strs_app {us vs : List Value} {ks ls : List Str} (h1 : StrsAre us ks) (h2 : StrsAre vs ls) : StrsAre (us ++ vs) (ks ++ ls) := by
 induction h1 with
 | nil => exact h2
 | cons x tk _ ih => exact .cons x tk ih
theorem strs_mem {us : List Value} {ks : List Str} (h : StrsAre us ks) {x : Str} : x ∈ ks ↔ ∃ tk, Value.str x tk ∈ us := by
 induction h with
 | nil => simp
 | cons y tk _ ih =>
  constructor
  ·intro m
   rcases List.mem_cons.mp m with e | m
   ·exact ⟨tk, by rw [e]; exact List.mem_cons_self⟩
   ·obtain ⟨t', m'⟩ := ih.mp m
    exact ⟨t', List.mem_cons_of_mem _ m'⟩
  ·rintro ⟨t', m⟩
   rcases List.mem_cons.mp m with e | m
   ·injection e with e1 _
    rw [e1]; exact List.mem_cons_self
   ·exact List.mem_cons_of_mem _ (ih.mpr ⟨t', m⟩)
section
variable {P : Program} {w : World} {A : Around} {E : Value → Shared → Prop} {s : Shared}
theorem add_text {a : Addr} {es : Array (Int × Value)} {ep : Nat} {t : SetTable} {ks : List Str} {x : Str} {tk : Tok} {Q : Bool → Shared → Prop} (S : SetS P w s.heap a es ep t ks) (room : ks.length + 1 < scanBound)
  (hold : x ∈ ks → Q false s)
  (hnew : x ∉ ks → ∀ h' es' ep' t' ks', Heap.SameBut a s.heap h' → SetS P w h' a es' ep' t' ks' → (∀ y, y ∈ ks' ↔ y ∈ ks ∨ y = x) → ks'.length = ks.length + 1 → Q true { s with heap := h' }) :
  wpAny (model P w) A (setAddHashed a (.str x tk) (hashStr w x)) Q E s := by
 obtain ⟨o, ho, hex, hd⟩ := S.obj
 have hln := S.len
 have isx : (strKind P w).is x (.str x tk) = true := strKind_is P w x tk
 have scx : (Value.str x tk).scannable = true := rfl
 have hhash : hashStr w x = (strKind P w).hash x := rfl
 rw [hhash]
 unfold setAddHashed setAddHashedIn
 refine wpAny_holding (wpAny_bind (wpAny_setState_of ho hd S.fits ?_))
 dsimp only
 rw [byScan_of scx S.small S.elems, if_pos rfl]
 unfold setAddByScan
 refine wpAny_bind (wpAny_bind (wpAny_rule (wpAny_bind (wpAny_setScan_of isx ho hd S.fits S.elems ?_))))
 have memk : x ∈ ks ↔ ∃ e ∈ es.toList, (strKind P w).is x e.2 = true := by
  rw [strs_mem S.vals]
  constructor
  ·rintro ⟨t', m⟩
   obtain ⟨e, he, e2⟩ := List.mem_map.mp m
   exact ⟨e, he, by rw [e2]; exact strKind_is P w x t'⟩
  ·rintro ⟨e, he, hi⟩
   obtain ⟨t', e2⟩ := Value.isStrOf_shape (x := x) (v := e.2) hi
   exact ⟨t', by rw [← e2]; exact List.mem_map.mpr ⟨e, he, rfl⟩⟩
 cases hr : List.findIdx? (fun e => (strKind P w).is x e.2) es.toList with
 | some j =>
  dsimp only
  obtain ⟨hj, hpj, _⟩ := List.findIdx?_eq_some_iff_getElem.mp hr
  exact wpAny_pure (wpAny_pure (hold (memk.mpr ⟨_, List.getElem_mem hj, hpj⟩)))
 | none =>
  dsimp only
  have nk : x ∉ ks := fun m => by
   obtain ⟨e, he, hp⟩ := memk.mp m
   have := List.findIdx?_eq_none_iff.mp hr e he
   rw [hp] at this
   cases this
  have hperm := layNew_perm t es ((strKind P w).hash x) (.str x tk)
  have hfits := layNew_fits t es ((strKind P w).hash x) (.str x tk)
  have hled := lay_led t es ((strKind P w).hash x) (.str x tk)
  generalize layNew t es ((strKind P w).hash x) (.str x tk) = L at hperm hfits hled ⊢
  obtain ⟨es1, t1, wasDummy, gave⟩ := L
  dsimp only at hperm hfits hled ⊢
  rw [Array.toList_push] at hperm
  have el1 : ElemsOf (strKind P w) es1.toList := (S.elems.push isx scx).perm hperm
  have sz1 : es1.size = es.size + 1 := by rw [← Array.length_toList, hperm.length_eq, List.length_append, Array.length_toList]; rfl
  have sm1 : es1.size < scanBound := by omega
  obtain ⟨ks1, v1, p1⟩ := strs_perm (hperm.map (·.2)) (ks := ks ++ [x]) (by rw [List.map_append]; exact strs_app S.vals (.cons x tk .nil))
  have on1 : ks1.Nodup := p1.nodup_iff.mpr (List.nodup_append.mpr ⟨S.once, by simp, fun y hy z hz => by rw [List.mem_singleton.mp hz]; exact fun e => nk (e ▸ hy)⟩)
  have mem1 : ∀ y, y ∈ ks1 ↔ y ∈ ks ∨ y = x := fun y => by rw [p1.mem_iff, List.mem_append, List.mem_singleton]
  have ln1 : ks1.length = ks.length + 1 := by rw [p1.length_eq, List.length_append]; rfl
  have fin : ∀ t2 : SetTable, t2.fits es1.size = true → t2.led = t.led → t2.plain = false →
    wpAny (model P w) A (do
     storeSet a es1 t2
     if (!wasDummy && t2.tooFull) = true then do
       (match (relayAll t2 es1 (SetTable.grown es1.size)).2.2 with | true => rule "set.scan.the-table-gave-way" | false => pure ())
       storeSet a (relayAll t2 es1 (SetTable.grown es1.size)).1 (relayAll t2 es1 (SetTable.grown es1.size)).2.1
       pure (some true)
      else pure (some true)) (fun r s' => r = some true ∧ Q true s') E s := fun t2 f2 l2 p2 => by
   refine wpAny_bind (wpAny_storeSet_of ho hd ?_ (fits_of_scanBound sm1))
   have hg : (s.heap.update a (Obj.putSet es1 t2)).get? a = some { o with data := .set es1 (ep + 1) t2 } := by
    have q := Heap.get?_update_self (Obj.putSet es1 t2) ho (by rw [putSet_of es1 t2 hd]; rfl)
    rw [putSet_of es1 t2 hd] at q
    exact q
   have sb1 := Heap.SameBut.update s.heap a (Obj.putSet es1 t2)
   have S1 : SetS P w (s.heap.update a (Obj.putSet es1 t2)) a es1 (ep + 1) t2 ks1 := ⟨⟨_, hg, hex, rfl⟩, el1, sm1, f2, by rw [l2]; exact S.led, fun _ => p2, v1, on1⟩
   split
   ·have pr := relayAll_perm t2 es1 (SetTable.grown es1.size)
    have fr := relayAll_fits t2 es1 (SetTable.grown es1.size)
    have lr := relay_led t2 es1 (SetTable.grown es1.size)
    have plr := relay_plain es1 (SetTable.grown es1.size) p2
    generalize relayAll t2 es1 (SetTable.grown es1.size) = Rl at pr fr lr plr ⊢
    obtain ⟨es2, t3, gv⟩ := Rl
    dsimp only at pr fr lr plr ⊢
    have sz2 : es2.size = es1.size := by rw [← Array.length_toList, pr.length_eq, Array.length_toList]
    have sm2 : es2.size < scanBound := by omega
    obtain ⟨ks2, v2, p2'⟩ := strs_perm (pr.map (·.2)) v1
    refine wpAny_bind ?_
    have rest : wpAny (model P w) A (do storeSet a es2 t3; pure (some true)) (fun r s' => r = some true ∧ Q true s') E { s with heap := s.heap.update a (Obj.putSet es1 t2) } := by
     refine wpAny_bind (wpAny_storeSet_of hg rfl (wpAny_pure ⟨rfl, ?_⟩) (fits_of_scanBound sm2))
     have hg2 := Heap.get?_update_self (Obj.putSet es2 t3) hg (by rw [putSet_of es2 t3 rfl]; rfl)
     rw [putSet_of es2 t3 rfl] at hg2
     exact hnew nk _ es2 (ep + 1 + 1) t3 ks2 (sb1.trans (Heap.SameBut.update _ a _)) ⟨⟨_, hg2, hex, rfl⟩, el1.perm pr, sm2, by rw [sz2] at fr ⊢; exact fr, by rw [lr, l2]; exact S.led, fun _ => plr, v2, p2'.nodup_iff.mpr on1⟩
      (fun y => by rw [p2'.mem_iff]; exact mem1 y) (by rw [p2'.length_eq]; exact ln1)
    cases gv
    ·exact wpAny_pure rest
    ·exact wpAny_rule rest
   ·exact wpAny_pure ⟨rfl, hnew nk _ es1 (ep + 1) t2 ks1 sb1 S1 mem1 ln1⟩
  refine wpAny_bind ?_
  have rest : wpAny (model P w) A (do
    let byValue ← if t1.plain = true then hashByValue 8 (.str x tk) else pure true
    storeSet a es1 (if byValue = true then t1 else { t1 with plain := false })
    if (!wasDummy && (if byValue = true then t1 else { t1 with plain := false }).tooFull) = true then do
      (match (relayAll (if byValue = true then t1 else { t1 with plain := false }) es1 (SetTable.grown es1.size)).2.2 with | true => rule "set.scan.the-table-gave-way" | false => pure ())
      storeSet a (relayAll (if byValue = true then t1 else { t1 with plain := false }) es1 (SetTable.grown es1.size)).1 (relayAll (if byValue = true then t1 else { t1 with plain := false }) es1 (SetTable.grown es1.size)).2.1
      pure (some true)
     else pure (some true)) (fun r s' => r = some true ∧ Q true s') E s := by
   cases hpl : t1.plain with
   | true =>
    rw [if_pos rfl, hashByValue_scannable 8 scx]
    refine wpAny_bind (wpAny_pure ?_)
    exact fin { t1 with plain := false } (SetTable.fits_plain_off hfits) hled rfl
   | false =>
    rw [if_neg (by decide)]
    refine wpAny_bind (wpAny_pure ?_)
    exact fin t1 hfits hled hpl
  have go : ∀ r s', (r = some true ∧ Q true s') → wpAny (model P w) A (match r with | some added => pure added | none => setAddHashedIn a (.str x tk) ((strKind P w).hash x) 99999) Q E s' := fun r s' ⟨e, q⟩ => by
   subst e
   exact wpAny_pure q
  cases gave
  ·exact wpAny_pure (thn rest go)
  ·exact wpAny_rule (thn rest go)
end
theorem strs_at {us : List Value} {xs : List Str} (hi : StrsAre us xs) : ∀ (i : Nat) (v : Value), us[i]? = some v → ∃ x t, xs[i]? = some x ∧ v = .str x t := by
 induction hi with
 | nil => intro i v hv; simp at hv
 | cons y ty _ ih =>
  intro i v hv
  cases i with
  | zero =>
   have e : Value.str y ty = v := by simpa using hv
   exact ⟨y, ty, rfl, e.symm⟩
  | succ i => exact ih i v (by simpa using hv)
section
variable {P : Program} {w : World} {A : Around} {R : Result → Shared → Prop} {I S : Addr} {fp wr : List Addr} {G : Array GenState → Array GenState → Prop} {n : Nat} {Pv : Nat → Value → Prop} {St : Nat → Shared → Prop}
theorem set_loop (W : WalksS P w A.in1 I fp wr G n Pv St) (hSf : S ∉ fp) (xs : List Str) (hxl : xs.length = n) (hval : ∀ i v, Pv i v → ∃ x t, xs[i]? = some x ∧ v = .str x t) (hb : n + 1 < scanBound) :
  ∀ (k i : Nat) (s : Shared) (es : Array (Int × Value)) (ep : Nat) (t : SetTable) (ks : List Str), n - i = k → i ≤ n → St i s → SetS P w s.heap S es ep t ks → (∀ y, y ∈ ks ↔ y ∈ xs.take i) → ks.length ≤ i →
   (∀ s' es' ep' t' ks', Moved (S :: wr) G s s' → SetS P w s'.heap S es' ep' t' ks' → (∀ y, y ∈ ks' ↔ y ∈ xs) → ks'.length ≤ n → R (.ok (.ret .none)) s') →
   codeAny (model P w) A (.builtin "set.update.loop" ⟨[.ref S, .ref I], []⟩) R s := by
 have hSw : S ∉ wr := fun z => hSf (W.sub _ z)
 have more : ∀ b ∈ wr, b ∈ S :: wr := fun b z => List.mem_cons_of_mem _ z
 intro k
 induction k with
 | zero =>
  intro i s es ep t ks hk hi st hS hm hl hR
  have e : i = n := by omega
  subst e
  refine codeAny_builtin PyProof.Rows.F.entry_set_update_loop ?_
  rw [Around.under_plainId PyProof.Rows.F.plain_set_update_loop]
  show wpAny (model P w) A.in1 (pyNext (.ref I) >>= _) _ _ s
  refine wpAny_bind (W.done s _ _ st fun s' mv => ?_)
  show wpAny (model P w) A.in1 (ret Value.none) _ _ s'
  refine wpAny_pure (hR s' es ep t ks (mv.mono more) (hS.at fun o q => mv.heap S o hSw q) (fun y => ?_) hl)
  rw [hm y, List.take_of_length_le (by omega)]
 | succ k ih =>
  intro i s es ep t ks hk hi st hS hm hl hR
  have lt : i < n := by omega
  refine codeAny_builtin PyProof.Rows.F.entry_set_update_loop ?_
  rw [Around.under_plainId PyProof.Rows.F.plain_set_update_loop]
  show wpAny (model P w) A.in1 (pyNext (.ref I) >>= _) _ _ s
  refine wpAny_bind (W.item i s _ _ lt st fun v s' hv st' mv => ?_)
  obtain ⟨x, tx, ex, rfl⟩ := hval i v hv
  have hS' : SetS P w s'.heap S es ep t ks := hS.at fun o q => mv.heap S o hSw q
  have tk1 : ∀ y, y ∈ xs.take (i + 1) ↔ y ∈ xs.take i ∨ y = x := fun y => by rw [List.take_add_one, ex]; simp
  show wpAny (model P w) A.in1 (holding [Value.str x tx] (setAdd S (.str x tx)) >>= _) _ _ s'
  refine wpAny_bind (wpAny_holding ?_)
  unfold setAdd
  refine wpAny_holding (wpAny_bind ((strKind P w).pyHash (k := x) (strKind_is _ _ _ _) ?_))
  refine add_text (s := { s' with toks := s'.toks + 1 }) hS' (by omega) (fun hx => ?_) (fun hx h' es' ep' t' ks' sb S2 m2 l2 => ?_)
  ·refine wpAny_pure ⟨plainId_quiet PyProof.Rows.F.plain_set_update_loop _, ih (i + 1) _ es ep t ks (by omega) lt (W.frame _ s' s'.heap _ st' (Nat.le_succ _) fun b _ o q => q) hS' (fun y => ?_) (by omega) fun s2 es2 ep2 t2 ks2 mv2 S2 m2 l2 => ?_⟩
   ·rw [hm y, tk1 y]
    constructor
    ·exact .inl
    ·rintro (z | z)
     ·exact z
     ·rw [z]; exact (hm x).mp hx
   ·exact hR s2 es2 ep2 t2 ks2 (Moved.trans W.gtrans ((mv.mono more).then_heap (Nat.le_succ _) fun b o _ q => q) mv2) S2 m2 l2
  ·refine wpAny_pure ⟨plainId_quiet PyProof.Rows.F.plain_set_update_loop _, ih (i + 1) _ es' ep' t' ks' (by omega) lt (W.frame _ s' h' _ st' (Nat.le_succ _) fun b hb o q => ?_) S2 (fun y => ?_) (by omega) fun s2 es2 ep2 t2 ks2 mv2 S2 m2 l2 => ?_⟩
   ·exact (sb.2 b (fun z => hSf (z ▸ hb))).trans q
   ·rw [m2 y, hm y, tk1 y]
   ·exact hR s2 es2 ep2 t2 ks2 (Moved.trans W.gtrans ((mv.mono more).then_heap (Nat.le_succ _) fun b o hb q => (sb.2 b (fun z => hb (z ▸ List.mem_cons_self))).trans q) mv2) S2 m2 l2
end
section
variable {P : Program} {w : World} {A : Around} {E : Value → Shared → Prop} {s : Shared}
abbrev emptySet (w : World) : Obj := { cls := .type "set", dict := none, data := .set #[] 0 (.fresh 0 0 (!w.params.followText "set-order")) }
theorem set_born (v : Value) {Q : Value → Shared → Prop} (h : Q (.ref s.heap.objs.size) { s with heap := s.heap.push (emptySet w) }) :
  codeAny (model P w) A (.call (.builtin "set.__new__") ⟨[.type "set", v], []⟩) (wants Q E) s := by
 refine codeAny_of_tree ?_
 show wpAny (model P w) A.in1 (do checkBuiltinCall "set.__new__" ⟨[.type "set", v], []⟩; again (.builtin "set.__new__" ⟨[.type "set", v], []⟩)) _ _ s
 refine wpAny_bind (wpAny_of_eq (PySem.F.newCall_set_1 v) (wpAny_pure ⟨plainId_quiet PySem.F.plain_set_new _, codeAny_builtin PySem.F.entry_set_new ?_⟩))
 rw [Around.under_plainId PySem.F.plain_set_new]
 unfold Builtin.«set.__new__» Builtin.Frozenset.newClass
 have hsub := sub_set_self
 obtain ⟨hp, g, d, tk, os⟩ := s
 dsimp only
 wp_walk
 refine wpAny_askSetting (wpAny_pure ?_)
 dsimp only
 simp only [newObj]
 exact wpAny_bind (wpAny_alloc (wpAny_pure (wpAny_pure h)))
theorem fresh_set (h : Heap) : SetS P w (h.push (emptySet w)) h.objs.size #[] 0 (.fresh 0 0 (!w.params.followText "set-order")) [] :=
 ⟨⟨_, Heap.get?_push_size _ rfl, ⟨rfl, rfl, rfl⟩, rfl⟩, fun e he => (by simp at he), by decide, rfl, rfl, fun z => absurd rfl z, .nil, by simp⟩
end
namespace SI
theorem own_si : Manifest.owners.lookup (String.ofList ['r', 'o', 't', 'a', 'r', 'e', 't', 'i', '_', 't', 'e', 's'].reverse) = some Manifest.sig_set_iterator := by kernel_rfl
theorem slot_next : Slot "set_iterator" "__next__" "set_iterator.__next__" :=
 .of (owner := "set_iterator") (n := "__next__") (by rw [typeLookup_type, builtinLookup_eq_fast]; kernel_rfl) (by decide +kernel) (by decide +kernel) (by decide +kernel)
  (by first | exact .inl (by decide +kernel) | exact .inr (by decide +kernel)) (by rw [isSubtype_type]; kernel_rfl)
theorem slot_iter : Slot "set_iterator" "__iter__" "set_iterator.__iter__" :=
 .of (owner := "set_iterator") (n := "__iter__") (by rw [typeLookup_type, builtinLookup_eq_fast]; kernel_rfl) (by decide +kernel) (by decide +kernel) (by decide +kernel)
  (by first | exact .inl (by decide +kernel) | exact .inr (by decide +kernel)) (by rw [isSubtype_type]; kernel_rfl)
theorem entry_next : entryFor table "set_iterator.__next__" = some Builtin.«set_iterator.__next__» := entryFor_of_tree (by kernel_rfl)
theorem entry_iter : entryFor table "set_iterator.__iter__" = some Builtin.«dict_keyiterator.__iter__» :=
 entryFor_alias (id' := "dict_keyiterator.__iter__") (by kernel_rfl) (by first | rfl | decide +kernel | (unfold String.splitOn; simp +decide [String.splitOnAux])) (by decide +kernel) (by kernel_rfl)
theorem args_next (v : Value) : argsOk "set_iterator.__next__" ⟨[v], []⟩ := by
 unfold argsOk; rw [signature?_of (id := "set_iterator.__next__") (n := ['_', '_', 't', 'x', 'e', 'n', '_', '_']) (o := ['r', 'o', 't', 'a', 'r', 'e', 't', 'i', '_', 't', 'e', 's']) (by kernel_rfl) own_si]; kernel_rfl
theorem args_iter (v : Value) : argsOk "set_iterator.__iter__" ⟨[v], []⟩ := by
 unfold argsOk; rw [signature?_of (id := "set_iterator.__iter__") (n := ['_', '_', 'r', 'e', 't', 'i', '_', '_']) (o := ['r', 'o', 't', 'a', 'r', 'e', 't', 'i', '_', 't', 'e', 's']) (by kernel_rfl) own_si]; kernel_rfl
theorem entry_set_iter : entryFor table "set.__iter__" = some Builtin.«frozenset.__iter__» :=
 entryFor_alias (id' := "frozenset.__iter__") (by kernel_rfl) (by first | rfl | decide +kernel | (unfold String.splitOn; simp +decide [String.splitOnAux])) (by decide +kernel) (by kernel_rfl)
end SI
abbrev IsSI (h : Heap) (I : Addr) (F : Array Value) : Prop := h.get? I = some { cls := .type "set_iterator", dict := none, data := .fields F, slots := #[] }
section
variable {P : Program} {w : World} {A : Around} {E : Value → Shared → Prop} {s : Shared}
theorem si_self {I : Addr} {F : Array Value} {Q : Value → Shared → Prop} (hI : IsSI s.heap I F) (h : Q (.ref I) s) : wpAny (model P w) A (pyIter (.ref I)) Q E s := by
 have hT : s.TypeIs (.ref I) "set_iterator" := ⟨_, hI, rfl⟩
 refine wpAny_pyIter_slot hT SI.slot_iter (wpAny_call_entry SI.slot_iter hT SI.entry_iter ?_ (SI.args_iter _))
 show wpAny (model P w) _ (ret (.ref I)) _ _ s
 exact wpAny_pure ⟨_, rfl, "set_iterator", _, hT, SI.slot_next.lookup, h⟩
theorem si_item {I a : Addr} {sl i ep' : Nat} {es : Array (Int × Value)} {ep : Nat} {t : SetTable} {ks : List Str} {v : Value} {nx : Nat} {Q : Option Value → Shared → Prop} (hI : IsSI s.heap I #[rawInt sl, rawInt i, .ref a, rawInt es.size, rawInt ep'])
  (S : SetS P w s.heap a es ep t ks) (hn : ∀ (B : Around) (E' : Value → Shared → Prop) (Q' : Option (Value × Nat) → Shared → Prop), Q' (some (v, nx)) s → wpAny (model P w) B (setNext a sl i ep') Q' E' s)
  (h : ∀ h', IsSI h' I #[rawInt nx, rawInt (i + 1 : Nat), .ref a, rawInt es.size, rawInt ep'] → Heap.SameBut I s.heap h' → Q (some v) { s with heap := h' }) : wpAny (model P w) A (pyNext (.ref I)) Q E s := by
 have hT : s.TypeIs (.ref I) "set_iterator" := ⟨_, hI, rfl⟩
 obtain ⟨o, ho, hex, hd⟩ := S.obj
 unfold pyNext
 refine wpAny_bind (wpAny_attempt (wpAny_callSpecial?_slot (name := Str.ofString "__next__") hT SI.slot_next (wpAny_call_entry SI.slot_next hT SI.entry_next ?_ (SI.args_next _))))
 refine wpAny_bind (wpAny_pure ?_)
 refine wpAny_bind (wpAny_fieldsOf hI rfl ?_)
 refine wpAny_bind (wpAny_setEntries_of ho hd S.fits ?_)
 rw [if_neg (by simp [rawInt])]
 dsimp only [rawInt]
 rw [Int.toNat_natCast, Int.toNat_natCast, Int.toNat_natCast]
 refine wpAny_bind (hn _ _ _ ?_)
 dsimp only
 refine wpAny_bind (wpAny_setField_rec hI (by simp) fun h1 e1 b1 => ?_)
 refine wpAny_bind (wpAny_setField_rec e1 (by simp) fun h2 e2 b2 => ?_)
 refine wpAny_pure ⟨v, rfl, wpAny_pure (h h2 ?_ (b1.trans b2))⟩
 simpa [rawInt] using e2
theorem si_stop {I : Addr} {F : Array Value} {k0 : Option Nat} {Q : Option Value → Shared → Prop} (hh : A.handled = none) (hI : IsSI s.heap I F) (hk : 2 < F.size) (h : ∀ h', Heap.ExtBut I s.heap h' → Q none { s with heap := h' }) :
  wpAny (model P w) A.in1 (do setField (.ref I) 2 .none; raiseNew (← newExc (.type "StopIteration") []))
   (fun fin s' => ∃ v, fin = Fin.done (Flow.ret v) ∧ wpAny (model P w) A (pure (some v)) Q E s')
   (fun e s' => wpAny (model P w) A (do if ← isInstance e (.type "StopIteration") then pure none else throw e) Q E s') s := by
 refine wpAny_bind (wpAny_setField_rec hI hk fun h1 e1 b1 => ?_)
 refine wpAny_bind ?_
 simp only [newExc, newTuple]
 refine wpAny_bind (wpAny_newObj_type ?_ (by size_fits))
 refine wpAny_bind (m := firstArgMember _ _) (wpAny_of_eq (a := Value.none) (by first | rfl | (simp only [firstArgMember]; rfl)) ?_)
 refine wpAny_newObj_type ?_ (by size_fits)
 simp only [raiseNew]
 refine wpAny_bind (wpAny_handled ?_)
 rw [show A.in1.handled = none from hh]
 refine wpAny_bind (wpAny_pure (wpAny_throw ?_))
 refine wpAny_bind (wpAny_isInstance (T := "StopIteration") (b := true) ⟨_, Heap.get?_push_size _ rfl, rfl⟩ isSubtype_stop ?_)
 exact wpAny_pure (h _ ((b1.extBut.push _).push _))
theorem si_end {I a : Addr} {sl i ep' : Nat} {es : Array (Int × Value)} {ep : Nat} {t : SetTable} {ks : List Str} {Q : Option Value → Shared → Prop} (hh : A.handled = none) (hI : IsSI s.heap I #[rawInt sl, rawInt i, .ref a, rawInt es.size, rawInt ep'])
  (S : SetS P w s.heap a es ep t ks) (hn : ∀ (B : Around) (E' : Value → Shared → Prop) (Q' : Option (Value × Nat) → Shared → Prop), Q' none s → wpAny (model P w) B (setNext a sl i ep') Q' E' s)
  (h : ∀ h', Heap.ExtBut I s.heap h' → Q none { s with heap := h' }) : wpAny (model P w) A (pyNext (.ref I)) Q E s := by
 have hT : s.TypeIs (.ref I) "set_iterator" := ⟨_, hI, rfl⟩
 obtain ⟨o, ho, hex, hd⟩ := S.obj
 unfold pyNext
 refine wpAny_bind (wpAny_attempt (wpAny_callSpecial?_slot (name := Str.ofString "__next__") hT SI.slot_next (wpAny_call_entry SI.slot_next hT SI.entry_next ?_ (SI.args_next _))))
 refine wpAny_bind (wpAny_pure ?_)
 refine wpAny_bind (wpAny_fieldsOf hI rfl ?_)
 refine wpAny_bind (wpAny_setEntries_of ho hd S.fits ?_)
 rw [if_neg (by simp [rawInt])]
 dsimp only [rawInt]
 rw [Int.toNat_natCast, Int.toNat_natCast, Int.toNat_natCast]
 refine wpAny_bind (hn _ _ _ ?_)
 dsimp only
 exact si_stop (k0 := none) hh hI (by simp) h
theorem seq_items {T : Addr} {xs : Array Value} {B : Around} {E' : Value → Shared → Prop} {Q' : Option (Array Value) → Shared → Prop} (hT : s.heap.get? T = some { cls := .type "tuple", data := .seq xs }) (h : Q' (some xs) s) : wpAny (model P w) B (seqItems? (.ref T)) Q' E' s := by
 unfold seqItems?
 dsimp only
 refine wpAny_bind (wpAny_load hT ?_)
 exact wpAny_pure h
theorem sd_item {I a T : Addr} {i p : Nat} {es : Array (Int × Value)} {ep : Nat} {t : SetTable} {ks : List Str} {hv : Int} {v : Value} {ord : List Nat} {Q : Option Value → Shared → Prop} (hI : IsSI s.heap I #[.ref T, rawInt i, .ref a, rawInt es.size, rawInt ep])
  (hT' : s.heap.get? T = some { cls := .type "tuple", data := .seq (ord.map fun (i : Nat) => rawInt i).toArray }) (S : SetS P w s.heap a es ep t ks) (hp : ord[i]? = some p) (he : es[p]? = some (hv, v))
  (h : ∀ h', IsSI h' I #[.ref T, rawInt (i + 1 : Nat), .ref a, rawInt es.size, rawInt ep] → Heap.SameBut I s.heap h' → Q (some v) { s with heap := h' }) : wpAny (model P w) A (pyNext (.ref I)) Q E s := by
 have hT : s.TypeIs (.ref I) "set_iterator" := ⟨_, hI, rfl⟩
 obtain ⟨o, ho, hex, hd⟩ := S.obj
 unfold pyNext
 refine wpAny_bind (wpAny_attempt (wpAny_callSpecial?_slot (name := Str.ofString "__next__") hT SI.slot_next (wpAny_call_entry SI.slot_next hT SI.entry_next ?_ (SI.args_next _))))
 refine wpAny_bind (wpAny_pure ?_)
 refine wpAny_bind (wpAny_fieldsOf hI rfl ?_)
 refine wpAny_bind (wpAny_setEntries_of ho hd S.fits ?_)
 rw [if_neg (by simp [rawInt])]
 dsimp only [rawInt]
 refine wpAny_bind (seq_items hT' ?_)
 dsimp only
 have e1 : (ord.map fun (i : Nat) => rawInt i).toArray[((i : Nat) : Int).toNat]? = some (rawInt p) := by
  rw [Int.toNat_natCast, List.getElem?_toArray, List.getElem?_map, hp]; rfl
 rw [e1]
 dsimp only [rawInt]
 refine wpAny_bind ?_
 unfold setNextDrawn
 refine wpAny_bind (wpAny_setState_of ho hd S.fits ?_)
 dsimp only
 rw [Int.toNat_natCast, Int.toNat_natCast, if_neg (by simp), he]
 refine wpAny_pure ?_
 refine wpAny_bind (wpAny_setField_rec hI (by simp) fun h1 e1 b1 => ?_)
 refine wpAny_pure ⟨v, rfl, wpAny_pure (h h1 ?_ b1)⟩
 simpa [rawInt] using e1
theorem sd_end {I a T : Addr} {i : Nat} {es : Array (Int × Value)} {ep : Nat} {t : SetTable} {ks : List Str} {ord : List Nat} {Q : Option Value → Shared → Prop} (hh : A.handled = none) (hI : IsSI s.heap I #[.ref T, rawInt i, .ref a, rawInt es.size, rawInt ep])
  (hT' : s.heap.get? T = some { cls := .type "tuple", data := .seq (ord.map fun (i : Nat) => rawInt i).toArray }) (S : SetS P w s.heap a es ep t ks) (hp : ord[i]? = none)
  (h : ∀ h', Heap.ExtBut I s.heap h' → Q none { s with heap := h' }) : wpAny (model P w) A (pyNext (.ref I)) Q E s := by
 have hT : s.TypeIs (.ref I) "set_iterator" := ⟨_, hI, rfl⟩
 obtain ⟨o, ho, hex, hd⟩ := S.obj
 unfold pyNext
 refine wpAny_bind (wpAny_attempt (wpAny_callSpecial?_slot (name := Str.ofString "__next__") hT SI.slot_next (wpAny_call_entry SI.slot_next hT SI.entry_next ?_ (SI.args_next _))))
 refine wpAny_bind (wpAny_pure ?_)
 refine wpAny_bind (wpAny_fieldsOf hI rfl ?_)
 refine wpAny_bind (wpAny_setEntries_of ho hd S.fits ?_)
 rw [if_neg (by simp [rawInt])]
 dsimp only [rawInt]
 refine wpAny_bind (seq_items hT' ?_)
 dsimp only
 have e1 : (ord.map fun (i : Nat) => rawInt i).toArray[((i : Nat) : Int).toNat]? = none := by
  rw [Int.toNat_natCast, List.getElem?_toArray, List.getElem?_map, hp]; rfl
 rw [e1]
 dsimp only
 refine wpAny_bind (wpAny_setField_rec hI (by simp) fun h1 e1 b1 => ?_)
 exact si_stop (s := { s with heap := h1 }) (k0 := none) hh e1 (by simp) fun h2 x => h h2 (fun c o hc q => x c o hc (b1.extBut c o hc q))
theorem by_text {a : Addr} {Q : Bool → Shared → Prop} (h : Q (w.params.followText "set-order") s) : wpAny (model P w) A setsByText Q E s := by
 unfold setsByText
 exact wpAny_bind (wpAny_askSetting (wpAny_pure h))
theorem next_text {a : Addr} {es : Array (Int × Value)} {ep : Nat} {t : SetTable} {ks : List Str} {sl i : Nat} {Q : Option (Value × Nat) → Shared → Prop} (S : SetS P w s.heap a es ep t ks) (hb : w.params.followText "set-order" = true)
  (h : Q (((pickOrder (w.params.setOrder a ep) es)[i]?).map fun e => (e.2, sl)) s) : wpAny (model P w) A (setNext a sl i ep) Q E s := by
 obtain ⟨o, ho, hex, hd⟩ := S.obj
 unfold setNext
 refine wpAny_bind (wpAny_setState_of ho hd S.fits ?_)
 dsimp only
 refine wpAny_bind (by_text (a := a) ?_)
 rw [hb, if_pos rfl, if_neg (by simp)]
 refine wpAny_bind ?_
 unfold setWalk
 refine wpAny_bind (wpAny_setState_of ho hd S.fits ?_)
 dsimp only
 refine wpAny_bind (by_text (a := a) ?_)
 rw [hb, if_pos rfl]
 refine wpAny_bind (wpAny_askSetting (wpAny_pure ?_))
 exact wpAny_pure h
theorem next_few {a : Addr} {es : Array (Int × Value)} {ep : Nat} {t : SetTable} {ks : List Str} {sl i : Nat} {Q : Option (Value × Nat) → Shared → Prop} (S : SetS P w s.heap a es ep t ks) (hb : w.params.followText "set-order" = false) (h1 : es.size ≤ 1)
  (h : Q (match es[SetTable.below t.place sl]?, t.place[SetTable.below t.place sl]? with | some (_, x), some j => some (x, j + 1) | _, _ => none) s) : wpAny (model P w) A (setNext a sl i ep) Q E s := by
 obtain ⟨o, ho, hex, hd⟩ := S.obj
 have hl : t.led = true := by rw [S.led, hb]; rfl
 unfold setNext
 refine wpAny_bind (wpAny_setState_of ho hd S.fits ?_)
 dsimp only
 refine wpAny_bind (by_text (a := a) ?_)
 rw [hb, if_neg (by decide)]
 refine wpAny_ite_split (fun hab => ?_) (fun _ => ?_)
 ·have hab' : (!t.plain && decide (es.size > 1)) = true := hab
  simp at hab'
  omega
 refine wpAny_bind ?_
 show wpAny (model P w) A (if (!t.led && !es.isEmpty) = true then unsupported _ else pure ()) _ _ s
 rw [hl, if_neg (by simp)]
 exact wpAny_pure (wpAny_pure h)
end
theorem pick_perm {α : Type} (f : Nat → Nat) : ∀ (n k : Nat) (l : List α) (out : Array α), l.length = n → (pickOrder.go f n k l out).toList.Perm (out.toList ++ l)
 | 0, k, l, out, h => by
  have : l = [] := List.length_eq_zero_iff.mp h
  subst this
  unfold pickOrder.go
  rw [List.append_nil]
 | n + 1, k, l, out, h => by
  have lt : f k % l.length < l.length := Nat.mod_lt _ (by omega)
  unfold pickOrder.go
  rw [List.getElem?_eq_getElem lt]
  dsimp only
  refine (pick_perm f n (k + 1) _ _ (by rw [List.length_eraseIdx_of_lt lt]; omega)).trans ?_
  rw [Array.toList_push, List.append_assoc]
  refine List.Perm.append_left _ ?_
  have e : l = l.take (f k % l.length) ++ l[f k % l.length] :: l.drop (f k % l.length + 1) := by rw [← List.drop_eq_getElem_cons lt, List.take_append_drop]
  rw [List.eraseIdx_eq_take_drop_succ]
  conv => rhs; rw [e]
  show (l[f k % l.length] :: (l.take (f k % l.length) ++ l.drop (f k % l.length + 1))).Perm _
  exact List.perm_middle.symm
section
variable {P : Program} {w : World} {A : Around} {E : Value → Shared → Prop}
theorem draw_perm {α : Type} : ∀ (n : Nat) (l : List α) (s : Shared) (Q : List α → Shared → Prop), l.length = n → (∀ ys d', ys.Perm l → Q ys { s with drawn := d' }) → wpAny (model P w) A (drawOrder n l) Q E s
 | 0, l, s, Q, hl, h => by
  have : l = [] := List.length_eq_zero_iff.mp hl
  subst this
  unfold drawOrder
  exact wpAny_pure (h [] s.drawn (.refl _))
 | n + 1, [], s, Q, hl, h => by cases hl
 | n + 1, x :: l, s, Q, hl, h => by
  unfold drawOrder
  have go : ∀ i, i < (x :: l).length → wpAny (model P w) A (match (x :: l)[i]? with | some y => do return y :: (← drawOrder n ((x :: l).eraseIdx i)) | none => unsupported "internal:drawOrder") Q E { s with drawn := s.drawn.bump .order } := fun i hi => by
   rw [List.getElem?_eq_getElem hi]
   dsimp only
   refine wpAny_bind (draw_perm n _ _ _ (by rw [List.length_eraseIdx_of_lt hi]; omega) fun ys d' p => wpAny_pure ?_)
   refine h _ d' ?_
   have e : (x :: l) = (x :: l).take i ++ (x :: l)[i] :: (x :: l).drop (i + 1) := by rw [← List.drop_eq_getElem_cons hi, List.take_append_drop]
   refine (p.cons _).trans ?_
   rw [List.eraseIdx_eq_take_drop_succ]
   conv => rhs; rw [e]
   exact List.perm_middle.symm
  refine wpAny_bind ?_
  exact fun _ _ hΓ => ⟨by simp, go _ (Nat.mod_lt _ (by simp))⟩
end
section
variable {P : Program} {w : World} {A : Around} {E : Value → Shared → Prop} {s : Shared}
abbrev PvS (ks : List Str) : Nat → Value → Prop := fun i v => ∃ x tk, ks[i]? = some x ∧ v = .str x tk
theorem walk_text {I a : Addr} {es : Array (Int × Value)} {ep : Nat} {t : SetTable} {ks ks' : List Str} (hh : A.handled = none) (hne : a ≠ I) (hb : w.params.followText "set-order" = true)
  (hv : StrsAre ((pickOrder (w.params.setOrder a ep) es).toList.map (·.2)) ks') (hl : ks'.length = es.size) :
  Walks P w A I [I, a] [I] es.size (PvS ks') (fun i h => IsSI h I #[rawInt 0, rawInt i, .ref a, rawInt es.size, rawInt ep] ∧ SetS P w h a es ep t ks) where
 sub := fun b hb => by simp at hb; simp [hb]
 frame := fun _ _ _ st hk => ⟨hk I (by simp) _ st.1, st.2.at fun o q => hk a (by simp) o q⟩
 item := fun i s Q E hi st hQ => by
  have hsz : (pickOrder (w.params.setOrder a ep) es).size = es.size := by rw [← Array.length_toList, ← List.length_map (f := (·.2)), hv.length, hl]
  obtain ⟨e, he⟩ : ∃ e, (pickOrder (w.params.setOrder a ep) es)[i]? = some e := ⟨_, Array.getElem?_eq_getElem (by omega)⟩
  refine si_item (sl := 0) (v := e.2) (nx := 0) st.1 st.2 (fun B E' Q' q => next_text st.2 hb (by rw [he]; exact q)) fun h' e1 b1 => hQ e.2 h' s.toks ?_ ⟨e1, st.2.at fun o q => (b1.2 a hne).trans q⟩ fun b o hb q => (b1.2 b (by simpa using hb)).trans q
  obtain ⟨x, tk, ex, ev⟩ := strs_at hv i e.2 (by rw [List.getElem?_map, Array.getElem?_toList, he]; rfl)
  exact ⟨x, tk, ex, ev⟩
 done := fun s Q E st hQ => by
  have hsz : (pickOrder (w.params.setOrder a ep) es).size = es.size := by rw [← Array.length_toList, ← List.length_map (f := (·.2)), hv.length, hl]
  have he : (pickOrder (w.params.setOrder a ep) es)[es.size]? = none := Array.getElem?_eq_none (by omega)
  exact si_end (sl := 0) hh st.1 st.2 (fun B E' Q' q => next_text st.2 hb (by rw [he]; exact q)) fun h' x => hQ h' s.toks fun b o hb q => x b o (by simpa using hb) q
 self := fun _ _ _ _ st hQ => si_self st.1 hQ
theorem walk_drawn {I a T : Addr} {es : Array (Int × Value)} {ep : Nat} {t : SetTable} {ks ks' : List Str} {ord : List Nat} (hh : A.handled = none) (hne : a ≠ I) (hTI : T ≠ I) (hp : ord.Perm (List.range es.size))
  (hv : StrsAre (ord.map fun p => (es.getD p (0, .none)).2) ks') :
  Walks P w A I [I, a, T] [I] es.size (PvS ks') (fun i h => IsSI h I #[.ref T, rawInt i, .ref a, rawInt es.size, rawInt ep] ∧ SetS P w h a es ep t ks ∧ h.get? T = some { cls := .type "tuple", data := .seq (ord.map fun (i : Nat) => rawInt i).toArray }) where
 sub := fun b hb => by simp at hb; simp [hb]
 frame := fun _ _ _ st hk => ⟨hk I (by simp) _ st.1, st.2.1.at fun o q => hk a (by simp) o q, hk T (by simp) _ st.2.2⟩
 item := fun i s Q E hi st hQ => by
  have lo : ord.length = es.size := by rw [hp.length_eq, List.length_range]
  obtain ⟨p, ho⟩ : ∃ p, ord[i]? = some p := ⟨_, List.getElem?_eq_getElem (by omega)⟩
  have hlt : p < es.size := List.mem_range.mp (hp.mem_iff.mp (List.mem_of_getElem? ho))
  have he : es[p]? = some ((es.getD p (0, .none)).1, (es.getD p (0, .none)).2) := by
   rw [Array.getElem?_eq_getElem hlt, Array.getD_eq_getD_getElem?, Array.getElem?_eq_getElem hlt]; rfl
  refine sd_item st.1 st.2.2 st.2.1 ho he fun h' e1 b1 => hQ _ h' s.toks ?_ ⟨e1, st.2.1.at fun o q => (b1.2 a hne).trans q, (b1.2 T hTI).trans st.2.2⟩ fun b o hb q => (b1.2 b (by simpa using hb)).trans q
  obtain ⟨x, tk, ex, ev⟩ := strs_at hv i _ (by rw [List.getElem?_map, ho]; rfl)
  exact ⟨x, tk, ex, ev⟩
 done := fun s Q E st hQ => by
  have lo : ord.length = es.size := by rw [hp.length_eq, List.length_range]
  exact sd_end hh st.1 st.2.2 st.2.1 (List.getElem?_eq_none (by omega)) fun h' x => hQ h' s.toks fun b o hb q => x b o (by simpa using hb) q
 self := fun _ _ _ _ st hQ => si_self st.1 hQ
theorem below_one0 (p : Nat) : SetTable.below #[p] 0 = 0 := by
 unfold SetTable.below
 simp [SetTable.below.go]
theorem below_one1 (p : Nat) : SetTable.below #[p] (p + 1) = 1 := by
 unfold SetTable.below
 simp [SetTable.below.go]
theorem walk_few {I a : Addr} {es : Array (Int × Value)} {ep : Nat} {t : SetTable} {ks : List Str} (hh : A.handled = none) (hne : a ≠ I) (hb : w.params.followText "set-order" = false) (h1 : es.size ≤ 1) (hf : t.fits es.size = true) (hv : StrsAre (es.toList.map (·.2)) ks) :
  Walks P w A I [I, a] [I] es.size (PvS ks) (fun i h => IsSI h I #[rawInt (if i = 0 then 0 else t.place.getD 0 0 + 1 : Nat), rawInt i, .ref a, rawInt es.size, rawInt ep] ∧ SetS P w h a es ep t ks) where
 sub := fun b hb => by simp at hb; simp [hb]
 frame := fun _ _ _ st hk => ⟨hk I (by simp) _ st.1, st.2.at fun o q => hk a (by simp) o q⟩
 item := fun i s Q E hi st hQ => by
  have i0 : i = 0 := by omega
  subst i0
  have sz : es.size = 1 := by omega
  have tp : t.place.size = 1 := by
   unfold SetTable.fits at hf
   simp only [Bool.and_eq_true, beq_iff_eq] at hf
   omega
  obtain ⟨p, hp⟩ : ∃ p, t.place = #[p] := Array.size_eq_one_iff.mp tp
  obtain ⟨e, he⟩ : ∃ e, es[0]? = some e := ⟨_, Array.getElem?_eq_getElem (by omega)⟩
  refine si_item (sl := 0) (v := e.2) (nx := p + 1) st.1 st.2 (fun B E' Q' q => next_few st.2 hb h1 ?_) fun h' e1 b1 => hQ e.2 h' s.toks ?_ ⟨?_, st.2.at fun o q => (b1.2 a hne).trans q⟩ fun b o hb q => (b1.2 b (by simpa using hb)).trans q
  ·rw [hp, below_one0, he]
   exact q
  ·obtain ⟨x, tk, ex, ev⟩ := strs_at hv 0 e.2 (by rw [List.getElem?_map, Array.getElem?_toList, he]; rfl)
   exact ⟨x, tk, ex, ev⟩
  ·rw [hp]
   exact e1
 done := fun s Q E st hQ => by
  refine si_end hh st.1 st.2 (fun B E' Q' q => next_few st.2 hb h1 ?_) fun h' x => hQ h' s.toks fun b o hb q => x b o (by simpa using hb) q
  by_cases z : es.size = 0
  ·have ez : es = #[] := Array.size_eq_zero_iff.mp z
   rw [ez]
   simpa using q
  ·have sz : es.size = 1 := by omega
   have tp : t.place.size = 1 := by
    unfold SetTable.fits at hf
    simp only [Bool.and_eq_true, beq_iff_eq] at hf
    omega
   obtain ⟨p, hp⟩ : ∃ p, t.place = #[p] := Array.size_eq_one_iff.mp tp
   rw [if_neg z, hp]
   show Q' (match es[SetTable.below #[p] (p + 1)]?, (#[p] : Array Nat)[SetTable.below #[p] (p + 1)]? with | some (_, x), some j => some (x, j + 1) | _, _ => none) _
   rw [below_one1, Array.getElem?_eq_none (by omega)]
   exact q
 self := fun _ _ _ _ st hQ => si_self st.1 hQ
theorem iter_texts {a : Addr} {es : Array (Int × Value)} {ep : Nat} {t : SetTable} {ks : List Str} {Q : Value → Shared → Prop} (S : SetS P w s.heap a es ep t ks)
  (h : ∀ (I : Addr) (h1 : Heap) (d1 : Drawn) (fx : List Addr) (ks' : List Str) (St : Nat → Heap → Prop), ks'.Perm ks → s.heap.objs.size ≤ I → I < h1.objs.size → (∀ b ∈ fx, s.heap.objs.size ≤ b ∧ b < h1.objs.size) → (∀ b o, s.heap.get? b = some o → h1.get? b = some o) → St 0 h1 →
   (∀ B : Around, B.handled = none → Walks P w B I (I :: a :: fx) [I] es.size (PvS ks') St) → Q (.ref I) { s with heap := h1, drawn := d1 }) :
  wpAny (model P w) A (pyIter (.ref a)) Q E s := by
 obtain ⟨o, ho, hex, hd⟩ := S.obj
 have hT : s.TypeIs (.ref a) "set" := ⟨o, ho, hex.1⟩
 have la : a < s.heap.objs.size := Heap.lt_size ho
 have hsz := S.len
 refine wpAny_pyIter_slot hT PySem.F.slot_set_iter (wpAny_call_entry PySem.F.slot_set_iter hT SI.entry_set_iter ?_ (PySem.F.args_set_iter_1 _))
 unfold Builtin.«frozenset.__iter__» Builtin.Frozenset.slot0 slotArgs
 simp only [List.isEmpty_nil, Bool.not_true, Bool.false_eq_true, ↓reduceIte, bind_assoc, List.length_nil, bne_self_eq_false]
 unfold Builtin.Frozenset.addrOf Builtin.Frozenset.sizeOf
 refine wpAny_bind (wpAny_pure ?_)
 try dsimp only
 refine wpAny_bind (wpAny_pure ?_)
 refine wpAny_bind (wpAny_bind (wpAny_setEntries_of ho hd S.fits (wpAny_pure ?_)))
 unfold setDrawn
 refine wpAny_bind (wpAny_bind (wpAny_setState_of ho hd S.fits ?_))
 dsimp only
 refine wpAny_bind (by_text (a := a) (wpAny_pure ?_))
 refine wpAny_ite_split (fun hab => ?_) (fun hab => ?_)
 ·have hab' : (!w.params.followText "set-order" && (!t.plain && decide (es.size > 1))) = true := hab
  refine wpAny_bind (draw_perm _ _ _ _ (List.length_range) fun ys d' p => ?_)
  have ly : ys.length = es.size := by rw [p.length_eq, List.length_range]
  refine wpAny_bind (wpAny_newTuple ?_ (by rw [List.length_map, ly]; exact fits_of_scanBound S.small))
  have hoT : (s.heap.push { cls := .type "tuple", data := .seq (ys.map fun (i : Nat) => rawInt i).toArray }).get? s.heap.objs.size = some { cls := .type "tuple", data := .seq (ys.map fun (i : Nat) => rawInt i).toArray } := Heap.get?_push_size _ rfl
  have szT : (s.heap.push { cls := .type "tuple", data := .seq (ys.map fun (i : Nat) => rawInt i).toArray }).objs.size = s.heap.objs.size + 1 := Heap.size_push ..
  refine wpAny_bind (wpAny_setEpoch_of (s := { s with heap := s.heap.push { cls := .type "tuple", data := .seq (ys.map fun (i : Nat) => rawInt i).toArray }, drawn := d' }) (Heap.get?_push_of_some _ ho) hd S.fits ?_)
  have SS : SetS P w (s.heap.push { cls := .type "tuple", data := .seq (ys.map fun (i : Nat) => rawInt i).toArray }) a es ep t ks := S.at fun o q => Heap.get?_push_of_some _ q
  have old : ∀ b o, s.heap.get? b = some o → (s.heap.push { cls := .type "tuple", data := .seq (ys.map fun (i : Nat) => rawInt i).toArray }).get? b = some o := fun b o q => Heap.get?_push_of_some _ q
  generalize s.heap.push { cls := .type "tuple", data := .seq (ys.map fun (i : Nat) => rawInt i).toArray } = h1 at hoT szT SS old ⊢
  refine wpAny_bind (wpAny_newObj_type (wpAny_pure ⟨_, rfl, "set_iterator", _, ⟨_, Heap.get?_push_size _ rfl, rfl⟩, SI.slot_next.lookup, ?_⟩))
  have ent : ((List.range es.size).map fun p => (es.getD p (0, .none)).2) = es.toList.map (·.2) := by
   apply List.ext_getElem?
   intro i
   rw [List.getElem?_map, List.getElem?_map, show es.toList[i]? = es[i]? from Array.getElem?_toList]
   by_cases hi : i < es.size
   ·rw [List.getElem?_range hi, Array.getElem?_eq_getElem hi]
    show some (es.getD i (0, .none)).2 = some es[i].2
    rw [Array.getD_eq_getD_getElem?, Array.getElem?_eq_getElem hi]; rfl
   ·rw [List.getElem?_eq_none (by rw [List.length_range]; omega), Array.getElem?_eq_none (by omega)]; rfl
  obtain ⟨ks', v', p'⟩ := strs_perm (p.map fun p => (es.getD p (0, .none)).2) (ks := ks) (by rw [ent]; exact S.vals)
  refine h h1.objs.size (h1.push _) d' [s.heap.objs.size] ks' _ p' (by rw [szT]; exact Nat.le_succ _) (by rw [Heap.size_push]; exact Nat.lt_succ_self _) (fun b hb => ?_) (fun b o q => Heap.get?_push_of_some _ (old b o q)) ?_ (fun B hB => walk_drawn (ep := ep) (t := t) (ks := ks) hB ?_ ?_ p v')
  ·rw [List.mem_singleton.mp hb, Heap.size_push, szT]
   exact ⟨Nat.le_refl _, Nat.lt_succ_of_lt (Nat.lt_succ_self _)⟩
  ·exact ⟨Heap.get?_push_size _ rfl, SS.at fun o q => Heap.get?_push_of_some _ q, Heap.get?_push_of_some _ hoT⟩
  ·rw [szT]; exact Nat.ne_of_lt (Nat.lt_succ_of_lt la)
  ·rw [szT]; exact Nat.ne_of_lt (Nat.lt_succ_self _)
 ·have hab' : ¬ (!w.params.followText "set-order" && (!t.plain && decide (es.size > 1))) = true := hab
  refine wpAny_bind (wpAny_pure ?_)
  refine wpAny_bind (wpAny_setEpoch_of ho hd S.fits ?_)
  refine wpAny_bind (wpAny_newObj_type (wpAny_pure ⟨_, rfl, "set_iterator", _, ⟨_, Heap.get?_push_size _ rfl, rfl⟩, SI.slot_next.lookup, ?_⟩))
  have neI : a ≠ s.heap.objs.size := Nat.ne_of_lt la
  cases hb : w.params.followText "set-order" with
  | true =>
   obtain ⟨ks', v', p'⟩ := strs_perm ((pick_perm (w.params.setOrder a ep) es.size 0 es.toList #[] (by simp)).map (·.2)) (ks := ks) (by simpa using S.vals)
   exact h s.heap.objs.size (s.heap.push _) s.drawn [] ks' _ p' (Nat.le_refl _) (by rw [Heap.size_push]; exact Nat.lt_succ_self _) (fun b hb => by simp at hb) (fun b o q => Heap.get?_push_of_some _ q) ⟨Heap.get?_push_size _ rfl, S.at fun o q => Heap.get?_push_of_some _ q⟩
    (fun B hB => walk_text (ep := ep) (t := t) (ks := ks) hB neI hb v' (by rw [p'.length_eq, hsz]))
  | false =>
   have few : es.size ≤ 1 := by
    rw [hb] at hab'
    by_cases z : es.size ≤ 1
    ·exact z
    ·exfalso
     refine hab' ?_
     rw [S.plain (by omega), decide_eq_true (show es.size > 1 by omega)]
     rfl
   exact h s.heap.objs.size (s.heap.push _) s.drawn [] ks _ (.refl _) (Nat.le_refl _) (by rw [Heap.size_push]; exact Nat.lt_succ_self _) (fun b hb => by simp at hb) (fun b o q => Heap.get?_push_of_some _ q) ⟨Heap.get?_push_size _ rfl, S.at fun o q => Heap.get?_push_of_some _ q⟩
    (fun B hB => walk_few (ep := ep) (t := t) (ks := ks) hB neI hb few S.fits S.vals)
theorem set_hint {r : Addr} {Q : Bool → Shared → Prop} (hT : s.TypeIs (.ref r) "set") (h : Q false s) : wpAny (model P w) A (Builtin.List.listLengthHint (.ref r)) Q E s := by
 unfold Builtin.List.listLengthHint
 refine wpAny_bind (wpAny_specialOf hT PySem.F.slot_set_len.lookup ?_)
 generalize hid : ("set.__len__" : String) = id0
 wp_delta
 rw [show splitId id0 = some ("set", "__len__") from by subst hid; decide +kernel]
 subst hid
 refine wpAny_bind (wpAny_isInstance (T := "set") (b := true) hT (by rw [isSubtype_type]; kernel_rfl) ?_)
 refine wpAny_ite_split (fun hab => absurd hab (by decide)) (fun _ => ?_)
 refine wpAny_ite_split (fun _ => ?_) (fun hab => absurd (by decide +kernel) hab)
 exact wpAny_bind (wpAny_typeOf hT (wpAny_pure h))
theorem set_collect {a : Addr} {es : Array (Int × Value)} {ep : Nat} {t : SetTable} {ks : List Str} {Q : List Value → Shared → Prop} (S : SetS P w s.heap a es ep t ks) (hh : A.handled = none)
  (h : ∀ (h' : Heap) (tk : Nat) (d' : Drawn) (acc : List Value) (ks' : List Str), (∀ b o, s.heap.get? b = some o → h'.get? b = some o) → StrsAre acc ks' → ks'.Perm ks → Q acc { s with heap := h', toks := tk, drawn := d' }) :
  wpAny (model P w) A (collect (.ref a)) Q E s := by
 obtain ⟨o, ho, hex, hd⟩ := S.obj
 have la : a < s.heap.objs.size := Heap.lt_size ho
 have hsz := S.len
 unfold collect
 refine wpAny_bind (wpAny_runValue (codeAny_builtin entry_proto_collect' ?_))
 rw [Around.under_plainId PySem.F.plain_proto_collect]
 show wpAny (model P w) A.in1 (newList [] >>= fun l => again (.builtin "list.__iadd__" ⟨[l, .ref a], []⟩)) _ _ s
 refine wpAny_bind (wpAny_newObj_type ?_)
 refine wpAny_pure ⟨plainId_quiet PySem.F.plain_list_iadd _, codeAny_builtin entry_list_iadd' ?_⟩
 rw [Around.under_plainId PySem.F.plain_list_iadd]
 have g1 : (s.heap.push { cls := .type "list", data := .seq ([] : List Value).toArray }).get? s.heap.objs.size = some { cls := .type "list", data := .seq #[] } := Heap.get?_push_size _ rfl
 have z1 : (s.heap.push { cls := .type "list", data := .seq ([] : List Value).toArray }).objs.size = s.heap.objs.size + 1 := Heap.size_push ..
 have k1 : ∀ b o, s.heap.get? b = some o → (s.heap.push { cls := .type "list", data := .seq ([] : List Value).toArray }).get? b = some o := fun b o q => Heap.get?_push_of_some _ q
 show wpAny (model P w) A.in1 (Builtin.List.listExtendWith (.ref s.heap.objs.size) (.ref a) (.ref s.heap.objs.size)) _ _ _
 generalize s.heap.push { cls := .type "list", data := .seq ([] : List Value).toArray } = h1 at g1 z1 k1 ⊢
 have S1 : SetS P w h1 a es ep t ks := S.at fun o q => k1 a o q
 have T1 : Shared.TypeIs { s with heap := h1 } (.ref a) "set" := ⟨o, k1 a o ho, hex.1⟩
 unfold Builtin.List.listExtendWith
 refine wpAny_bind (wpAny_typeOf T1 ?_)
 have n1 : Builtin.List.listSameRef (.ref s.heap.objs.size) (.ref a) = false := by simp [Builtin.List.listSameRef]; exact Nat.ne_of_gt la
 rw [if_neg (by rw [n1]; decide)]
 refine wpAny_bind (iter_texts (s := { s with heap := h1 }) S1 fun I h2 d2 fx ks' St pk leI ltI fxo k2 st W => ?_)
 refine wpAny_bind (wpAny_holding (set_hint ⟨o, k2 a o (k1 a o ho), hex.1⟩ ?_))
 refine wpAny_ite_split (fun _ => ?_) (fun hab => absurd (by decide +kernel) hab)
 have lS : s.heap.objs.size < h1.objs.size := by rw [z1]; exact Nat.lt_succ_self _
 have nf : s.heap.objs.size ∉ I :: a :: fx := fun m => by
  rcases List.mem_cons.mp m with q | m
  ·exact absurd leI (by rw [← q]; exact Nat.not_le.mpr lS)
  ·rcases List.mem_cons.mp m with q | m
   ·exact absurd la (by rw [← q]; exact Nat.lt_irrefl _)
   ·exact absurd (fxo _ m).1 (Nat.not_le.mpr lS)
 refine wpAny_bind (wpAny_rule (wpAny_bind ?_))
 have g2 := k2 _ _ g1
 show wpAny (model P w) A.in1 (updateSeq s.heap.objs.size (·.push .none) >>= fun _ => updateSeq s.heap.objs.size (·.pop)) _ _ _
 refine wpAny_bind (wpAny_updateSeq g2 rfl ?_)
 have g3 := Heap.get?_update_self (Obj.mapSeq (·.push Value.none)) g2 rfl
 refine wpAny_updateSeq (hz := by seq_fits) g3 rfl ?_
 have g4 := Heap.get?_update_self (Obj.mapSeq (·.pop)) g3 rfl
 have k4 : ∀ b o, b ≠ s.heap.objs.size → h2.get? b = some o → ((h2.update s.heap.objs.size (Obj.mapSeq (·.push Value.none))).update s.heap.objs.size (Obj.mapSeq (·.pop))).get? b = some o := fun b o nb q =>
  (Heap.get?_update_other _ _ (Ne.symm nb)).trans ((Heap.get?_update_other _ _ (Ne.symm nb)).trans q)
 have st4 := (W A.in1 hh).frame 0 _ _ st fun b hb o q => k4 b o (fun z => nf (z ▸ hb)) q
 refine wpAny_pure ⟨plainId_quiet PySem.F.plain_extend_loop _, codeAny_extend_loopS (W A.in1 hh).toS (fits_of_scanBound S.small) s.heap.objs.size nf _ es.size 0 _ #[] _ rfl (Nat.zero_le _) st4 g4 (ItemsOf.nil _) fun s' acc' c' hm hS' hacc => ?_⟩
 show wpAny (model P w) A (load s.heap.objs.size >>= _) _ _ s'
 refine wpAny_bind (wpAny_load hS' ?_)
 refine wpAny_pure ?_
 rw [Moved.eq_with hm]
 refine h s'.heap s'.toks d2 acc'.toList ks' (fun b o q => hm.heap b o (fun m => ?_) (k4 b o (Nat.ne_of_lt (Heap.lt_size q)) (k2 b o (k1 b o q)))) ?_ pk
 ·have lb := Heap.lt_size q
  rcases List.mem_cons.mp m with z | m
  ·exact absurd lb (by rw [z]; exact Nat.lt_irrefl _)
  ·have z := List.mem_singleton.mp m
   exact absurd (Nat.lt_trans lb lS) (by rw [z]; exact Nat.not_lt.mpr leI)
 ·have ll : acc'.toList.length = ks'.length := by rw [Array.length_toList, hacc.1, hsz, pk.length_eq]
  refine strsAre_by ll fun i v x e1 e2 => ?_
  obtain ⟨y, tk, ey, ev⟩ := hacc.2 i v (by rw [← Array.getElem?_toList]; exact e1)
  rw [e2] at ey
  cases ey
  exact ⟨tk, ev⟩
end
def SetO (P : Program) (w : World) (a : Addr) (ks : List Str) : HO := .ext fun h => ∃ es ep t ks', SetS P w h a es ep t ks' ∧ ks'.Perm ks
section
variable {X : Cx}
def rSortSet (X : Cx) : List V → Hp → VK → Prop := fun xs H Q => ∃ (a : Addr) (ks : List Str), xs = [.ref a] ∧ H a = some (SetO X.prog X.w a ks) ∧ ks.length < 64 ∧
 ∀ (p : Addr) (ss' : List Str), H p = none → ss'.Perm ks → sortedS ss' = true → Q (.ref p) (upd H p (.lst (ss'.map V.str)))
theorem call_sortSet (hc : X.calm = true) : CallR X (.builtin "sorted") (rSortSet X) := by
 intro pins s σ H xs us Q I r h
 obtain ⟨a, ks, rfl, ha, h64, q⟩ := h
 obtain ⟨u, rfl, ru⟩ := vals1 r
 cases ru
 obtain ⟨⟨es, ep, t, ks0, S, p0⟩, _, _⟩ := (show ObjOk X.prog X.w H s.heap a (SetO X.prog X.w a ks) from I.hok a _ ha)
 refine Calls.call_function_entry kind_sorted plain_sorted entry_sorted (args_sorted1 _) ?_
 unfold Builtin.«sorted»
 (refine wpAny_bind (m := checkCount "sorted" 1 1 _) (wpAny_pure ?_))
 refine wpAny_bind (set_collect (A := X.A.in1) S (I.ok.hd hc) fun h' tk d' acc ks1 k hS p1 => ?_)
 have hl : acc.length = ks.length := by rw [hS.length, p1.length_eq, p0.length_eq]
 refine wpAny_bind (wpAny_newList ?_ (by rw [hl]; exact Nat.le_of_lt (Nat.lt_of_lt_of_le h64 (by decide))))
 have hoL : (h'.push (seqObj "list" acc.toArray 0)).get? h'.objs.size = some (seqObj "list" acc.toArray 0) := Heap.get?_push_size _ rfl
 refine wpAny_bind (wpAny_holding (wpAny_call_entry slot_list_sort ⟨_, hoL, rfl⟩ entry_list_sort (list_sort_treeK strKind_oneLt hoL hS.keysOf (fun v1 v2 rest e => keyKind_strs (by rw [← e]; exact hS)) (by rw [hl]; exact h64) fun st' hp hs => ⟨_, rfl, ?_⟩) (args_list_sort _)))
 obtain ⟨ss', a1, a2, a3⟩ := sorted_out_str hS hp hs
 have I1 : Inv X pins σ H { s with heap := h', toks := tk, drawn := d' } := I.step (g' := s.gens) (d' := d') (ch := []) (fun b z => by cases z) (fun b o _ _ _ e _ => k b o e) (fun b o _ _ _ e _ => ⟨o.slots, k b o e⟩) (fun _ _ _ _ n => n)
  (fun b o _ e => ⟨o, k b o e⟩) (fun _ _ e => e) (fun _ _ _ e => e) (fun b ps e => ⟨#[], by rw [e]; simp⟩) (fun m ⟨ob, e1, e2, hb, r⟩ => ⟨ob, e1, e2, k _ ob hb, r⟩) (fun b u e => (I.hok b u e).stay (fun c v _ z => k c v z) (fun _ z => z) fun _ _ z => z) I.bare
 obtain ⟨e, he⟩ := sortedHeap_at (out := (arrOf st').map (·.2)) hoL
 have kp : ∀ b u, h'.get? b = some u → (sortedHeap (h'.push (seqObj "list" acc.toArray 0)) h'.objs.size acc ((arrOf st').map (·.2))).get? b = some u := fun b u eb => by
  have lt := Heap.lt_size eb
  rw [sortedHeap_old (Nat.ne_of_lt lt) (by rw [Heap.size_push]; exact Nat.lt_succ_of_lt lt)]
  exact Heap.get?_push_of_some _ eb
 have I2 := I1.laid (a := h'.objs.size) (o := .lst (ss'.map V.str)) (t' := tk) kp (Nat.le_refl _) ⟨by rw [List.length_map, a2.length_eq, p1.length_eq, p0.length_eq]; exact Nat.le_of_lt (Nat.lt_of_lt_of_le h64 (by decide)), ((arrOf st').map (·.2)).toList, e, vals_strs a1, he⟩
 exact wpAny_pure ⟨_, rfl, ⟨.ref h'.objs.size, _, I2, rfl, q _ ss' (I1.hok.fresh (Nat.le_refl _)) ((a2.trans p1).trans p0) a3⟩⟩
end
end L2
namespace L2
open PySem PySem.Spec PyProof.Rows
open PySem.AutoSeq1 (wpAny_loadPart')
theorem lt_no (x y : Str) (h : (!ltCps y.cps.toList x.cps.toList) = true) : x.cps.toList ≤ y.cps.toList := by
 rw [PyProof.Rows.ltCps_eq] at h
 exact List.not_lt.mp (by simpa using h)
theorem rising_le : ∀ (l : List Str) (p : Str), risingS p l = true → ∀ y ∈ l, p.cps.toList ≤ y.cps.toList
 | [], p, _, y, hy => by cases hy
 | x :: l, p, h, y, hy => by
  have h' : (!ltCps x.cps.toList p.cps.toList && risingS x l) = true := h
  rw [Bool.and_eq_true] at h'
  have h1 := lt_no p x h'.1
  rcases List.mem_cons.mp hy with e | hy
  ·rw [e]; exact h1
  ·exact List.le_trans h1 (rising_le l x h'.2 y hy)
theorem sorted_tail {x : Str} {l : List Str} (h : sortedS (x :: l) = true) : sortedS l = true := by
 cases l with
 | nil => rfl
 | cons y l =>
  have h' : (!ltCps y.cps.toList x.cps.toList && risingS y l) = true := h
  rw [Bool.and_eq_true] at h'
  exact h'.2
theorem str_eq {x y : Str} (h : x.cps.toList = y.cps.toList) : x = y := by
 obtain ⟨a⟩ := x
 obtain ⟨b⟩ := y
 have : a = b := Array.toList_inj.mp h
 rw [this]
theorem sorted_uniq : ∀ {l m : List Str}, sortedS l = true → sortedS m = true → l.Nodup → m.Nodup → (∀ y, y ∈ l ↔ y ∈ m) → l = m
 | [], [], _, _, _, _, _ => rfl
 | [], y :: m, _, _, _, _, h => by have := (h y).mpr List.mem_cons_self; cases this
 | x :: l, [], _, _, _, _, h => by have := (h x).mp List.mem_cons_self; cases this
 | x :: l, y :: m, sl, sm, nl, nm, h => by
  rw [List.nodup_cons] at nl nm
  have e : x = y := by
   rcases List.mem_cons.mp ((h x).mp List.mem_cons_self) with e | hx
   ·exact e
   ·rcases List.mem_cons.mp ((h y).mpr List.mem_cons_self) with e | hy
    ·exact e.symm
    ·exact str_eq (List.le_antisymm (rising_le l x sl y hy) (rising_le m y sm x hx))
  subst e
  rw [sorted_uniq (sorted_tail sl) (sorted_tail sm) nl.2 nm.2 fun z => ?_]
  constructor
  ·intro hz
   rcases List.mem_cons.mp ((h z).mp (List.mem_cons_of_mem _ hz)) with e | q
   ·exact absurd (e ▸ hz) nl.1
   ·exact q
  ·intro hz
   rcases List.mem_cons.mp ((h z).mpr (List.mem_cons_of_mem _ hz)) with e | q
   ·exact absurd (e ▸ hz) nm.1
   ·exact q
theorem nodup_len : ∀ {l : List Str} {ss : List Str}, l.Nodup → (∀ y ∈ l, y ∈ ss) → l.length ≤ ss.length
 | [], ss, _, _ => Nat.zero_le _
 | x :: l, ss, h, hs => by
  rw [List.nodup_cons] at h
  have hx := hs x List.mem_cons_self
  have := nodup_len (l := l) (ss := ss.erase x) h.2 fun y hy => (List.mem_erase_of_ne (fun e : y = x => h.1 (by rw [← e]; exact hy))).mpr (hs y (List.mem_cons_of_mem _ hy))
  rw [List.length_erase_of_mem hx] at this
  have hp : 0 < ss.length := List.length_pos_of_mem hx
  rw [List.length_cons]
  omega
theorem inV_strs (x : Str) (l : List Str) : inV (.str x) (l.map V.str) = decide (x ∈ l) := by
 induction l with
 | nil => rfl
 | cons y l ih =>
  unfold inV at ih ⊢
  rw [List.map_cons, List.any_cons, ih]
  show ((y == x) || _) = _
  by_cases e : y = x
  ·simp [e]
  ·have e' : ¬ x = y := fun z => e z.symm
   simp [e, e']
end L2
namespace L2
open PySem PySem.Spec PyProof.Rows PySem.W PySem.Builtin PySem.Builtin.ObjectAttr
end L2
namespace HT
open PySem PySem.Spec PyProof.Rows
section
variable {prog : Program} {w : World} {A : Around} {E : Value → Shared → Prop} {s : Shared}
theorem getItem_tuple_whole {t sl : Addr} {items : Array Value} {vl vu : Value} {lo hi : Option Int} {Q : Value → Shared → Prop} (ht : IsTup s.heap t items) (hs : s.heap.IsSliceOf sl vl vu .none) (pl : IsPart vl lo) (pu : IsPart vu hi)
  (hw : sIx items.size 0 lo = 0 ∧ sIx items.size items.size hi = items.size) (h : Q (.ref t) s) : wpAny (model prog w) A (getItem (.ref t) (.ref sl)) Q E s := by
 obtain ⟨os, hos, hcs, hds⟩ := id hs
 have hTs : s.TypeIs (.ref sl) "slice" := ⟨os, hos, hcs⟩
 unfold getItem
 try with_reducible refine wpAny_holding ?_
 first | refine wpAny_bind (wpAny_pure ?_) | skip
 refine wpAny_bind (wpAny_sequenceKey ht.typeIs (by decide) ?_)
 refine wpAny_bind (wpAny_callSpecial?_slot (name := Str.ofString "__getitem__") ht.typeIs PyProof.Rows.slot_tuple_getitem
  (wpAny_call_entry PyProof.Rows.slot_tuple_getitem ht.typeIs entry_tuple_getitem ?_ (args_tuple_getitem _ _)))
 show wpAny _ _ (Builtin.Tuple.tupleItemsOf (.ref t) >>= _) _ _ s
 refine wpAny_bind (tupleItemsOf_ ht ?_)
 refine wpAny_bind (wpAny_typeOf hTs ?_)
 rw [if_pos (by decide)]
 refine wpAny_bind (sliceApplied_gen hs pl pu ?_)
 have hyes : (((sIx items.size 0 lo : Nat) : Int) == 0 && (1 : Int) == 1 && (sIx items.size items.size hi - sIx items.size 0 lo) == items.size) = true := by
  rw [hw.1, hw.2]; simp
 show wpAny _ _ (if (((sIx items.size 0 lo : Nat) : Int) == 0 && (1 : Int) == 1 && (sIx items.size items.size hi - sIx items.size 0 lo) == items.size) = true then _ else _) _ _ s
 rw [if_pos hyes]
 refine wpAny_bind ?_
 unfold Builtin.Tuple.tupleIsExact
 refine wpAny_bind (wpAny_typeOf ht.typeIs (wpAny_pure ?_))
 rw [if_pos (by decide)]
 exact wpAny_bind (wpAny_rule (wpAny_pure ⟨_, rfl, wpAny_pure h⟩))
end
end HT
namespace L2
open PySem PySem.Spec PyProof.Rows
section
variable {X : Cx}
def rSlTW (K : PySem.W.Frag) : V → Option Int → Option Int → Hp → VK → Prop := fun x lo hi H Q => ∃ a xs, x = .ref a ∧ SqT K H a xs ∧
 ((HT.sIx xs.length 0 lo = 0 ∧ HT.sIx xs.length xs.length hi = xs.length) → Q (.ref a) H) ∧
 (¬ (HT.sIx xs.length 0 lo = 0 ∧ HT.sIx xs.length xs.length hi = xs.length) → ∀ p, H p = none → Q (.ref p) (upd H p (.tup (cutV xs lo hi))))
theorem sl_tupW (K : PySem.W.Frag) (hK : X.K = K := by rfl) : SlR X (rSlTW K) := by
 subst hK
 intro pins s σ H x v vl vu lo hi sl Q I rx hs pl pu h
 obtain ⟨a, xs, rfl, hx, hw, q⟩ := h
 by_cases c : HT.sIx xs.length 0 lo = 0 ∧ HT.sIx xs.length xs.length hi = xs.length
 ·cases rx
  obtain ⟨its, r, ht, hz⟩ := I.tuple hx
  have hlen : its.toArray.size = xs.length := by rw [List.size_toArray]; exact r.length.symm
  refine ⟨"tuple", _, PyProof.Rows.slot_tuple_getitem.lookup, ht.typeIs, ?_⟩
  exact HT.getItem_tuple_whole ht hs pl pu (by rw [hlen]; exact c) ⟨.ref a, H, I, rfl, hw c⟩
 ·exact sl_tup pins s σ H _ v vl vu lo hi sl Q I rx hs pl pu ⟨a, xs, rfl, hx, c, q c⟩
end
section
variable {prog : Program} {w : World} {A : Around} {E : Value → Shared → Prop} {s : Shared}
theorem draw_list {it t : Addr} {items : Array Value} (hne : t ≠ it) : ∀ (n i : Nat) (s : Shared) (Q : List Value → Shared → Prop), s.heap.IsListIter it t i → s.heap.IsList t items → i + n ≤ items.size →
  (∀ h', h'.IsListIter it t (i + n) → Heap.SameBut it s.heap h' → Q ((items.toList.drop i).take n) { s with heap := h' }) → wpAny (model prog w) A (draw (.ref it) n) Q E s
 | 0, i, s, Q, hit, _, _, hQ => by
  show wpAny _ _ (pure []) Q E s
  exact wpAny_pure (by simpa using hQ s.heap hit (Heap.SameBut.refl ..))
 | n + 1, i, s, Q, hit, ht, hle, hQ => by
  have hlt : i < items.size := by omega
  show wpAny _ _ (pyNext (.ref it) >>= _) Q E s
  refine wpAny_bind (wpAny_pyNext_list_item hit ht (x := items[i]) (by simp [hlt]) fun h₁ hit₁ hs₁ => ?_)
  refine wpAny_bind (wpAny_holding (draw_list hne n (i + 1) _ _ hit₁ (ht.extBut hs₁.extBut hne) (by omega) fun h₂ hit₂ hs₂ => wpAny_pure ?_))
  have hd : items.toList.drop i = items[i] :: items.toList.drop (i + 1) := by simp [List.drop_eq_getElem_cons, hlt]
  have := hQ h₂ (by rw [show i + (n + 1) = i + 1 + n by omega]; exact hit₂) (hs₁.trans hs₂)
  rw [hd, List.take_succ_cons] at this
  exact this
theorem unpackItems_list {t : Addr} {items : Array Value} {Q : List Value → Shared → Prop} (hh : A.handled = none) (ht : s.heap.IsList t items)
  (hQ : ∀ h', Heap.ExtBut s.heap.objs.size s.heap h' → Q items.toList { s with heap := h' }) : wpAny (model prog w) A (unpackItems (.ref t) items.size none) Q E s := by
 have hlt : t ≠ s.heap.objs.size := by obtain ⟨o, ho, _⟩ := ht; exact Nat.ne_of_lt (Heap.lt_size ho)
 unfold unpackItems
 refine wpAny_bind ?_
 ·unfold notIterableAtAll
  refine wpAny_bind (wpAny_specialOf ht.typeIs slot_list_iter.lookup ?_)
  refine wpAny_pure ?_
  simp only [Bool.false_eq_true, if_false]
  refine wpAny_bind (wpAny_holding (wpAny_pyIter_list ht ?_))
  refine wpAny_bind (wpAny_holding (draw_list hlt items.size 0 _ _ ⟨_, Heap.get?_push_size _ rfl, rfl, rfl⟩ (ht.push _) (by omega) fun h₁ hit₁ hs₁ => ?_))
  have hall : List.take items.size (List.drop 0 items.toList) = items.toList := by
   rw [List.drop_zero]; exact List.take_of_length_le (by simp)
  rw [hall]
  rw [if_neg (by simp)]
  have ht₁ : h₁.IsList t items := (ht.push _).extBut hs₁.extBut hlt
  refine wpAny_bind (wpAny_holding (wpAny_pyNext_list_end hh hit₁ ht₁ (by simp) fun h₂ he₂ => ?_))
  simp only [Option.isSome_none, Bool.false_eq_true, if_false]
  refine wpAny_pure (hQ h₂ fun b o hb e => he₂ b o hb (hs₁.extBut b o hb (Heap.get?_push_of_some _ e)))
theorem assign_Tuple_list {env : Env} {elts : List Expr} {x1} {pos : Pos} {t : Addr} {items : Array Value} {Q : Unit → Shared → Prop} (hh : A.handled = none) (ht : s.heap.IsList t items)
  (hn : (assignEach elts env).length = items.size) (hstar : (assignEach elts env).findIdx? (·.1) = none)
  (h : ∀ h', Heap.ExtBut s.heap.objs.size s.heap h' → wpAny (model prog w) A (assignInOrder ((assignEach elts env).map (·.2)) items.toList) Q E { s with heap := h' }) :
  wpAny (model prog w) A (assign (.Tuple elts x1 pos) env (.ref t)) Q E s := by
 rw [assign_Tuple]
 refine wpAny_bind (wpAny_standAt ?_)
 unfold unpack
 rw [hn, hstar]
 exact wpAny_bind (wpAny_holding (unpackItems_list hh ht h))
end
section
variable {X : Cx} {pos : Pos}
def gLst (K : PySem.W.Frag) (n : Nat) (t : TGs) : TG := fun v σ H Q => ∃ a xs, v = .ref a ∧ SqL K H a xs ∧ xs.length = n ∧ t xs σ H Q
theorem pg_lst {es : List Expr} {k : Nat} {t : TGs} {n : Nat} (hc : X.calm = true) (h : PGs X es t)
  (hn : (assignEach es X.env).length = n := by rfl) (hst : (assignEach es X.env).findIdx? (·.1) = none := by rfl) : PG X (.Tuple es k pos) (gLst X.K n t) := by
 intro pins s σ H v u Q I r hw
 obtain ⟨a, xs, e1, hq, hl, hw⟩ := hw
 subst e1
 cases r
 obtain ⟨its, rv, ht, hz⟩ := I.list hq
 refine assign_Tuple_list (I.ok.hd hc) ht.isList (by simp [hn, ← hl, rv.length]) hst fun h' hx => ?_
 have I1 : Inv X pins σ H { s with heap := h' } := I.kept (t' := s.toks) fun b o e => hx b o (Nat.ne_of_lt (Heap.lt_size e)) e
 exact h pins _ σ H xs _ Q I1 (by simpa using rv) hw
end
section
variable {X : Cx}
theorem kit_bb {K : PySem.W.Frag} : PySem.W.kitOne K (.type "bool") (.type "bool") = some true := by rfl
end
section
variable {X : Cx} {e : Expr} {lo hi : Option Expr} {st : Expr} {te : TE} {tl th tk : TO} {p2 pos : Pos}
def rRevL (K : PySem.W.Frag) (x : V) (l u k : Option Int) : Hp → VK → Prop := fun H Q => ∃ a xs, l = none ∧ u = none ∧ k = some (-1) ∧ x = .ref a ∧ SqL K H a xs ∧ ∀ p, H p = none → Q (.ref p) (upd H p (.lst xs.reverse))
def tRevL (K : PySem.W.Frag) (te : TE) (tl th tk : TO) : TE := fun σ H Q => te σ H fun x H1 => tl σ H1 fun l H2 => th σ H2 fun u H3 => tk σ H3 fun k H4 => rRevL K x l u k H4 Q
theorem pe_revL (K : PySem.W.Frag) (he : PE X e te) (hl : PO X lo tl) (hu : PO X hi th) (hk : PO X (some st) tk) (hK : X.K = K := by rfl) : PE X (.Subscript e (.Slice lo hi (some st) p2) pos) (tRevL K te tl th tk) := by
 subst hK
 intro pins s σ H Q I h
 refine Subscript_ (thn (he pins s σ H _ I h) ?_)
 rintro v s1 ⟨x, H1, I1, r1, q1⟩
 refine wpAny_Slice (thn (hl pins s1 σ H1 _ I1 q1) ?_)
 rintro vl s2 ⟨l, H2, I2, pl, q2⟩
 refine thn (hu pins s2 σ H2 _ I2 q2) ?_
 rintro vu s3 ⟨u, H3, I3, pu, q3⟩
 refine thn (hk pins s3 σ H3 _ I3 q3) ?_
 rintro vk s4 ⟨k, H4, I4, pk, q4⟩
 obtain ⟨a, xs, rfl, rfl, rfl, rfl, hx, q⟩ := q4
 cases pl
 cases pu
 cases pk with
 | int i t =>
  cases r1
  have I5 : Inv X pins σ H4 { s4 with heap := s4.heap.push { cls := .type "slice", data := .fields #[.none, .none, .int (-1) t] } } := I4.kept (t' := s4.toks) fun b ob q => Heap.get?_push_of_some _ q
  obtain ⟨its, r, ht, hz⟩ := I5.list hx
  have hlen : its.toArray.size = xs.length := by rw [List.size_toArray]; exact r.length.symm
  show wpAny (model X.prog X.w) X.A (subscriptTail e (.Slice lo hi (some st) p2) (.ref a) (.ref s4.heap.objs.size)) (EP X pins σ Q) X.xe { s4 with heap := s4.heap.push { cls := .type "slice", data := .fields #[.none, .none, .int (-1) t] } }
  refine tail_any (ops := [.ref a, .ref s4.heap.objs.size]) ht.isList.typeIs list_getitem_lookup ?_ (by with_unfolding_all rfl)
  refine wpAny_getItem_list_slice (lo := none) (hi := none) (st := some (-1)) ht.isList (Heap.IsSliceOf.new ..) .none .none (.int _ _) (by decide) ?_ (by rw [hlen]; exact hz)
  rw [PySem.W.krv_pick]
  refine ⟨.ref _, _, I5.laid (o := .lst xs.reverse) (t' := s4.toks) (fun _ _ q => Heap.get?_push_of_some _ q) (Nat.le_refl _) ?_, rfl, q _ (I5.hok.fresh (Nat.le_refl _))⟩
  exact ⟨by rw [List.length_reverse]; exact hz, _, 0, paired_reverse r, Heap.get?_push_size _ rfl⟩
end
def Its (x : Str) : It := ⟨fun i _ => i < x.cps.size, fun i H y H' => H' = H ∧ ∃ c, x.cps[i]? = some c ∧ y = .str ⟨#[c]⟩, fun i _ => x.cps.size ≤ i⟩
theorem turn_str {P : Program} {w : World} {K : PySem.W.Frag} {tg : Expr} (it : Addr) (x : Str) (t : Tok) : Turn P w K tg (Its x) [it] it (fun i h => h.IsStrIter it "str_ascii_iterator" x t i) where
 mem := by simp
 obj := fun i h st b hb => by
  have e : b = it := by simpa using hb
  subst e
  obtain ⟨o, e, c, d⟩ := st
  exact ⟨o, e, fun v z => by rw [d] at z; cases z⟩
 keep := fun i h h' st k => let ⟨o, ho, r⟩ := st; ⟨o, k it (by simp) o ho, r⟩
 item := by
  intro X hP hw hK hc i pins s σ H E I hf st hg
  subst hP hw hK
  obtain ⟨f0, f1, f2, f3, f4, f5⟩ := hf it (by simp)
  have hg' : i < x.cps.size := hg
  refine wpAny_pyNext_ascii_item st (c := x.cps[i]) (by simp [hg']) fun h' st' sb => ?_
  have I1 : Inv X pins σ H { s with heap := h', toks := s.toks + 1 } := I.turned (fun b o hb e => (sb.2 b hb).trans e) f0 f1 f3 f4 f5
  obtain ⟨o, e, c, d⟩ := id st'
  exact ⟨_, rfl, go_of (s := { s with heap := h', toks := s.toks + 1 }) e c d (by decide) ⟨.str ⟨#[x.cps[i]]⟩, H, I1, ⟨_, rfl⟩, ⟨rfl, _, by simp [hg'], rfl⟩, st', fun b hb => (hf b hb).1⟩⟩
 done := by
  intro X hP hw hK hc i pins s σ H E I hf st hg
  subst hP hw hK
  obtain ⟨f0, f1, f2, f3, f4, f5⟩ := hf it (by simp)
  have hg' : x.cps.size ≤ i := hg
  exact wpAny_pyNext_ascii_end (I.ok.hd hc) st (by simp [hg']) fun h' eb => ⟨rfl, I.turned (t' := s.toks) (fun b o hb e => eb b o hb e) f0 f1 f3 f4 f5⟩
 self := fun _ _ _ _ _ st h => wpAny_pyIter_striter_ascii st h
def iStr (tl : TE) : TI := fun σ H R => tl σ H fun x H1 => ∃ z : Str, x = .str z ∧ z.cps.all (· < 128) = true ∧ R (Its z) H1
section
variable {X : Cx} {tg : Expr}
theorem pi_str {l : Expr} {tl : TE} (hl : PE X l tl) : PI X tg l (iStr tl) := by
 intro pins s σ H R I h
 refine thn (hl pins s σ H _ I h) ?_
 rintro v s1 ⟨x, H1, I1, r1, q1⟩
 obtain ⟨z, rfl, ha, q⟩ := q1
 obtain ⟨t, rfl⟩ := r1
 refine wpAny_pyIter_ascii ha ?_
 refine ⟨s1.heap.objs.size, [s1.heap.objs.size], _, _, H1, rfl, I1.kept (t' := s1.toks) fun b o e => Heap.get?_push_of_some _ e, turn_str _ z t, ⟨_, Heap.get?_push_size _ rfl, rfl, rfl⟩, fun b hb => ?_, q⟩
 have e : b = s1.heap.objs.size := by simpa using hb
 subst e
 exact I1.fpOk (Nat.le_refl _) (I1.hok.fresh (Nat.le_refl _))
end
theorem for_str {z : Str} {g : TG} {tb : TS} {D : Ends} {σ : St} {H : Hp} (Pv : Nat → St → Hp → Prop) (h0 : Pv 0 σ H)
  (hs : ∀ i c σ H, z.cps[i]? = some c → Pv i σ H → g (.str ⟨#[c]⟩) σ H fun σ2 H2 => tb { D with nx := Pv (i + 1), ct := Pv (i + 1), bk := D.nx } σ2 H2) (hd : ∀ σ H, Pv z.cps.size σ H → D.nx σ H) :
  ∃ W : Nat → Nat → St → Hp → Prop, (∃ m, W 0 m σ H) ∧ ∀ i m σ H, W i m σ H →
   ((Its z).stop i H ∧ D.nx σ H) ∨ ((Its z).go i H ∧ ∃ N : St → Hp → Prop, (∀ σ' H', N σ' H' → ∃ m', m' < m ∧ W (i + 1) m' σ' H') ∧ ∀ x H', (Its z).yld i H x H' → g x σ H' fun σ2 H2 => tb { D with nx := N, ct := N, bk := D.nx } σ2 H2) := by
 refine ⟨fun i m σ H => m = z.cps.size - i ∧ i ≤ z.cps.size ∧ Pv i σ H, ⟨z.cps.size, by simp, Nat.zero_le _, h0⟩, ?_⟩
 rintro i m σ H ⟨rfl, hi, p⟩
 by_cases hlt : i < z.cps.size
 ·refine .inr ⟨hlt, Pv (i + 1), fun σ' H' p' => ⟨z.cps.size - (i + 1), by omega, rfl, hlt, p'⟩, fun x H' y => ?_⟩
  obtain ⟨rfl, c, hc, rfl⟩ := y
  exact hs i c σ _ hc p
 ·have e : i = z.cps.size := by omega
  subst e
  exact .inl ⟨Nat.le_refl _, hd _ _ p⟩
section
variable {X : Cx} {e : Expr} {lo hi : Option Expr} {st : Expr} {te : TE} {tl th tk : TO} {p2 pos : Pos}
def revStr (x : Str) : Str := ⟨x.cps.reverse⟩
theorem picked_rev (x : Str) (t : Tok) : ((slicePicked x none none (some (-1, t))).filterMap (x.cps[·]?)).toArray = x.cps.reverse := by
 have e : slicePicked x none none (some (-1, t)) = (List.range x.cps.size).reverse := by
  have h : slicePicked x none none (some (-1, t)) = sliceRange ((x.cps.size : Int) - 1) (-1) (-1) := rfl
  rw [h, PySem.W.krv_sliceRange, PySem.W.krv_range]
 rw [e, List.filterMap_reverse, PySem.W.krv_all, ← Array.toList_reverse]
def rRevS (x : V) (l u k : Option Int) : Hp → VK → Prop := fun H Q => ∃ z : Str, l = none ∧ u = none ∧ k = some (-1) ∧ x = .str z ∧ z.length ≤ sizeLine ∧ Q (.str (revStr z)) H
def tRevS (te : TE) (tl th tk : TO) : TE := fun σ H Q => te σ H fun x H1 => tl σ H1 fun l H2 => th σ H2 fun u H3 => tk σ H3 fun k H4 => rRevS x l u k H4 Q
theorem pe_revS (he : PE X e te) (hl : PO X lo tl) (hu : PO X hi th) (hk : PO X (some st) tk) : PE X (.Subscript e (.Slice lo hi (some st) p2) pos) (tRevS te tl th tk) := by
 intro pins s σ H Q I h
 refine Subscript_ (thn (he pins s σ H _ I h) ?_)
 rintro v s1 ⟨x, H1, I1, r1, q1⟩
 refine wpAny_Slice (thn (hl pins s1 σ H1 _ I1 q1) ?_)
 rintro vl s2 ⟨l, H2, I2, pl, q2⟩
 refine thn (hu pins s2 σ H2 _ I2 q2) ?_
 rintro vu s3 ⟨u, H3, I3, pu, q3⟩
 refine thn (hk pins s3 σ H3 _ I3 q3) ?_
 rintro vk s4 ⟨k, H4, I4, pk, q4⟩
 obtain ⟨z, rfl, rfl, rfl, rfl, hz, q⟩ := q4
 cases pl
 cases pu
 cases pk with
 | int i t =>
  obtain ⟨t0, rfl⟩ := r1
  have I5 : Inv X pins σ H4 { s4 with heap := s4.heap.push { cls := .type "slice", data := .fields #[.none, .none, .int (-1) t] } } := I4.kept (t' := s4.toks) fun b ob q => Heap.get?_push_of_some _ q
  show wpAny (model X.prog X.w) X.A (subscriptTail e (.Slice lo hi (some st) p2) (.str z t0) (.ref s4.heap.objs.size)) (EP X pins σ Q) X.xe { s4 with heap := s4.heap.push { cls := .type "slice", data := .fields #[.none, .none, .int (-1) t] } }
  refine tail_any (ops := [.str z t0, .ref s4.heap.objs.size]) (typeIs_str _ _ _) PySem.F.slot_str_getitem.lookup ?_ (by with_unfolding_all rfl)
  refine wpAny_getItem_str_slice (l := none) (u := none) (st := some (-1, t)) ⟨_, Heap.get?_push_size _ rfl, rfl, rfl⟩ rfl ?_
  have e1 : sliceMade z t0 none none (some (-1, t)) = .str (revStr z) := by
   unfold sliceMade
   rw [picked_rev]
   rfl
  rw [e1]
  exact ⟨by show z.cps.reverse.size ≤ sizeLine; rw [Array.size_reverse]; exact hz, ⟨.str _, H4, I5.tok _, ⟨_, rfl⟩, q⟩⟩
end
section
variable {X : Cx}
def rIndex : V → List V → Hp → VK → Prop := fun x vs H Q => ∃ (z y : Str) (i : Nat) (rest : List Nat), x = .str z ∧ vs = [.str y] ∧ Builtin.Str.occurrences z y 0 z.length 1 = i :: rest ∧ Q (.int (i : Nat)) H
theorem mt_index : MtM X "str.index" rIndex := by
 intro pins s σ H x vs v us Q I rx rv h
 obtain ⟨z, y, i, rest, rfl, rfl, ho, q⟩ := h
 obtain ⟨t, rfl⟩ := rx
 obtain ⟨u, rfl, ru⟩ := rv.one
 obtain ⟨t2, rfl⟩ := ru
 exact call_gives PySem.F.slot_str_index (typeIs_str _ _ _) PySem.F.entry_str_index (PySem.F.args_str_index_2 _ _) (gives_str_index z y t t2 i rest ho) ⟨.int _, H, I.tok _, ⟨_, rfl⟩, q⟩
theorem op_mulS : OpR X (binaryOp .Mult) (fun x y H Q => ∃ (z : Str) (n : Int), x = .str z ∧ y = .int n ∧ 0 ≤ n ∧ n ≤ 1000 ∧ z.length ≤ 1000 ∧ Q (.str (Txt.mul z n)) H) := by
 intro pins s σ H x y v u Q I rx ry h
 obtain ⟨z, n, rfl, rfl, h0, h1, h2, q⟩ := h
 obtain ⟨t, rfl⟩ := rx
 obtain ⟨t', rfl⟩ := ry
 refine SB.mul ⟨?_, ?_, ?_⟩ fun t' k => ⟨.str _, H, I.tok k, ⟨t', rfl⟩, q⟩
 ·have a : ¬ n < -(2 ^ 63 : Int) := by omega
  have b : ¬ n ≥ 2 ^ 63 := by omega
  simp only [a, b, decide_false, Bool.or_self]
 ·intro a b c
  have e : (1000 : Int) ≤ (2 ^ 63 - 1) / n := by
   rw [Int.le_ediv_iff_mul_le (by omega)]
   omega
  omega
 ·intro a b
  have h3 : z.length * n.toNat ≤ 1000 * 1000 := Nat.mul_le_mul h2 (by omega)
  have h4 : (1000 * 1000 : Nat) ≤ sizeLine := by decide
  exact decide_eq_false (by omega)
end
section
variable {prog : Program} {w : World} {A : Around} {E : Value → Shared → Prop} {s : Shared}
theorem tupIter_but {h h' : Heap} {it t b : Addr} {i : Nat} (x : h.IsTupleIter it t i) (sb : Heap.ExtBut b h h') (n : it ≠ b) : h'.IsTupleIter it t i := let ⟨o, ho, r⟩ := x; ⟨o, sb _ _ n ho, r⟩
theorem isTup_but {h h' : Heap} {t b : Addr} {ys : Array Value} (x : h.IsTuple t ys) (sb : Heap.ExtBut b h h') (n : t ≠ b) : h'.IsTuple t ys := let ⟨o, ho, r⟩ := x; ⟨o, sb _ _ n ho, r⟩
abbrev itT (l : Addr) : Obj := { cls := .type "tuple_iterator", data := .fields #[.ref l, .int 0 0] }
end
structure LamScope (ps frn : List Str) (scope : Scope) : Prop where
 kind : scope.kind = .function
 co : scope.isCoroutine = false
 gen : scope.isGenerator = false
 nocell : ∀ x ∈ scope.names, x.2 ≠ .cell
 par : ∀ x ∈ ps, scope.names.lookup x = some .local
 free : ∀ x ∈ frn, scope.names.lookup x = some .free
 only : ∀ x, scope.names.lookup x = some .free → x ∈ frn
 nd : (ps ++ frn).Nodup
structure LamCells (h : Heap) (cl : List (Str × Addr)) (frn : List Str) (fvs : List V) : Prop where
 inj : ∀ x y c, cl.lookup x = some c → cl.lookup y = some c → x = y
 cell : ∀ x c, cl.lookup x = some c → ∃ v, h.IsCell c v
 vals : Paired (fun x v => ∃ c u, cl.lookup x = some c ∧ h.IsCell c (some u) ∧ RelV v u) frn fvs
def cxL (P : Program) (w : World) (K : PySem.W.Frag) (mg : Str → Option Value) (base : Heap) (N : List Str) (qual : Str) (scope : Scope) (f : Addr) (cd : Value) (cl : List (Str × Addr)) (A : Around) (outer : List Env) (s : Shared) (H : Hp) : Cx where
 prog := P
 w := w
 K := K
 mg := mg
 base := base
 A := A.deeper (PySem.W.envX qual scope s.heap.objs.size f cd cl)
 N := N
 s₀ := s
 H₀ := H
 env := PySem.W.envX qual scope s.heap.objs.size f cd cl
 outer := outer
 stack := PySem.W.envX qual scope s.heap.objs.size f cd cl :: outer
 ex := []
 calm := true
 fn := fun _ => false
 pn := []
 xe := fun _ _ => False
theorem zip_rev {ps : List Str} {us : List Value} (nd : ps.Nodup) (hl : ps.length ≤ us.length) {i : Nat} {y : Str} {u : Value} (hp : ps[i]? = some y) (hu : us[i]? = some u) : (ps.zip us).reverse.lookup y = some u := by
 have hm : (y, u) ∈ (ps.zip us).reverse := by
  rw [List.mem_reverse]
  refine List.mem_of_getElem? (i := i) ?_
  rw [List.getElem?_zip_eq_some]
  exact ⟨hp, hu⟩
 have hn : ((ps.zip us).reverse.map (·.1)).Nodup := by
  rw [List.map_reverse]
  refine (List.reverse_perm _).nodup_iff.mpr ?_
  rw [List.map_fst_zip hl]
  exact nd
 generalize (ps.zip us).reverse = l at hm hn
 induction l with
 | nil => cases hm
 | cons p l ih =>
  rw [List.map_cons, List.nodup_cons] at hn
  rcases List.mem_cons.mp hm with e | e
  ·subst e; exact List.lookup_cons_self
  ·have : y ≠ p.1 := fun z => hn.1 (by rw [← z]; exact List.mem_map.mpr ⟨_, e, rfl⟩)
   obtain ⟨a, b⟩ := p
   rw [List.lookup_cons, show (y == a) = false from beq_false_of_ne this]
   exact ih e hn.2
theorem paired_get {α β : Type} {F : α → β → Prop} : ∀ {l : List α} {m : List β} {i : Nat} {a : α}, Paired F l m → l[i]? = some a → ∃ b, m[i]? = some b ∧ F a b
 | _, _, _, _, .nil, h => by simp at h
 | _, _, 0, _, .cons r _, h => by simp at h; subst h; exact ⟨_, rfl, r⟩
 | _, _, i + 1, _, .cons _ t, h => by
  simp only [List.getElem?_cons_succ] at h ⊢
  exact paired_get t h
theorem inv_lam {P : Program} {w : World} {K : PySem.W.Frag} {mg : Str → Option Value} {base : Heap} {ps frn : List Str} {qual : Str} {scope : Scope} {f : Addr} {cd : Value} {cl : List (Str × Addr)} {A : Around} {outer : List Env} {s : Shared} {H : Hp} {us : List Value} {vs fvs : List V} {h1 : Heap} {fo : Obj} {tk : Nat}
  (S : LamScope ps frn scope) (hd : A.handled = none) (e0 : Env0 P w K mg base A outer s H) (hl : vs.length = ps.length) (r : Vals vs us) (C : LamCells base cl frn fvs)
  (hns : h1.Ns s.heap.objs.size fun x => (ps.zip us).reverse.lookup x) (hsb : Heap.SameBut s.heap.objs.size (s.heap.push fo) h1) :
  Inv (cxL P w K mg base (ps ++ frn) qual scope f cd cl A outer s H) [] (vs.map some ++ fvs.map some) H { s with heap := h1, toks := tk } := by
 have hk : ∀ b o, s.heap.get? b = some o → h1.get? b = some o := fun b o e => hsb.extBut b o (Nat.ne_of_lt (Heap.lt_size e)) (Heap.get?_push_of_some _ e)
 have hkb : ∀ b o, base.get? b = some o → h1.get? b = some o := fun b o e => hk b o (e0.bs b o e).1
 have noA : ∀ b : Addr, b ∉ (cxL P w K mg base (ps ++ frn) qual scope f cd cl A outer s H).ex := fun b z => absurd (show b ∈ ([] : List Addr) from z) (by simp)
 have lf : frn.length = fvs.length := Paired.length C.vals
 refine ⟨⟨e0.mod, S.kind, rfl, rfl, Nat.le_refl _, C.inj, fun y hy => ?_, fun y c z => (nomatch z), fun _ => hd, Around.frames_deeper e0.frames, .inr ⟨rfl, rfl⟩, fun b z => absurd z (noA b), e0.bs, e0.bsz, fun b _ _ => noA b, fun b z => absurd z (noA b), e0.funs, e0.frf⟩,
  rfl, e0.bare, Un.kept hk, ⟨_, hns, fun i y v h1' h2 h3 => ?_⟩, fun y c h => ?_, e0.hok.fresh (Nat.le_refl _), fun y c h => ?_, fun p hp => absurd (show p ∈ ([] : List (Addr × Obj)) from hp) (by simp), e0.hok.kept hk, ?_⟩
 ·have hy : scope.names.lookup y = some .cell ∨ scope.names.lookup y = some .free := hy
  rcases hy with hy | hy
  ·exact absurd rfl (S.nocell _ (PySem.mem_of_lookup hy))
  ·have hm := S.only y hy
   obtain ⟨i, hi⟩ := List.getElem?_of_mem hm
   obtain ⟨v, _, c, u, hc, _⟩ := paired_get C.vals hi
   exact ⟨c, hc⟩
 ·have h1'' : (ps ++ frn)[i]? = some y := h1'
  by_cases hi : i < ps.length
  ·rw [List.getElem?_append_left hi] at h1''
   rw [List.getElem?_append_left (by rw [List.length_map]; omega), List.getElem?_map] at h2
   obtain ⟨v', hv', e⟩ := Option.map_eq_some_iff.mp h2
   have e' : v' = v := Option.some.inj e
   subst e'
   obtain ⟨u, hu, rv⟩ := r.get hv'
   have ndP : ps.Nodup := (List.nodup_append.mp S.nd).1
   exact ⟨u, rv, .inl ⟨S.par y (List.mem_of_getElem? h1''), zip_rev ndP (by rw [← hl, r.length]; exact Nat.le_refl _) h1'' hu⟩⟩
  ·rw [List.getElem?_append_right (by omega)] at h1''
   rw [List.getElem?_append_right (by rw [List.length_map]; omega), List.length_map, hl, List.getElem?_map] at h2
   obtain ⟨v', hv', e⟩ := Option.map_eq_some_iff.mp h2
   have e' : v' = v := Option.some.inj e
   subst e'
   obtain ⟨v2, hv2, c, u, hc, ⟨o, ho, hd'⟩, rv⟩ := paired_get C.vals h1''
   rw [hv'] at hv2
   cases hv2
   exact ⟨u, rv, .inr ⟨.inr (S.free y (List.mem_of_getElem? h1'')), c, hc, o, hkb _ _ ho, hd'⟩⟩
 ·obtain ⟨v, o, ho, hd'⟩ := C.cell y c h
  exact ⟨v, o, hkb _ _ ho, hd'⟩
 ·obtain ⟨v, o, ho, hd'⟩ := C.cell y c h
  exact (e0.bs c o ho).2
 ·show _ = (ps ++ frn).length
  rw [List.length_append, List.length_map, List.length_map, List.length_append, hl, lf]
theorem fn_lam {P : Program} {w : World} {K : PySem.W.Frag} {mg : Str → Option Value} {base : Heap} {k : Nat} {f c' : Addr} {name qual : Str} {params : Arguments} {body : Expr} {scope : Scope} {cl : List (Str × Addr)} {pm ctv : Value} {ps frn : List Str} {fvs : List V} {sp : Sp}
  (ho : base.get? f = some (PySem.W.kla_obj name qual params body scope cl pm c' ctv)) (hcr : base.CodeRec (.ref c') qual) (S : LamScope ps frn scope) (C : LamCells base cl frn fvs) (len : ∀ vs H Q E, sp vs H Q E → vs.length = ps.length)
  (hbody : ∀ (A : Around) (outer : List Env) (s : Shared) (H : Hp) (vs : List V) (Q : VK) (E : XK), Room k (A.deeper (PySem.W.envX qual scope s.heap.objs.size f (.ref c') cl)) → sp vs H Q E →
   ∃ t, PE (cxL P w K mg base (ps ++ frn) qual scope f (.ref c') cl A outer s H) body t ∧ t (vs.map some ++ fvs.map some) H Q) :
  FnOk P w K mg base CX0 (k + 1) f (PySem.W.kla_fn name qual params body scope cl pm (.ref c') ctv) ps sp := by
 refine ⟨len, fun A outer s H args us vs Q E hr e0 hb r hsp => ?_⟩
 have hl := len _ _ _ _ hsp
 have lim : s.heap.NoLimit := e0.mod.nolimit.keeps fun b o e => (e0.bs b o e).1
 have hcr' : s.heap.CodeRec (.ref c') qual := by
  obtain ⟨c, oc, vs', tq, hc, hoc, hdc, hq⟩ := hcr
  exact ⟨c, oc, vs', tq, hc, (e0.bs _ _ hoc).1, hdc, hq⟩
 refine PySem.W.kla_callFunE hr.depth (e0.bs _ _ ho).1 rfl S.co S.gen rfl hcr' (hb _ _ _ _ ?_)
 have hloc : ∀ y ∈ ps.zip us, scope.names.lookup y.1 = some .local := fun ⟨n, v⟩ hy => S.par n (List.of_mem_zip hy).1
 refine wpAny_newFunctionEnv S.nocell hloc (fun h₁ hns hsb => ⟨lim.fresh _ hsb, ?_⟩) S.kind
 obtain ⟨t, ht, hq⟩ := hbody A outer s H vs Q E (hr.deeper _) hsp
 have I : Inv (cxL P w K mg base (ps ++ frn) qual scope f (.ref c') cl A outer s H) [] (vs.map some ++ fvs.map some) H { s with heap := h₁, toks := s.toks + (ps.zip us).length } := inv_lam S hr.hd e0 hl r C hns hsb
 refine PySem.W.kla_codeExpr (wpAny_mono (ht [] _ _ H _ I hq) (fun v s' hs => ?_) fun e s' hs => hs.elim)
 obtain ⟨x, H', J, rv, q⟩ := hs
 exact ⟨x, H', J.os, J.bare, J.base, J.hok, rv, q⟩
section
variable {X : Cx} {x : Str} {p pos : Pos} {e : Expr} {es : List Expr} {t : TA} {k : Nat} {f : Addr} {fd : FuncData} {ps : List Str} {sp : Sp}
def tCallV (i : Nat) (f : Addr) (sp : Sp) (t : TA) : TE := fun σ H Q => σ[i]? = some (some (.ref f)) ∧ t σ H fun vs H1 => sp vs H1 Q E0
theorem pe_callV (F : FnOk X.prog X.w X.K X.mg X.base CX0 k f fd ps sp) {i : Nat} {o : Obj} (ho : X.base.get? f = some o) (hof : o.data = .func fd) (hr : Room k X.A) (hb : ∀ us : List Value, us.length = ps.length → bindArgs fd ⟨us, []⟩ = pure (ps.zip us))
  (hN : X.N[i]? = some x) (hv : Vis X.env.scope x) (ha : PA X (e :: es) t) (hdb : (x == ("__debug__" : Str)) = false := by decide) (hcd : (x == ("__classdict__" : Str)) = false := by decide)
  (he : starEach (e :: es) X.env = (false, eval e X.env) :: starEach es X.env := by rfl) (hpl : (backTo pos (starEach es X.env)).any (·.1) = false := by rfl) :
  PE X (.Call (.Name x p) (e :: es) [] pos) (tCallV i f sp t) := by
 intro pins s σ H Q I h
 obtain ⟨hi, h⟩ := h
 obtain ⟨m, hn, hl⟩ := I.loc
 obtain ⟨u, r, l⟩ := hl i x (.ref f) hN hi hv
 obtain rfl : u = Value.ref f := r
 have fin : wpAny (model X.prog X.w) X.A (callWith pos (.ref f) [] (backTo pos (starEach (e :: es) X.env)) []) (EP X pins σ Q) X.xe s := by
  have h0 : wpAny (model X.prog X.w) X.A (spliced (backTo pos (starEach (e :: es) X.env))) (fun us s₁ => s₁.heap.get? f = some o ∧ wpAny (model X.prog X.w) X.A (call (.ref f) ([] ++ us)) (EP X pins σ Q) X.xe s₁) X.xe s := by
   refine thn (ha pos pins s σ H _ I h) ?_
   rintro us s1 ⟨vs, H1, I1, r, q⟩
   refine ⟨I1.bk _ _ ho, ?_⟩
   exact run_fn (ds := []) (dvs := []) F hr (Binds.all hb) .nil pass0 I1 r (by rw [List.append_nil]; exact q)
  rw [he] at h0 ⊢
  refine PySem.W.callWith_of (P := fun h => h.get? f = some o) ?_ (fun h hf => ⟨.frame, .inl rfl, (PySem.W.Looks.ld (part := none) hf).andThen ?_⟩) (Calls.evalArgs_plain h0)
  ·show ((false || (backTo pos (starEach es X.env)).any (·.1)) || false) = false
   rw [hpl]; rfl
  ·rw [hof]
   exact .now
 rcases l with ⟨hk, hm⟩ | ⟨hk, c, hc, hcell⟩
 ·exact wpAny_Call_Name_kw (wpAny_Name (wpAny_loadName_local I.ok.kind hk hn hm fin) hdb)
 ·rcases hk with hk | hk
  ·exact wpAny_Call_Name_kw (wpAny_Name (wpAny_loadName_cell I.ok.kind hk hc hcell fin) hdb)
  ·exact wpAny_Call_Name_kw (wpAny_Name (wpAny_loadName_free I.ok.kind hk hc hcell fin hcd) hdb)
end
def fnO (f : Addr) (o : Obj) : HO := .ext fun h => h.get? f = some o
def cdO (c : Addr) (qual : Str) : HO := .ext fun h => h.CodeRec (.ref c) qual
section
variable {P : Program} {w : World} {H : Hp} {h : Heap}
theorem fnO_ok {f : Addr} {o : Obj} (e : h.get? f = some o) : ObjOk P w H h f (fnO f o) :=
 ⟨e, ⟨o, e⟩, fun h1 h2 q k => k o q⟩
theorem cdO_ok {c : Addr} {qual : Str} (e : h.CodeRec (.ref c) qual) : ObjOk P w H h c (cdO c qual) := by
 refine ⟨e, ?_, fun h1 h2 q k => ?_⟩
 ·obtain ⟨c', o, vs, t, e1, e2, _⟩ := e
  cases e1
  exact ⟨o, e2⟩
 ·obtain ⟨c', o, vs, t, e1, e2, r⟩ := q
  cases e1
  exact ⟨c, o, vs, t, rfl, k o e2, r⟩
end
def Tab (H : Hp) (T : Addr) (L : List (Pos × Str)) : Prop :=
 ∃ ps : Array Value, H T = some (.tbl ps) ∧ TriplesOk ps.toList ∧ ∀ p ∈ L, codeAmong p.1 ps.toList = none ∨ ∃ c, codeAmong p.1 ps.toList = some (.ref c) ∧ H c = some (cdO c p.2)
theorem Tab.same {H H' : Hp} {T : Addr} {L : List (Pos × Str)} (x : Tab H T L) (s : Same H H') : Tab H' T L := by
 obtain ⟨ps, h1, h2, h3⟩ := x
 refine ⟨ps, s _ _ h1, h2, fun p hp => ?_⟩
 rcases h3 p hp with z | ⟨c, z, q⟩
 ·exact .inl z
 ·exact .inr ⟨c, z, s _ _ q⟩
theorem among_snoc {p q : Pos} {c : Value} : ∀ (l : List Value), TriplesOk l → ∀ d, codeAmong p (l ++ [rawInt q.line, rawInt q.col, c]) = some d → codeAmong p l = some d ∨ (codeAmong p l = none ∧ p.line = q.line ∧ p.col = q.col ∧ d = c) := by
 intro l
 fun_induction TriplesOk l with
 | case1 =>
  intro _ d h
  simp only [List.nil_append, codeAmong, rawInt] at h
  split at h
  ·rename_i hc
   simp at hc
   cases h
   exact .inr ⟨rfl, by omega, by omega, rfl⟩
  ·cases h
 | case2 a t b u x rest ih =>
  intro hl d h
  simp only [List.cons_append, codeAmong] at h ⊢
  split at h
  ·rename_i hc; rw [if_pos hc]; exact .inl h
  ·rename_i hc; rw [if_neg hc]; exact ih hl d h
 | case3 l h1 h2 => intro h; exact h.elim
def Apart (L : List (Pos × Str)) : Prop := ∀ p ∈ L, ∀ q ∈ L, p.1.line = q.1.line → p.1.col = q.1.col → p = q
theorem Tab.grown {H H' : Hp} {T c' : Addr} {L : List (Pos × Str)} {ps : Array Value} {q : Pos × Str} (hq : q ∈ L) (ap : Apart L) (h2 : TriplesOk ps.toList) (h3 : ∀ p ∈ L, codeAmong p.1 ps.toList = none ∨ ∃ c, codeAmong p.1 ps.toList = some (.ref c) ∧ H c = some (cdO c p.2))
  (hT : H' T = some (.tbl (ps ++ #[rawInt q.1.line, rawInt q.1.col, .ref c']))) (hc : H' c' = some (cdO c' q.2)) (k : ∀ b φ, H b = some (.ext φ) → H' b = some (.ext φ)) : Tab H' T L := by
 have e : (ps ++ #[rawInt q.1.line, rawInt q.1.col, .ref c']).toList = ps.toList ++ [rawInt q.1.line, rawInt q.1.col, .ref c'] := by simp
 refine ⟨_, hT, by rw [e]; exact TriplesOk_snoc _ _ _ _ h2, fun p hp => ?_⟩
 rw [e]
 cases z : codeAmong p.1 (ps.toList ++ [rawInt q.1.line, rawInt q.1.col, .ref c']) with
 | none => exact .inl rfl
 | some d =>
  rcases among_snoc _ h2 d z with y | ⟨_, y1, y2, y3⟩
  ·rcases h3 p hp with n | ⟨c, n, r⟩
   ·rw [n] at y; cases y
   ·rw [n] at y; cases y
    exact .inr ⟨c, rfl, k _ _ r⟩
  ·have := ap p hp q hq y1 y2
   subst this
   subst y3
   exact .inr ⟨c', rfl, hc⟩
section
variable {X : Cx} {pos : Pos} {params : Arguments} {body : Expr} {scope : Scope} {c T : Addr} {clos : List (Str × Addr)} {L : List (Pos × Str)} {bm : Addr} {ob : Obj}
abbrev lamO (X : Cx) (params : Arguments) (body : Expr) (scope : Scope) (clos : List (Str × Addr)) (c' : Addr) (ctv : Value) : Obj := PySem.W.kla_obj "<lambda>" (X.env.qual ++ "<lambda>") params body scope clos ((X.mg "__name__").getD .none) c' ctv
def tLam (X : Cx) (params : Arguments) (body : Expr) (scope : Scope) (clos : List (Str × Addr)) (T : Addr) (L : List (Pos × Str)) : TE := fun σ H Q =>
 Tab H T L ∧ ∀ f c' ctv H', H f = none → H' f = some (fnO f (lamO X params body scope clos c' ctv)) → H' c' = some (cdO c' (X.env.qual ++ "<lambda>")) → Tab H' T L → KB T H H' → Q (.ref f) H'
def BltAt (mg : Str → Option Value) (base : Heap) : Prop :=
 ∃ bm o, mg "__builtins__" = some (.ref bm) ∧ bm ≠ builtinsNs ∧ base.get? bm = some o ∧ o.cls = .type "module" ∧ o.dict = some builtinsNs ∧ o.data = .plain
theorem pe_lam (hcode : X.env.code = .ref c) (C : PySem.W.CodeHd X.base c T) (hB : BltAt X.mg X.base) (hcl : closureFor scope X.env = pure clos) (hdef : defaultsOf params X.env = ([], [])) (hL : (pos, X.env.qual ++ "<lambda>") ∈ L) (ap : Apart L) (hfs : X.ex = []) :
  PE X (.Lambda params body scope pos) (tLam X params body scope clos T L) := by
 intro pins s σ H Q I ⟨⟨ps, hT, ht, htab⟩, h⟩
 refine PySem.W.kla_eval hdef ?_
 have hTo : s.heap.get? T = some (PySem.W.tabObj ps) := I.hok T _ hT
 have hg : s.heap.Ns mainGlobals X.mg := I.ok.mod.glob.keeps I.bk
 have hgT : mainGlobals ≠ T := fun q => by
  obtain ⟨o, es, ep, e, hd, _⟩ := hg
  rw [q, hTo] at e; cases e; cases hd
 have hBA : s.heap.BuiltinsAt X.mg T := by
  obtain ⟨bm, o, h1, h2, h3, h4, h5, h6⟩ := hB
  refine ⟨bm, o, h1, h2, fun q => ?_, fun q => ?_, I.bk _ _ h3, h4, h5, h6⟩
  ·obtain ⟨o', es, ep, e, hd, _⟩ := I.ok.mod.glob
   rw [q, e] at h3; cases h3; rw [hd] at h6; cases h6
  ·have := I.bk _ _ h3
   rw [q, hTo] at this; cases this; cases h4
 have hCs := C.keeps I.bk
 rcases htab _ hL with hn | ⟨c', hc', hHc⟩
 ·refine PySem.W.kla_makeFunction (mg := X.mg) hcl I.ok.glob hg hcode hCs hTo ht hn hgT hBA fun c' ctv h' tk hx hge hlt hrec htb => ?_
  have nc : H c' = none := I.hok.fresh hge
  have szh : s.heap.objs.size ≤ h'.objs.size := Nat.le_of_lt (Nat.lt_of_le_of_lt hge hlt)
  have nf : H h'.objs.size = none := I.hok.fresh szh
  have fc : h'.objs.size ≠ c' := Nat.ne_of_gt hlt
  have Tc : T ≠ c' := ne_of_none hT nc
  have Tf : T ≠ h'.objs.size := ne_of_none hT nf
  have fT := Ne.symm Tf
  have cT := Ne.symm Tc
  have keep : ∀ b o, b ≠ T → s.heap.get? b = some o → (h'.push (lamO X params body scope clos c' ctv)).get? b = some o := fun b o hb e => Heap.get?_push_of_some _ (hx b o hb e)
  let H' : Hp := upd (upd (upd H T (.tbl (ps ++ #[rawInt pos.line, rawInt pos.col, .ref c']))) c' (cdO c' (X.env.qual ++ "<lambda>"))) h'.objs.size (fnO h'.objs.size (lamO X params body scope clos c' ctv))
  have eT : H' T = some (.tbl (ps ++ #[rawInt pos.line, rawInt pos.col, .ref c'])) := by show upd _ _ _ _ = _; rw [upd_ne Tf, upd_ne Tc, upd_same]
  have ec : H' c' = some (cdO c' (X.env.qual ++ "<lambda>")) := by show upd _ _ _ _ = _; rw [upd_ne fc.symm, upd_same]
  have ef : H' h'.objs.size = some (fnO h'.objs.size (lamO X params body scope clos c' ctv)) := upd_same
  have eo : ∀ b, b ≠ T → b ≠ c' → b ≠ h'.objs.size → H' b = H b := fun b h1 h2 h3 => by show upd _ _ _ _ = _; rw [upd_ne h3, upd_ne h2, upd_ne h1]
  have kb : KB T H H' := fun b o e hb => by rw [eo b hb (ne_of_none e nc) (ne_of_none e nf)]; exact e
  have hnew : ∀ b o, s.heap.get? b = some o → b ≠ c' ∧ b ≠ h'.objs.size := fun b o e => ⟨Nat.ne_of_lt (Nat.lt_of_lt_of_le (Heap.lt_size e) hge), Nat.ne_of_lt (Nat.lt_of_lt_of_le (Heap.lt_size e) szh)⟩
  have tabOk' := Tab.grown (H := H) (H' := H') hL ap ht htab eT ec fun b φ e => kb b _ e fun z => by rw [z, hT] at e; cases e
  have hok' : HOk X.prog X.w H' (h'.push (lamO X params body scope clos c' ctv)) := fun b u e => by
   by_cases b1 : b = T
   ·subst b1
    rw [eT] at e; cases e
    exact Heap.get?_push_of_some _ htb
   by_cases b2 : b = c'
   ·subst b2
    rw [ec] at e; cases e
    exact cdO_ok (hrec.push _)
   by_cases b3 : b = h'.objs.size
   ·subst b3
    rw [ef] at e; cases e
    exact fnO_ok (Heap.get?_push_size _ rfl)
   rw [eo b b1 b2 b3] at e
   refine (I.hok b u e).stay (fun d v hd q => keep d v ?_ q) (fun d q => kb d _ q ?_) fun d xs q => kb d _ q ?_
   ·rintro rfl
    rcases hd with z | z
    ·exact b1 z.symm
    ·rw [hT] at z; cases z
   ·rintro rfl; rw [hT] at q; cases q
   ·rintro rfl; rw [hT] at q; cases q
  refine ⟨.ref h'.objs.size, H', ?_, rfl, h _ _ _ _ nf ef ec tabOk' kb⟩
  have ne_T : ∀ b, H b = none → b ≠ T := fun b n z => by rw [z, hT] at n; cases n
  refine I.un ⟨fun b o e n _ _ => keep b o (ne_T b n) e, fun b o e n _ _ => ⟨o.slots, keep b o (ne_T b n) e⟩, fun b o e n _ => by rw [eo b (ne_T b n) (hnew b o e).1 (hnew b o e).2]; exact n, fun b o e _ => ?_, fun b xs e => kb b _ e fun z => ?_, fun b o u e => kb b _ e fun z => ?_, fun b qs e => ?_⟩ hok'
  ·by_cases hb : b = T
   ·subst hb; exact ⟨_, Heap.get?_push_of_some _ htb⟩
   ·exact ⟨o, keep b o hb e⟩
  ·rw [z, hT] at e; cases e
  ·rw [z, hT] at e; cases e
  ·by_cases hb : b = T
   ·subst hb
    rw [hT] at e; cases e
    exact ⟨_, eT⟩
   ·exact ⟨#[], by rw [kb b _ e hb]; simp⟩
 ·refine PySem.W.kla_makeFunctionHit (mg := X.mg) hcl I.ok.glob hg hcode hCs hTo ht hc' hBA fun ctv h' tk hk hsz => ?_
  have nf : H h'.objs.size = none := I.hok.fresh hsz
  have keep : ∀ b o, s.heap.get? b = some o → (h'.push (lamO X params body scope clos c' ctv)).get? b = some o := fun b o e => Heap.get?_push_of_some _ (hk b o e)
  have kb : Same H (upd H h'.objs.size (fnO h'.objs.size (lamO X params body scope clos c' ctv))) := fun b o e => by rw [upd_ne (ne_of_none e nf)]; exact e
  refine ⟨.ref h'.objs.size, upd H h'.objs.size (fnO h'.objs.size (lamO X params body scope clos c' ctv)), I.laid keep hsz (fnO_ok (Heap.get?_push_size _ rfl)), rfl, h _ c' ctv _ nf upd_same (kb _ _ hHc) (Tab.same ⟨ps, hT, ht, htab⟩ kb) fun b o e _ => kb b o e⟩
end
def untr (D : List Addr) (H : Hp) : Hp := fun b => if b ∈ D then none else H b
def retr (D : List Addr) (H H2 : Hp) : Hp := fun b => if b ∈ D then H b else H2 b
theorem untr_in {D : List Addr} {H : Hp} {b : Addr} (h : b ∈ D) : untr D H b = none := if_pos h
theorem untr_out {D : List Addr} {H : Hp} {b : Addr} (h : b ∉ D) : untr D H b = H b := if_neg h
theorem retr_in {D : List Addr} {H H2 : Hp} {b : Addr} (h : b ∈ D) : retr D H H2 b = H b := if_pos h
theorem retr_out {D : List Addr} {H H2 : Hp} {b : Addr} (h : b ∉ D) : retr D H H2 b = H2 b := if_neg h
def wide (h : Heap) (H : Hp) (fs : List Addr) : Heap := PySem.W.hideAll (hidT h H) fs
theorem wide_size (h : Heap) (H : Hp) (fs : List Addr) : (wide h H fs).objs.size = h.objs.size := (PySem.W.hideAll_size _ _).trans (hidT_size _ _)
theorem wide_get {h : Heap} {H : Hp} {fs : List Addr} {b : Addr} {o : Obj} (e : h.get? b = some o) (n : H b = none) (nf : b ∉ fs) : (wide h H fs).get? b = some o := PySem.W.hideAll_get _ (hidT_get e n) nf
theorem of_wide {h : Heap} {H : Hp} {fs : List Addr} {b : Addr} {o : Obj} (e : (wide h H fs).get? b = some o) : h.get? b = some o ∧ H b = none := of_hidT (PySem.W.of_hideAll fs e)
theorem wide_none {h : Heap} {H : Hp} {fs : List Addr} {b : Addr} (hb : b ∈ fs) : (wide h H fs).get? b = none := PySem.W.hideAll_none fs hb
theorem funFrames_base {h base base' : Heap} : ∀ {l : List Env}, h.FunFrames base l → (∀ b ∈ frs l, base'.get? b = none) → h.FunFrames base' l
 | [], _, _ => trivial
 | env :: r, ⟨hk, ⟨L, o, hf, hn, ho, hd⟩, hr⟩, k => by
  have e : frs (env :: r) = L :: frs r := by unfold frs; rw [List.filterMap_cons, hf]
  exact ⟨hk, ⟨L, o, hf, k L (by rw [e]; exact List.mem_cons_self), ho, hd⟩, funFrames_base hr fun b hb => k b (by rw [e]; exact List.mem_cons_of_mem _ hb)⟩
structure Wide (X : Cx) (σ : St) (D : List Addr) (H : Hp) (base' : Heap) : Prop where
 sub : ∀ b o, X.base.get? b = some o → base'.get? b = some o
 mod : Mod X.K X.mg base'
 ext : ∀ a φ, a ∈ D → H a = some (.ext φ) → φ base'
 val : ∀ (i : Nat) (x : Str) (v : V), X.N[i]? = some x → σ[i]? = some (some v) → X.env.scope.names.lookup x = some .cell → ∃ c u, X.env.cells.lookup x = some c ∧ base'.IsCell c (some u) ∧ RelV v u
 cell : ∀ x c, X.env.cells.lookup x = some c → ∃ v, base'.IsCell c v
 inj : ∀ x y c, X.env.cells.lookup x = some c → X.env.cells.lookup y = some c → x = y
section
variable {X : Cx} {k : Nat} {f : Addr} {fd : FuncData} {ps : List Str} {sp : Sp} {pins : List (Addr × Obj)} {σ : St} {H : Hp} {s : Shared} {D : List Addr}
theorem wide_of (I : Inv X pins σ H s) (hfn : ∀ x, X.fn x = true) (hD : ∀ a ∈ D, ∃ φ, H a = some (.ext φ)) : Wide X σ D H (wide s.heap (untr D H) (frs X.stack)) := by
 have nD : ∀ b, H b = none → b ∉ D := fun b n z => by obtain ⟨φ, e⟩ := hD b z; rw [n] at e; cases e
 have nfr : ∀ b o, X.base.get? b = some o → b ∉ frs X.stack := fun b o e z => by
  rcases List.mem_cons.mp (I.stkSub b z) with q | q
  ·have := Heap.lt_size e
   rw [q] at this
   exact absurd (Nat.lt_of_lt_of_le this (Nat.le_trans I.ok.bsz I.ok.above)) (Nat.lt_irrefl _)
  ·exact I.ok.nofr e q
 have sub : ∀ b o, X.base.get? b = some o → (wide s.heap (untr D H) (frs X.stack)).get? b = some o := fun b o e =>
  wide_get (I.bs b o e).1 (by rw [untr_out (nD b (I.bs b o e).2)]; exact (I.bs b o e).2) (nfr b o e)
 have cellK : ∀ x c v, X.env.cells.lookup x = some c → s.heap.IsCell c v → (wide s.heap (untr D H) (frs X.stack)).IsCell c v := fun x c v e ⟨o, ho, hd⟩ => by
  refine ⟨o, wide_get ho (by rw [untr_out (nD c (I.freeC x c e))]; exact I.freeC x c e) fun z => ?_, hd⟩
  rcases List.mem_cons.mp (I.stkSub c z) with q | q
  ·exact I.cne x c e q
  ·obtain ⟨_, o', ho', _⟩ := I.ok.funs.mem q
   exact absurd (Nat.lt_of_lt_of_le (Heap.lt_size ho') (I.ok.cab x c (hfn x) e)) (Nat.lt_irrefl _)
 refine ⟨sub, ⟨I.ok.mod.kin.keeps sub, I.ok.mod.glob.keeps sub, ?_, I.ok.mod.nolimit.keeps sub⟩, fun a φ ha e => ?_, fun i x v h1 h2 h3 => ?_, fun x c e => ?_, I.ok.inj⟩
 ·obtain ⟨mb, h1, h2⟩ := I.ok.mod.blt
  exact ⟨mb, h1.keeps sub, h2⟩
 ·obtain ⟨p, ⟨o, ho⟩, st⟩ := I.hok a _ e
  refine st _ _ p fun o' e' => wide_get e' (untr_in ha) fun z => ?_
  rw [I.stkFree a z] at e; cases e
 ·obtain ⟨m, _, hl⟩ := I.loc
  obtain ⟨u, r, l⟩ := hl i x v h1 h2 (.inr (.inl h3))
  rcases l with ⟨q, _⟩ | ⟨_, c, e, z⟩
  ·have q' : X.env.scope.names.lookup x = some .local := q
   rw [h3] at q'; cases q'
  ·exact ⟨c, u, e, cellK x c _ e z, r⟩
 ·obtain ⟨v, z⟩ := I.cell x c e
  exact ⟨v, cellK x c v e z⟩
theorem run_fnW {Q : VK} {us : List Value} {vs : List V} (I : Inv X pins σ H s) (hfn : ∀ x, X.fn x = true) (hD : ∀ a ∈ D, ∃ φ, H a = some (.ext φ)) (F : FnOk X.prog X.w X.K X.mg (wide s.heap (untr D H) (frs X.stack)) CX0 k f fd ps sp) (hr : Room k X.A)
  (hb : Binds X.K fd ps []) (r : Vals vs us) (h : sp vs (untr D H) (fun v H2 => (∀ b ∈ D, H2 b = none) → Q v (retr D H H2)) E0) : wpAny (model X.prog X.w) X.A (call (.ref f) us) (EP X pins σ Q) X.xe s := by
 have W := wide_of I hfn hD
 have hl : (us ++ []).length = ps.length := by rw [List.append_nil, ← r.length]; exact F.len _ _ _ _ h
 have keepU : ∀ b u, H b = some u → (∀ φ, u ≠ .ext φ) → untr D H b = some u := fun b u e ne => by
  rw [untr_out fun z => ?_]; exact e
  obtain ⟨φ, q⟩ := hD b z
  rw [e] at q; cases q; exact ne φ rfl
 have uU : ∀ b u, untr D H b = some u → b ∉ D ∧ H b = some u := fun b u e => by
  by_cases hb : b ∈ D
  ·rw [untr_in hb] at e; cases e
  ·rw [untr_out hb] at e; exact ⟨hb, e⟩
 have hokU : HOk X.prog X.w (untr D H) s.heap := fun b u e => (I.hok b u (uU b u e).2).stay (fun _ _ _ q => q) (fun d q => keepU d _ q fun φ z => nomatch z) fun d xs q => keepU d _ q fun φ z => nomatch z
 have nU : ∀ b, H b = none → untr D H b = none := fun b n => by
  by_cases hb : b ∈ D
  ·exact untr_in hb
  ·rw [untr_out hb]; exact n
 have e0 : Env0 X.prog X.w X.K X.mg (wide s.heap (untr D H) (frs X.stack)) X.A X.stack s (untr D H) :=
  ⟨I.ok.frames, W.mod, fun b o e => of_wide e, Nat.le_of_eq (wide_size _ _ _), funFrames_base I.stack fun b hb => wide_none hb, fun b hb => nU b (I.stkFree b hb), hokU, I.bare⟩
 refine wpAny_call (codeAny_mono (F.run X.A X.stack s (untr D H) ⟨us, []⟩ us vs _ _ hr e0 (by have := hb s us I.kIn hl; rwa [List.append_nil] at this) r h) fun r s' hq => ?_)
 cases r with
 | error e => exact hq.elim
 | ok fl =>
  cases fl with
  | next => exact False.elim hq
  | brk => exact False.elim hq
  | cont => exact False.elim hq
  | ret u =>
   obtain ⟨v, H2, os, bare, un, hok, r, q⟩ := hq
   have inD : ∀ b, b ∈ D → ∃ φ o, H b = some (.ext φ) ∧ s.heap.get? b = some o ∧ s'.heap.get? b = some o ∧ H2 b = none := fun b hb => by
    obtain ⟨φ, e⟩ := hD b hb
    obtain ⟨p, ⟨o, ho⟩, st⟩ := I.hok b _ e
    refine ⟨φ, o, e, ho, un.keep b o ho (untr_in hb) (fun z => ?_) (by simp), un.free b o ho (untr_in hb) (by simp)⟩
    rw [I.stkFree b z] at e; cases e
   have nd2 : ∀ b u, H2 b = some u → b ∉ D := fun b u e z => by obtain ⟨_, _, _, _, _, n⟩ := inD b z; rw [n] at e; cases e
   have hokR : HOk X.prog X.w (retr D H H2) s'.heap := fun b u e => by
    by_cases hb : b ∈ D
    ·rw [retr_in hb] at e
     obtain ⟨φ, o, e1, ho, ho', _⟩ := inD b hb
     rw [e1] at e; cases e
     obtain ⟨p, _, st⟩ := I.hok b _ e1
     exact ⟨st _ _ p fun o2 e2 => by rw [ho] at e2; cases e2; exact ho', ⟨o, ho'⟩, st⟩
    ·rw [retr_out hb] at e
     exact (hok b u e).stay (fun _ _ _ q => q) (fun d q => by rw [retr_out (nd2 d _ q)]; exact q) fun d xs q => by rw [retr_out (nd2 d _ q)]; exact q
   have unR : Un (frs X.stack) [] H (retr D H H2) s.heap s'.heap := by
    have nD : ∀ b, H b = none → b ∉ D := fun b n z => by obtain ⟨φ, e⟩ := hD b z; rw [n] at e; cases e
    refine ⟨fun b o e n h1 h2 => un.keep b o e (nU b n) h1 h2, fun b o e n h1 h2 => un.slot b o e (nU b n) h1 h2, fun b o e n h2 => by rw [retr_out (nD b n)]; exact un.free b o e (nU b n) h2, un.there, fun b xs e => ?_, fun b o u e => ?_, fun b qs e => ?_⟩
    ·have e1 := keepU b _ e fun φ z => nomatch z
     rw [retr_out (uU b _ e1).1]; exact un.tups b xs e1
    ·have e1 := keepU b _ e fun φ z => nomatch z
     rw [retr_out (uU b _ e1).1]; exact un.frzs b o u e1
    ·have e1 := keepU b _ e fun φ z => nomatch z
     rw [retr_out (uU b _ e1).1]; exact un.tbls b qs e1
   exact I.after ⟨v, _, os, bare, unR, hokR, r, q fun b hb => by obtain ⟨_, _, _, _, _, n⟩ := inD b hb; exact n⟩
end
section
variable {X : Cx} {x : Str} {p pos : Pos} {e : Expr} {es : List Expr} {t : TA} {k : Nat} {f : Addr} {fd : FuncData} {ps : List Str}
def tCallW (X : Cx) (k : Nat) (f : Addr) (fd : FuncData) (ps : List Str) (t : TA) : TE := fun σ H Q => t σ H fun vs H1 => ∃ D : List Addr, (∀ a ∈ D, ∃ φ, H1 a = some (.ext φ)) ∧
 ∀ base' : Heap, Wide X σ D H1 base' → ∃ sp : Sp, FnOk X.prog X.w X.K X.mg base' CX0 k f fd ps sp ∧ sp vs (untr D H1) (fun v H2 => (∀ b ∈ D, H2 b = none) → Q v (retr D H1 H2)) E0
theorem pe_callW (hfn : ∀ x, X.fn x = true) (hr : Room k X.A) (hg : Gl X x) (hm : X.mg x = some (.ref f)) (hk : PySem.W.keepIn X.K (.ref f) = true) (hb : Binds X.K fd ps [])
  (ha : PA X (e :: es) t) (hdb : (x == ("__debug__" : Str)) = false := by decide) (he : starEach (e :: es) X.env = (false, eval e X.env) :: starEach es X.env := by rfl) (hpl : (backTo pos (starEach es X.env)).any (·.1) = false := by rfl) :
  PE X (.Call (.Name x p) (e :: es) [] pos) (tCallW X k f fd ps t) := by
 intro pins s σ H Q I h
 refine wpAny_Call_Name_kw (ld_glob I hg hm ?_ hdb)
 refine PySem.W.callWith_K (h₀ := X.base) I.ok.mod.kin hk (thn (ha pos pins s σ H _ I h) ?_) he hpl
 rintro us s1 ⟨vs, H1, I1, r, D, hD, q⟩
 refine ⟨I1.kIn, ?_⟩
 obtain ⟨sp, F, hsp⟩ := q _ (wide_of I1 hfn hD)
 exact run_fnW I1 hfn hD F hr hb r hsp
end
def OnlyT (ts : List Addr) (H : Hp) : Prop := (∀ b, H b = none ∨ (∃ o xs, H b = some (.frz o (.lst xs))) ∨ (b ∈ ts ∧ H b = some (.tbl #[]))) ∧ ∀ b ∈ ts, H b = some (.tbl #[])
theorem OnlyT.tab {ts : List Addr} {H : Hp} {T : Addr} {L : List (Pos × Str)} (x : OnlyT ts H) (h : T ∈ ts) : Tab H T L := ⟨#[], x.2 T h, trivial, fun p _ => .inl rfl⟩
theorem law_callT {P : Program} {w : World} {K : PySem.W.Frag} {mg mb : Str → Option Value} {CX : CXT} {k : Nat} {fa a : Addr} {fd : FuncData} {x : Str} {sp : Sp} {s₁ : Shared} {vs : List Value} {ns : List Int} {ts : List Addr}
  (KX : K.In s₁.heap) (hns : s₁.heap.Ns mainGlobals mg) (hb : s₁.heap.Ns builtinsNs mb) (hbb : ∀ x : Str, x ≠ "__name__" → mb x = bootBuiltins x) (hlim : s₁.heap.NoLimit) (hg : s₁.gens = #[])
  (ha : s₁.heap.get? a = some { cls := .type "list", data := .seq vs.toArray }) (hi : IntsAre vs ns) (hl : ns.length ≤ sizeLine) (hr : Room k callerA)
  (hts : ∀ T ∈ ts, (∃ c, PySem.W.CodeHd s₁.heap c T) ∧ s₁.heap.get? T = some (PySem.W.tabObj #[]) ∧ K.lookup T = none) (hBA : BltAt mg s₁.heap)
  (F : ∀ base : Heap, K.In base → base.Ns mainGlobals mg → BltAt mg base → FnOk P w K mg base CX k fa fd [x] sp) (hbind : ∀ (s : Shared) (u : Value), BindsTo s fd ⟨[u], []⟩ [(x, u)])
  (hsp : ∀ H : Hp, OnlyT ts H → SqL K H a (ns.map V.int) → sp [.ref a] H (fun v _ => v = .bl true) fun _ _ _ => False)
  (hCX : ∀ H e s', CX [] H s₁ (fun _ _ _ => False) e s' → False) :
  codeAny (model P w) callerA (.call (.ref fa) ⟨[.ref a], []⟩) (fun r s' => r = .ok (.ret (.bool true)) ∧ OldK s₁.heap s'.heap ∧ s'.os = s₁.os ∧ AllBare s'.gens) s₁ := by
 have rv := vals_ints hi
 have lenV := hi.length
 have aT : a ∉ ts := fun z => by
  have := (hts a z).2.1
  rw [ha] at this; cases this
 have core : ∀ H : Hp, OnlyT ts H → SqL K H a (ns.map V.int) → HOk P w H s₁.heap → (∀ b, H b ≠ none → b = a ∨ b ∈ ts) → (H a ≠ none → K.lookup a = none) →
   codeAny (model P w) callerA (.call (.ref fa) ⟨[.ref a], []⟩) (fun r s' => r = .ok (.ret (.bool true)) ∧ OldK s₁.heap s'.heap ∧ s'.os = s₁.os ∧ AllBare s'.gens) s₁ := by
  intro H hO hS hok hA hK
  have base_of : ∀ {b : Addr} {o : Obj}, s₁.heap.get? b = some o → H b = none → (hidT s₁.heap H).get? b = some o := fun e n => hidT_get e n
  have noA : ∀ {b : Addr} {o : Obj}, s₁.heap.get? b = some o → o ≠ { cls := .type "list", data := .seq vs.toArray } → o ≠ PySem.W.tabObj #[] → H b = none := fun {b o} e d1 d2 => by
   cases q : H b with
   | none => rfl
   | some u =>
    rcases hA b (by rw [q]; simp) with e' | e'
    ·subst e'
     rw [ha] at e; cases e
     exact absurd rfl d1
    ·have := (hts b e').2.1
     rw [e] at this; cases this
     exact absurd rfl d2
  have nsK : ∀ {b : Addr} {m : Str → Option Value}, s₁.heap.Ns b m → (hidT s₁.heap H).Ns b m := fun {b m} ⟨o, es, ep, e, d, r⟩ => ⟨o, es, ep, base_of e (noA e (fun z => by rw [z] at d; cases d) fun z => by rw [z] at d; cases d), d, r⟩
  have hKb : K.In (hidT s₁.heap H) := fun b o e => base_of (KX b o e) (by
   cases q : H b with
   | none => rfl
   | some u =>
    rcases hA b (by rw [q]; simp) with e' | e'
    ·subst e'
     rw [hK (by rw [q]; simp)] at e; cases e
    ·rw [(hts b e').2.2] at e; cases e)
  have hBb : BltAt mg (hidT s₁.heap H) := by
   obtain ⟨bm, o, h1, h2, h3, h4, h5, h6⟩ := hBA
   exact ⟨bm, o, h1, h2, base_of h3 (noA h3 (fun z => by rw [z] at h4; exact absurd (Value.type.inj h4) (by decide)) fun z => by rw [z] at h4; cases h4), h4, h5, h6⟩
  have hM : Mod K mg (hidT s₁.heap H) := ⟨hKb, nsK hns, ⟨mb, nsK hb, hbb⟩, let ⟨mc, h1, h2⟩ := hlim; ⟨mc, nsK h1, h2⟩⟩
  have e0 : Env0 P w K mg (hidT s₁.heap H) callerA [] s₁ H := ⟨rfl, hM, fun b o e => of_hidT e, Nat.le_of_eq (hidT_size _ _), trivial, fun b hb => absurd (show b ∈ ([] : List Addr) from hb) (by simp), hok, .of_eq hg⟩
  refine codeAny_mono ((F _ hKb (nsK hns) hBb).run callerA [] s₁ H ⟨[.ref a], []⟩ [.ref a] [.ref a] _ _ hr e0 (hbind s₁ (.ref a)) (.cons rfl .nil) (hsp H hO hS)) fun r s' h => ?_
  cases r with
  | error e => exact (hCX H e s' h).elim
  | ok fl =>
   cases fl with
   | next => exact False.elim h
   | brk => exact False.elim h
   | cont => exact False.elim h
   | ret u =>
    obtain ⟨v, H', os, bare, un, hok', r', q⟩ := h
    have q' : v = .bl true := q
    subst q'
    obtain rfl : u = Value.bool true := r'
    refine ⟨rfl, ⟨fun b o e => ?_, fun b o e => un.there b o e (by simp)⟩, os, bare⟩
    cases q : H b with
    | none => exact .inl (un.keep b o e q (by intro z; exact absurd (show b ∈ ([] : List Addr) from z) (by simp)) (by simp))
    | some u =>
     rcases hO.1 b with z | ⟨ob, xs, z⟩ | ⟨hb, z⟩
     ·rw [q] at z; cases z
     ·have z2 := un.frzs b ob _ z
      obtain ⟨e1, _⟩ := hok b _ z
      obtain ⟨e2, _⟩ := hok' b _ z2
      rw [e] at e1; cases e1
      exact .inl e2
     ·obtain ⟨more, z2⟩ := un.tbls b _ z
      have e2 : s'.heap.get? b = some (PySem.W.tabObj (#[] ++ more)) := hok' b _ z2
      obtain ⟨⟨c, hc⟩, e3, _⟩ := hts b hb
      have e4 : o = PySem.W.tabObj #[] := by rw [e] at e3; exact Option.some.inj e3
      subst e4
      exact .inr (.inl ⟨(hc.tab e3).isCodeTable, rfl, #[], more, rfl, e2⟩)
 have tne : ∀ T ∈ ts, T ≠ a := fun T hT z => aT (z ▸ hT)
 cases hk : K.lookup a with
 | some o =>
  have e := KX a o hk
  rw [ha] at e
  cases e
  refine core (fun b => if b ∈ ts then some (.tbl #[]) else none) ⟨fun b => ?_, fun b hb => if_pos hb⟩ (.inr ⟨_, vs.toArray, _, hk, rfl, rfl, rfl, by rw [List.size_toArray, lenV]; exact hl, by simpa using rv⟩) (fun b u z => ?_) (fun b z => ?_) fun z => absurd (if_neg aT) z
  ·by_cases hb : b ∈ ts
   ·exact .inr (.inr ⟨hb, if_pos hb⟩)
   ·exact .inl (if_neg hb)
  ·by_cases hb : b ∈ ts
   ·have z' := (if_pos hb).symm.trans z
    cases z'
    exact (hts b hb).2.1
   ·have z' := (if_neg hb).symm.trans z
    cases z'
  ·by_cases hb : b ∈ ts
   ·exact .inr hb
   ·exact absurd (if_neg hb) z
 | none =>
  have eA : ∀ b, b = a → (if b ∈ ts then some (HO.tbl #[]) else if b = a then some (HO.frz { cls := .type "list", data := .seq vs.toArray } (.lst (ns.map V.int))) else none) = some (HO.frz { cls := .type "list", data := .seq vs.toArray } (.lst (ns.map V.int))) := fun b hb => by
   rw [if_neg (hb ▸ aT), if_pos hb]
  have eN : ∀ b, b ∉ ts → b ≠ a → (if b ∈ ts then some (HO.tbl #[]) else if b = a then some (HO.frz { cls := .type "list", data := .seq vs.toArray } (.lst (ns.map V.int))) else none) = none := fun b h1 h2 => by
   rw [if_neg h1, if_neg h2]
  refine core (fun b => if b ∈ ts then some (.tbl #[]) else if b = a then some (.frz { cls := .type "list", data := .seq vs.toArray } (.lst (ns.map V.int))) else none) ⟨fun b => ?_, fun b hb => if_pos hb⟩ (.inl (.inr ⟨{ cls := .type "list", data := .seq vs.toArray }, eA a rfl⟩)) (fun b u z => ?_) (fun b z => ?_) fun _ => hk
  ·by_cases hb : b ∈ ts
   ·exact .inr (.inr ⟨hb, if_pos hb⟩)
   by_cases hb2 : b = a
   ·exact .inr (.inl ⟨_, _, eA b hb2⟩)
   ·exact .inl (eN b hb hb2)
  ·by_cases hb : b ∈ ts
   ·have z' := (if_pos hb).symm.trans z
    cases z'
    exact (hts b hb).2.1
   by_cases hb2 : b = a
   ·have z' := (eA b hb2).symm.trans z
    cases z'
    subst hb2
    exact ⟨ha, by rw [List.length_map]; exact hl, vs, _, rv, ha⟩
   ·have z' := (eN b hb hb2).symm.trans z
    cases z'
  ·by_cases hb : b ∈ ts
   ·exact .inr hb
   by_cases hb2 : b = a
   ·exact .inl hb2
   ·exact absurd (eN b hb hb2) z
theorem walk_ofT {l : PySem.W.OpenLaw} {n k : Nat} {q : Program} {loose : List Str} {XP : (Str → Option Value) → Heap → Prop} {YP : World → Heap → Prop} {d : DefRec} {K : Params → PySem.W.Frag} {sp : World → List Addr → Sp} {x : Str}
  (hn : l.most = some n) (hn2 : n ≤ sizeLine) (hdf : d.params.defaults = []) (hr : Room k callerA)
  (hY : ∀ (w : World) (h : Heap), YP w h → (K w.params).In h)
  (F : ∀ (w : World) (mg : Str → Option Value) (fa : Addr) (h : Heap), (K w.params).In h → h.Ns mainGlobals mg → mg d.name = some (.ref fa) → YP w h →
   ∃ (fd : FuncData) (ts : List Addr), (∀ T ∈ ts, (∃ c, PySem.W.CodeHd h c T) ∧ h.get? T = some (PySem.W.tabObj #[]) ∧ (K w.params).lookup T = none) ∧ (∀ (s : Shared) (u : Value), BindsTo s fd ⟨[u], []⟩ [(x, u)]) ∧
    ∀ base : Heap, (K w.params).In base → base.Ns mainGlobals mg → BltAt mg base → FnOk l.prog w (K w.params) mg base CX0 k fa fd [x] (sp w ts))
  (hsp : ∀ (w : World) (H : Hp) (a : Addr) (ns : List Int) (ts : List Addr), ns.length ≤ n → OnlyT ts H → SqL (K w.params) H a (ns.map V.int) → sp w ts [.ref a] H (fun v _ => v = .bl true) fun _ _ _ => False) :
  PySem.W.WalkO q loose XP YP l.row.toRowW d [] (fun f vs => PySem.call f vs) := by
 refine Att.attach_call hn hdf fun w s₀ s₁ mg mb fa o pm cd doc a vs ns G Y ho hd hcd hmg hobj hints hlen hg => ?_
 have KX := hY w _ Y
 obtain ⟨fd, ts, h1, hb, hF⟩ := F w mg fa _ KX G.T.g hmg Y
 obtain ⟨bm, ob, b1, b2, b3, b4⟩ := G.T.bmain
 exact law_callT KX G.T.g G.T.b G.T.builtins G.T.nolimit hg hobj hints (Nat.le_trans hlen hn2) hr h1 ⟨bm, ob, b1, b2, b3, b4⟩ hF hb (fun H hO hS => hsp w H a ns ts hlen hO hS) fun H e s' => id
section
variable {X : Cx} {o e f : Expr} {apos cpos : Pos} {td ty tx : TE}
def tDispT (tk tv : TE) : TE := fun σ H Q => ∀ p, H p = none → tk σ (upd H p (.dT [])) fun x H1 => tv σ H1 fun y H2 => H2 p = some (.dT []) ∧ ∃ b ks, x = .ref b ∧ H2 b = some (.tup (ks.map kV)) ∧ Q (.ref p) (upd H2 p (.dT [(ks, y)]))
theorem pe_dispT {pos : Pos} {k v : Expr} {tk tv : TE} (hu : X.A.units < cLine) (hk : PE X k tk) (hv : PE X v tv) : PE X (.Dict [some k] [v] pos) (tDispT tk tv) := by
 intro pins s σ H Q I q
 have hn := I.hok.fresh (Nat.le_refl s.heap.objs.size)
 have I1 := I.laid (a := s.heap.objs.size) (o := .dT []) (h' := s.heap.push { cls := .type "dict", data := .dict #[] }) (t' := s.toks) (fun _ _ q => Heap.get?_push_of_some _ q) (Nat.le_refl _) (dt_empty s.heap I.big)
 have hall : ([some k] : List (Option Expr)).all (·.isSome) = true := rfl
 have hl : ([some k] : List (Option Expr)).length = [v].length := rfl
 rw [arm_eval_Dict, zip_pairTrees [some k] [v] X.env pos hall hl, dictDisplay_pairs _ (fun z => by
  have := pairTrees_length [some k] [v] X.env pos hall hl
  rw [z] at this; cases this) (by rw [pairTrees_length [some k] [v] X.env pos hall hl]; show 1 < 17; decide)]
 refine wpAny_bind (wpAny_standAt (wpAny_bind ?_))
 unfold subDict
 refine wpAny_bind (wpAny_alloc ?_)
 refine wpAny_bind (wpAny_holding ?_)
 rw [if_pos (by rw [pairTrees_length [some k] [v] X.env pos hall hl]; show 1 ≤ 15; decide)]
 have hp : PPs X pos [some k] [v] [(tk, tv)] := pps_cons hk hv pps_nil
 refine wpAny_bind (thn (hp pins _ σ _ (fun ps H2 => match ps with | [(x, y)] => H2 s.heap.objs.size = some (.dT []) ∧ ∃ b ks, x = .ref b ∧ H2 b = some (.tup (ks.map kV)) ∧ Q (.ref s.heap.objs.size) (upd H2 s.heap.objs.size (.dT [(ks, y)])) | _ => False) I1 (q _ hn)) fun ws s2 ⟨ps, H2, I2, rel, q2⟩ => ?_)
 cases rel with
 | nil => exact False.elim q2
 | @cons p0 w0 ps' ws' r0 rt =>
  cases rt with
  | cons r1 rt1 => exact False.elim q2
  | nil =>
   obtain ⟨e, b, ks, eb, hb, q3⟩ := q2
   obtain ⟨x0, y0⟩ := p0
   obtain ⟨kv, vv⟩ := w0
   cases eb
   cases (show kv = Value.ref b from r0.1)
   obtain ⟨z, hd, xs, rx, dd⟩ := dt_of I2.hok e
   cases rx
   refine wpAny_holding (wpAny_bind ?_)
   rw [List.forIn_cons]
   refine wpAny_bind (wpAny_bind (wpAny_dictSet_heap (knd := tupleKind (mixKind X.prog X.w)) (k := ks) (xs := []) (show (tupleKind (mixKind X.prog X.w)).room X.A from hu) (key_of I2.hok hb) dd (fun h' dd' hs => wpAny_pure ?_) (Nat.zero_le _)))
   dsimp only
   rw [List.forIn_nil]
   refine wpAny_pure (wpAny_pure (wpAny_pure (wpAny_pure ?_)))
   obtain ⟨q', es, ep, hq, h2, h3, h4, _, h5⟩ := dd'
   have new : ObjOk X.prog X.w (upd H2 s.heap.objs.size (.dT [(ks, y0)])) h' s.heap.objs.size (.dT [(ks, y0)]) := by
    refine ⟨by show 1 ≤ sizeLine; decide, hd, _, (KT.put (.nil : KT H2 [] []) ks hb r0.2).keeps fun c ys ec => ?_, q', es, ep, hq, h2, h3, h4, h5⟩
    rw [upd_ne (ne_of ec e (fun z => nomatch z))]
    exact ec
   exact ⟨.ref s.heap.objs.size, _, d_write I2 (by rw [e]; exact True.intro) hs ⟨q', hq⟩ new, rfl, q3⟩
end
theorem whileM {c : TT} {tb : TS} {D : Ends} {σ : St} {H : Hp} (W : Nat → St → Hp → Prop) (h0 : ∃ m, W m σ H)
  (hs : ∀ m σ H, W m σ H → c σ H fun b H1 => if b = true then tb { D with nx := fun σ' H' => ∃ m', m' < m ∧ W m' σ' H', ct := fun σ' H' => ∃ m', m' < m ∧ W m' σ' H', bk := D.nx } σ H1 else D.nx σ H1)
  (mono : ∀ σ H Q Q', (∀ b H1, Q b H1 → Q' b H1) → c σ H Q → c σ H Q') : tWhile c tb D σ H := by
 refine ⟨W, h0, fun m σ H w => mono σ H _ _ (fun b H1 q => ?_) (hs m σ H w)⟩
 cases b with
 | true => exact ⟨_, fun σ' H' p => p, q⟩
 | false => exact q
structure FunC (K : PySem.W.Frag) (x qual : Str) (st : Stmt) (f : Addr) (fd : FuncData) (cd : Value) : Prop where
 ex : ∃ (oc : Value) (od : Option Addr) (dV kV doc pm : Value) (an : Option Addr) (ct : Value) (osl : Array (Option Value)),
  fd = PySem.W.fnOf x qual (defArgs st) (defBody st) (defScope st) dV kV doc pm an cd ct ∧ K.lookup f = some ⟨oc, od, .func fd, osl⟩ ∧ PySem.W.codeIn K cd qual = true
 kp : PySem.W.keepIn K (.ref f) = true
section
variable {P : Program} {w : World} {K : PySem.W.Frag} {mg : Str → Option Value} {base : Heap}
theorem FunC.ok {x qual : Str} {st : Stmt} {f : Addr} {fd : FuncData} {cd : Value} {N ps : List Str} {k : Nat} {sp : Sp} (F : FunC K x qual st f fd cd) (S : FnScope N ps (defScope st)) (len : ∀ vs H Q E, sp vs H Q E → vs.length = ps.length)
  (hbody : ∀ (A : Around) (outer : List Env) (s : Shared) (H : Hp) (vs : List V) (Q : VK) (E : XK), Room k (A.deeper (envOfC qual (defScope st) s.heap.objs.size f cd)) → sp vs H Q E →
   ∃ t, PSs (cxOf CX0 P w K mg base N qual (defScope st) f cd A outer s H E).nox (defBody st) t ∧ t { nx := fun _ H' => Q .non H', rt := Q } (start N vs) H) : FnOk P w K mg base CX0 (k + 1) f fd ps sp := by
 obtain ⟨oc, od, dV, kV, doc, pm, an, ct, osl, rfl, lk, hcd⟩ := F.ex
 refine fn_of lk hcd S len fun A outer s H vs Q E hr hsp => ?_
 obtain ⟨t, h, q⟩ := hbody A outer s H vs Q E hr hsp
 exact ⟨t, h.nox, q⟩
theorem func_mk {x qual : Str} {st : Stmt} {f : Addr} {oc : Value} {od an : Option Addr} {osl : Array (Option Value)} {dV kV doc pm cd ct : Value} (l : K.lookup f = some ⟨oc, od, .func (PySem.W.fnOf x qual (defArgs st) (defBody st) (defScope st) dV kV doc pm an cd ct), osl⟩)
  (c : PySem.W.codeIn K cd qual = true) (k : PySem.W.keepIn K (.ref f) = true) : FunC K x qual st f (PySem.W.fnOf x qual (defArgs st) (defBody st) (defScope st) dV kV doc pm an cd ct) cd := ⟨⟨oc, od, dV, kV, doc, pm, an, ct, osl, rfl, l, c⟩, k⟩
end
section
variable {X : Cx} {pos : Pos} {params : Arguments} {body : Expr} {scope : Scope} {c T : Addr} {clos : List (Str × Addr)} {L : List (Pos × Str)}
theorem pe_lamK (hcode : X.env.code = .ref c) (hC : PySem.W.codeHdIn X.K c T = true) (hB : BltAt X.mg X.base) (hcl : closureFor scope X.env = pure clos) (hdef : defaultsOf params X.env = ([], [])) (hL : (pos, X.env.qual ++ "<lambda>") ∈ L) (ap : Apart L) (hfs : X.ex = []) :
  PE X (.Lambda params body scope pos) (tLam X params body scope clos T L) := fun pins s σ H Q I h => pe_lam hcode (PySem.W.codeHd_of_K I.ok.mod.kin hC) hB hcl hdef hL ap hfs pins s σ H Q I h
theorem codeHd_in {K : PySem.W.Frag} {c T : Addr} {od : Option Addr} {vs : Array Value} {sl : Array (Option Value)} (lc : K.lookup c = some ⟨.type "code", od, .fields vs, sl⟩)
  (e : ((match (vs[11]? : Option Value) with | some (.ref P') => P' == T | _ => false) && (match vs.getD 18 .none with | .str _ _ => true | _ => false) && (match vs.getD 7 .none with | .int _ _ => true | _ => false) &&
   (match vs.getD 9 .none with | .bool _ => true | _ => false) && (match vs.getD 10 .none with | .int _ _ => true | _ => false) && c != T) = true) : PySem.W.codeHdIn K c T = true := by
 unfold PySem.W.codeHdIn
 rw [lc]
 exact e
end
def kvsOf {α κ : Type} (key : α → κ) (xs : List α) : List (κ × V) := xs.zipIdx.map fun p => (key p.1, V.int ((p.2 : Nat) : Int))
section
variable {α κ : Type} [DecidableEq κ] {key : α → κ}
theorem kvsOf_len (xs : List α) : (kvsOf key xs).length = xs.length := by unfold kvsOf; rw [List.length_map, List.length_zipIdx]
theorem kvsOf_snoc (xs : List α) (x : α) : kvsOf key (xs ++ [x]) = kvsOf key xs ++ [(key x, V.int ((xs.length : Nat) : Int))] := by
 unfold kvsOf
 rw [List.zipIdx_append, List.map_append]
 simp
theorem valV_none_of : ∀ {kvs : List (κ × V)} {k : κ}, (∀ p ∈ kvs, p.1 ≠ k) → valV kvs k = none
 | [], _, _ => rfl
 | p :: r, k, h => by rw [valV_neg (h p List.mem_cons_self)]; exact valV_none_of fun q hq => h q (List.mem_cons_of_mem _ hq)
theorem kvsOf_none (inj : ∀ a b, key a = key b → a = b) {xs : List α} {x : α} (h : x ∉ xs) : valV (kvsOf key xs) (key x) = none := by
 refine valV_none_of fun p hp e => h ?_
 unfold kvsOf at hp
 obtain ⟨q, hq, rfl⟩ := List.mem_map.mp hp
 obtain ⟨y, i⟩ := q
 have := (List.mem_zipIdx hq).2.2
 have e' := inj _ _ e
 rw [← e', this]
 exact List.getElem_mem ..
theorem valV_append_none {kvs more : List (κ × V)} {k : κ} (h : valV kvs k = none) : valV (kvs ++ more) k = valV more k := by
 induction kvs with
 | nil => rfl
 | cons p r ih =>
  by_cases e : p.1 = k
  ·rw [valV_pos e] at h; cases h
  ·rw [valV_neg e] at h
   show valV (p :: (r ++ more)) k = _
   rw [valV_neg e]; exact ih h
theorem valV_append_some {kvs more : List (κ × V)} {k : κ} {v : V} (h : valV kvs k = some v) : valV (kvs ++ more) k = some v := by
 induction kvs with
 | nil => cases h
 | cons p r ih =>
  by_cases e : p.1 = k
  ·rw [valV_pos e] at h
   show valV (p :: (r ++ more)) k = _
   rw [valV_pos e]; exact h
  ·rw [valV_neg e] at h
   show valV (p :: (r ++ more)) k = _
   rw [valV_neg e]; exact ih h
theorem kvsOf_some (inj : ∀ a b, key a = key b → a = b) : ∀ (n : Nat) {xs : List α} {i : Nat} {x : α}, xs.length = n → xs.Nodup → xs[i]? = some x → valV (kvsOf key xs) (key x) = some (.int ((i : Nat) : Int))
 | 0, xs, i, x, hl, _, h => by
  have := (List.getElem?_eq_some_iff.mp h).1
  omega
 | n + 1, xs, i, x, hl, nd, h => by
  rcases List.eq_nil_or_concat xs with rfl | ⟨ys, y, e⟩
  ·simp at hl
  rw [List.concat_eq_append] at e
  subst e
  rw [kvsOf_snoc]
  have hy : y ∉ ys := fun z => ((List.nodup_append.mp nd).2.2 y z y (List.mem_singleton.mpr rfl)) rfl
  by_cases hi : i < ys.length
  ·rw [List.getElem?_append_left hi] at h
   exact valV_append_some (kvsOf_some inj n (by simpa using hl) (List.nodup_append.mp nd).1 h)
  ·have hb := (List.getElem?_eq_some_iff.mp h).1
   rw [List.length_append] at hb
   have hi2 : i = ys.length := by simp at hb; omega
   subst hi2
   rw [List.getElem?_append_right (Nat.le_refl _), Nat.sub_self] at h
   have := Option.some.inj h
   subst this
   rw [valV_append_none (kvsOf_none inj hy)]
   exact valV_pos rfl
end
structure DictRep (α : Type) where
 Rep : α → V → Hp → Prop
 Num : Hp → Addr → List α → Prop
 same : ∀ {x : α} {v : V} {H H' : Hp}, Rep x v H → KTu H H' → Rep x v H'
 keep : ∀ {H H' : Hp} {D : Addr} {xs : List α}, Num H D xs → H' D = H D → Num H' D xs
 isD : ∀ {H : Hp} {D : Addr} {xs : List α}, Num H D xs → ∃ o, H D = some o ∧ (∀ l, o ≠ .lst l) ∧ (∀ l, o ≠ .tup l)
 there : ∀ {H : Hp} {D : Addr} {xs : List α} {i : Nat} {x : α} {v : V}, Num H D xs → Rep x v H → xs.Nodup → xs[i]? = some x → DGet H D v (some (.int ((i : Nat) : Int)))
 miss : ∀ {H : Hp} {D : Addr} {xs : List α} {x : α} {v : V}, Num H D xs → Rep x v H → x ∉ xs → DGet H D v none
 put : ∀ {H : Hp} {D : Addr} {xs : List α} {x : α} {v : V}, Num H D xs → Rep x v H → x ∉ xs → xs.length < sizeLine → ∃ H', DPut H D v (.int ((xs.length : Nat) : Int)) H' ∧ KB D H H' ∧ Num H' D (xs ++ [x])
 disp : ∀ {X : Cx} {pos kpos cpos : Pos} {x : Str} {i j : Nat}, X.A.units + 1 < cLine → PE X (.Name x kpos) (tVar i) → PE X (.Constant (.int 0) j cpos) (tC (.int 0)) → PE X (.Dict [some (.Name x kpos)] [.Constant (.int 0) j cpos] pos)
  (fun σ H Q => ∃ y v, σ[i]? = some (some v) ∧ Rep y v H ∧ ∀ D H', H D = none → Same H H' → Num H' D [y] → Q (.ref D) H')
theorem num_inj (a b : Nat) (h : (Sum.inl (a : Int) : Key) = Sum.inl (b : Int)) : a = b := by injection h with h; omega
def keyL (l : List Nat) : List Key := l.map fun (x : Nat) => (Sum.inl (x : Int) : Key)
theorem keyL_inj (a b : List Nat) (h : keyL a = keyL b) : a = b := by
 unfold keyL at h
 induction a generalizing b with
 | nil => cases b with
  | nil => rfl
  | cons y b => cases h
 | cons x a ih => cases b with
  | nil => cases h
  | cons y b =>
   rw [List.map_cons, List.map_cons] at h
   injection h with h1 h2
   rw [num_inj _ _ h1, ih b h2]
theorem keyL_kV (l : List Nat) : (keyL l).map kV = (l.map fun (x : Nat) => V.int (x : Int)) := by unfold keyL; rw [List.map_map]; rfl
def repT : DictRep (List Nat) where
 Rep := fun x v H => ∃ p, v = .ref p ∧ H p = some (.tup (x.map fun (z : Nat) => V.int (z : Int)))
 Num := fun H D xs => H D = some (.dT (kvsOf keyL xs))
 same := fun {x v H H'} ⟨p, e, h⟩ k => ⟨p, e, k _ _ h⟩
 keep := fun h e => e.trans h
 isD := fun h => ⟨_, h, (fun l z => by cases z), (fun l z => by cases z)⟩
 there := fun {H D xs i x v} h ⟨p, r, hp⟩ nd e => by
  subst r
  exact .inr ⟨_, keyL x, p, .inl h, rfl, by rw [keyL_kV]; exact hp, (kvsOf_some keyL_inj _ rfl nd e).symm⟩
 miss := fun {H D xs x v} h ⟨p, r, hp⟩ n => by
  subst r
  exact .inr ⟨_, keyL x, p, .inl h, rfl, by rw [keyL_kV]; exact hp, (kvsOf_none keyL_inj n).symm⟩
 put := fun {H D xs x v} h ⟨p, r, hp⟩ n hl => by
  subst r
  refine ⟨_, DPut.t (k := keyL x) h (by rw [keyL_kV]; exact hp) (by rw [kvsOf_len]; exact hl), KB.write, ?_⟩
  rw [upd_same, putK_new _ (kvsOf_none keyL_inj n), kvsOf_snoc]
 disp := fun {X pos kpos cpos x i j} hu h1 h2 pins s σ H Q I q => by
  obtain ⟨y, v, hv, ⟨p, rfl, hp⟩, q⟩ := q
  refine pe_dispT (Nat.lt_of_succ_lt hu) h1 h2 pins s σ H Q I fun D hD => ⟨_, hv, ?_⟩
  have sD := Same.new (o := .dT []) hD
  refine ⟨upd_same, p, keyL y, rfl, by rw [keyL_kV]; exact sD _ _ hp, q D _ hD (sD.kbn hD KB.write) ?_⟩
  rw [upd_same]; rfl
theorem LamScope.mk' {ps frn : List Str} {scope : Scope} (h1 : scope.kind = .function) (h2 : scope.isCoroutine = false) (h3 : scope.isGenerator = false) (h4 : ∀ x ∈ scope.names, x.2 ≠ .cell) (h5 : ∀ x ∈ ps, scope.names.lookup x = some .local) (h6 : ∀ x ∈ frn, scope.names.lookup x = some .free)
  (h7 : ∀ p ∈ scope.names, p.2 = .free → p.1 ∈ frn) (h8 : (ps ++ frn).Nodup) : LamScope ps frn scope := ⟨h1, h2, h3, h4, h5, h6, fun x e => h7 (x, .free) (PySem.mem_of_lookup e) rfl, h8⟩
def FnAt (P : Program) (w : World) (K : PySem.W.Frag) (mg : Str → Option Value) (base : Heap) (k : Nat) (f : Addr) (n : Nat) (sp : Sp) : Prop :=
 ∃ (o : Obj) (fd : FuncData) (ps : List Str), base.get? f = some o ∧ o.data = .func fd ∧ ps.length = n ∧ (∀ us : List Value, us.length = ps.length → bindArgs fd ⟨us, []⟩ = pure (ps.zip us)) ∧ FnOk P w K mg base CX0 k f fd ps sp
theorem retr_same {D : List Addr} {H1 H2 : Hp} (s : Same (untr D H1) H2) : Same H1 (retr D H1 H2) := fun b o e => by
 by_cases hb : b ∈ D
 ·rw [retr_in hb]; exact e
 ·rw [retr_out hb]; exact s _ _ (by rw [untr_out hb]; exact e)
theorem untr_get {D : List Addr} {H : Hp} {b : Addr} {o : HO} (hD : ∀ a ∈ D, ∃ φ, H a = some (.ext φ)) (e : H b = some o) (hn : ∀ φ, o ≠ .ext φ) : untr D H b = some o := by
 rw [untr_out fun z => ?_]
 ·exact e
 ·obtain ⟨φ, q⟩ := hD b z
  rw [e] at q
  exact hn φ (Option.some.inj q)
def cellO (c : Addr) (v : V) : HO := .ext fun h => ∃ u, h.IsCell c (some u) ∧ RelV v u
theorem cellO_ok {P : Program} {w : World} {H : Hp} {h : Heap} {c : Addr} {v : V} {u : Value} (e : h.IsCell c (some u)) (r : RelV v u) : ObjOk P w H h c (cellO c v) :=
 ⟨⟨u, e, r⟩, (let ⟨o, ho, _⟩ := e; ⟨o, ho⟩), fun h1 h2 ⟨u, ⟨o, ho, hd⟩, r⟩ k => ⟨u, ⟨o, k o ho, hd⟩, r⟩⟩
def addC (cs : List (Addr × V)) (H : Hp) : Hp := fun b => match cs.lookup b with
 | some v => some (cellO b v)
 | none => H b
theorem addC_in {cs : List (Addr × V)} {H : Hp} {b : Addr} {v : V} (h : cs.lookup b = some v) : addC cs H b = some (cellO b v) := by unfold addC; rw [h]
theorem addC_out {cs : List (Addr × V)} {H : Hp} {b : Addr} (h : cs.lookup b = none) : addC cs H b = H b := by unfold addC; rw [h]
theorem addC_same {cs : List (Addr × V)} {H : Hp} (h : ∀ c v, cs.lookup c = some v → H c = none) : Same H (addC cs H) := fun b o e => by
 cases q : cs.lookup b with
 | none => rw [addC_out q]; exact e
 | some v => rw [h b v q] at e; cases e
def CellsOf (X : Cx) (σ : St) (cs : List (Addr × V)) : Prop := ∀ c v, cs.lookup c = some v → ∃ (i : Nat) (x : Str), X.N[i]? = some x ∧ σ[i]? = some (some v) ∧ X.env.scope.names.lookup x = some .cell ∧ X.env.cells.lookup x = some c
section
variable {X : Cx} {pins : List (Addr × Obj)} {σ : St} {H : Hp} {s : Shared} {cs : List (Addr × V)}
theorem CellsOf.free (C : CellsOf X σ cs) (I : Inv X pins σ H s) : ∀ c v, cs.lookup c = some v → H c = none := fun c v e => by
 obtain ⟨i, x, _, _, _, h⟩ := C c v e
 exact I.freeC x c h
theorem CellsOf.hok (C : CellsOf X σ cs) (I : Inv X pins σ H s) : HOk X.prog X.w (addC cs H) s.heap := fun b u e => by
 have sm := addC_same (C.free I)
 cases q : cs.lookup b with
 | some v =>
  rw [addC_in q] at e
  cases e
  obtain ⟨i, x, h1, h2, h3, h4⟩ := C b v q
  obtain ⟨m, _, hl⟩ := I.loc
  obtain ⟨u, r, l⟩ := hl i x v h1 h2 (.inr (.inl h3))
  rcases l with ⟨z, _⟩ | ⟨_, c, e, z⟩
  ·have z' : X.env.scope.names.lookup x = some .local := z
   rw [h3] at z'; cases z'
  ·rw [h4] at e; cases e
   exact cellO_ok z r
 | none =>
  rw [addC_out q] at e
  exact (I.hok b u e).stay (fun _ _ _ z => z) (fun d z => sm _ _ z) fun d xs z => sm _ _ z
theorem CellsOf.un (C : CellsOf X σ cs) (I : Inv X pins σ H s) (hfn : ∀ x, X.fn x = true) (hex : X.ex = []) : Un X.fs [] X.H₀ (addC cs H) X.s₀.heap s.heap := by
 have B := I.base
 rw [hex] at B
 have sm := addC_same (C.free I)
 refine ⟨B.keep, B.slot, fun b o e n hx => ?_, B.there, fun b xs e => sm _ _ (B.tups b xs e), fun b o xs e => sm _ _ (B.frzs b o xs e), fun b ps e => ?_⟩
 ·cases q : cs.lookup b with
  | none => rw [addC_out q]; exact B.free b o e n hx
  | some v =>
   obtain ⟨i, x, _, _, _, h4⟩ := C b v q
   exact absurd (Nat.lt_of_lt_of_le (Heap.lt_size e) (I.ok.cab x b (hfn x) h4)) (Nat.lt_irrefl _)
 ·obtain ⟨m, z⟩ := B.tbls b ps e
  exact ⟨m, sm _ _ z⟩
end
abbrev TB := (St → V → Hp → Prop) → St → Hp → Prop
def SPR (X : Cx) (pins : List (Addr × Obj)) (R : St → V → Hp → Prop) (f : Flow) (s' : Shared) : Prop :=
 match f with
 | .ret u => ∃ v σ' H', Inv X pins σ' H' s' ∧ RelV v u ∧ R σ' v H'
 | _ => False
def PBody (X : Cx) (st : List Stmt) (t : TB) : Prop :=
 ∀ (pins : List (Addr × Obj)) (s : Shared) (σ : St) (H : Hp) (R : St → V → Hp → Prop), Inv X pins σ H s → t R σ H → wpAny (model X.prog X.w) X.A (execs st X.env) (SPR X pins R) X.xe s
section
variable {X : Cx} {st : Stmt} {rest : List Stmt} {t : TS} {u : TB} {e : Expr} {te : TE} {pos : Pos}
theorem pb_ret (he : PE X e te) : PBody X [.Return (some e) pos] (fun R σ H => te σ H (R σ)) := by
 intro pins s σ H R I h
 refine wpAny_execs_cons (wpAny_Return_some (thn (he pins s σ H _ I h) ?_))
 rintro v s1 ⟨x, H1, I1, r1, q1⟩
 exact ⟨x, σ, H1, I1, r1, q1⟩
theorem pb_cons (h1 : PS X st t) (h2 : PBody X rest u) : PBody X (st :: rest) (fun R σ H => t { nx := u R, rt := fun _ _ => False } σ H) := by
 intro pins s σ H R I h
 refine wpAny_execs_cons (thn (h1 pins s σ H { nx := u R, rt := fun _ _ => False } I h) fun f s1 q => ?_)
 cases f with
 | next =>
  obtain ⟨σ', H', I', q⟩ := q
  exact h2 pins s1 σ' H' R I' q
 | ret v => obtain ⟨_, _, _, _, _, z⟩ := q; exact z.elim
 | brk => obtain ⟨_, _, _, z⟩ := q; exact z.elim
 | cont => obtain ⟨_, _, _, z⟩ := q; exact z.elim
theorem PBody.nox {st : List Stmt} (h : PBody X.nox st u) : PBody X st u := fun pins s σ H R I hw =>
 wpAny_mono (h pins s σ H R (I.wish _) hw) (fun f s' q => by
  cases f with
  | ret v => obtain ⟨x, σ', H', J, r, z⟩ := q; exact ⟨x, σ', H', J.unwish, r, z⟩
  | next => exact q
  | brk => exact q
  | cont => exact q) fun _ _ z => False.elim z
end
theorem FunC.okR {P : Program} {w : World} {K : PySem.W.Frag} {mg : Str → Option Value} {base : Heap} {x qual : Str} {st : Stmt} {f : Addr} {fd : FuncData} {cd : Value} {N ps : List Str} {k : Nat} {sp : Sp} (F : FunC K x qual st f fd cd) (S : FnScope N ps (defScope st)) (len : ∀ vs H Q E, sp vs H Q E → vs.length = ps.length)
  (hbody : ∀ (A : Around) (outer : List Env) (s : Shared) (H : Hp) (vs : List V) (Q : VK) (E : XK), (∀ x y c, (envOfC qual (defScope st) s.heap.objs.size f cd).cells.lookup x = some c → (envOfC qual (defScope st) s.heap.objs.size f cd).cells.lookup y = some c → x = y) → Room k (A.deeper (envOfC qual (defScope st) s.heap.objs.size f cd)) → sp vs H Q E →
   ∃ t, PBody (cxOf CX0 P w K mg base N qual (defScope st) f cd A outer s H E).nox (defBody st) t ∧ t (fun σ v H2 => ∃ cs, CellsOf (cxOf CX0 P w K mg base N qual (defScope st) f cd A outer s H E) σ cs ∧ ((∀ c v, cs.lookup c = some v → H2 c = none) → Q v (addC cs H2))) (start N vs) H) : FnOk P w K mg base CX0 (k + 1) f fd ps sp := by
 obtain ⟨oc, od, dV, kV, doc, pm, an, ct, osl, rfl, lk, hcd⟩ := F.ex
 refine ⟨len, fun A outer s H args us vs Q E hr e0 hb r hsp => ?_⟩
 have hl := len _ _ _ _ hsp
 have KX : K.In s.heap := e0.mod.kin.keeps fun b o e => (e0.bs b o e).1
 have lim : s.heap.NoLimit := e0.mod.nolimit.keeps fun b o e => (e0.bs b o e).1
 have hkind : ∀ y ∈ ps.zip us, (defScope st).names.lookup y.1 = some .local ∨ ((defScope st).names.lookup y.1 = some .cell ∧ ((cellsFrom (s.heap.objs.size + 1) (defScope st).names []).lookup y.1).isSome = true) := fun ⟨n, v⟩ hy => by
  rcases S.par n (List.of_mem_zip hy).1 with q | q
  ·exact .inl q
  ·exact .inr ⟨q, PySem.W.cellsFrom_some _ _ _ (.inl q)⟩
 refine codeAny_call_function hr.depth (KX _ _ lk) rfl S.co S.gen rfl (PySem.W.codeRec_of KX hcd) (hb _ _ _ _ ?_)
 refine wpAny_newFunctionEnv_cells S.kind hkind fun env he s1 x => ?_
 subst he
 refine ⟨lim.keeps x.toInCall.keep, codeAny_func ?_⟩
 have I : Inv (cxOf CX0 P w K mg base N qual (defScope st) f cd A outer s H E) [] (start N vs) H s1 := inv_start S hr.hd e0 hl r x
 obtain ⟨t, ht, hq⟩ := hbody A outer s H vs Q E I.ok.inj (hr.deeper _) hsp
 refine wpAny_mono (ht.nox [] s1 (start N vs) H _ I hq) (fun fl s' hs => ?_) fun e s' hs => hs
 cases fl with
 | ret u =>
  obtain ⟨v, σ', H', J, rv, cs, C, q⟩ := hs
  exact ⟨v, addC cs H', J.os, J.bare, C.un J (fun _ => rfl) rfl, C.hok J, rv, q (C.free J)⟩
 | next => exact False.elim hs
 | brk => exact False.elim hs
 | cont => exact False.elim hs
structure WideB (K : PySem.W.Frag) (mg : Str → Option Value) (base : Heap) (D : List Addr) (H : Hp) (base' : Heap) : Prop where
 sub : ∀ b o, base.get? b = some o → base'.get? b = some o
 mod : Mod K mg base'
 ext : ∀ a φ, a ∈ D → H a = some (.ext φ) → φ base'
theorem Wide.b {X : Cx} {σ : St} {D : List Addr} {H : Hp} {base' : Heap} (W : Wide X σ D H base') : WideB X.K X.mg X.base D H base' := ⟨W.sub, W.mod, W.ext⟩
def FnIn (P : Program) (w : World) (K : PySem.W.Frag) (mg : Str → Option Value) (base : Heap) (H : Hp) (D : List Addr) (k : Nat) (f : Addr) (n : Nat) (sp : Sp) : Prop := ∀ base', WideB K mg base D H base' → FnAt P w K mg base' k f n sp
theorem FnIn.same {P : Program} {w : World} {K : PySem.W.Frag} {mg : Str → Option Value} {base : Heap} {H H' : Hp} {D : List Addr} {k : Nat} {f : Addr} {n : Nat} {sp : Sp} (F : FnIn P w K mg base H D k f n sp) (k' : ∀ b φ, b ∈ D → H b = some (.ext φ) → H' b = some (.ext φ)) : FnIn P w K mg base H' D k f n sp :=
 fun base' W => F base' ⟨W.sub, W.mod, fun a φ ha e => W.ext a φ ha (k' a φ ha e)⟩
theorem FnIn.more {P : Program} {w : World} {K : PySem.W.Frag} {mg : Str → Option Value} {base : Heap} {H : Hp} {D D' : List Addr} {k : Nat} {f : Addr} {n : Nat} {sp : Sp} (F : FnIn P w K mg base H D k f n sp) (h : ∀ b ∈ D, b ∈ D') : FnIn P w K mg base H D' k f n sp :=
 fun base' W => F base' ⟨W.sub, W.mod, fun a φ ha e => W.ext a φ (h a ha) e⟩
theorem FnIn.lam {X : Cx} {D : List Addr} {H : Hp} {params : Arguments} {body : Expr} {scope : Scope} {clos : List (Str × Addr)} {c' f : Addr} {ctv : Value} {ps frn : List Str} {fvs : List V} {k : Nat} {sp : Sp}
  (hf : H f = some (fnO f (lamO X params body scope clos c' ctv))) (hfD : f ∈ D) (hc : H c' = some (cdO c' (X.env.qual ++ "<lambda>"))) (hcD : c' ∈ D) (S : LamScope ps frn scope) (einj : ∀ x y c, X.env.cells.lookup x = some c → X.env.cells.lookup y = some c → x = y) (sub : ∀ p ∈ clos, X.env.cells.lookup p.1 = some p.2 ∧ p.1 ∈ frn)
  (vals : Paired (fun (x : Str) (v : V) => ∃ c, clos.lookup x = X.env.cells.lookup x ∧ X.env.cells.lookup x = some c ∧ c ∈ D ∧ H c = some (cellO c v)) frn fvs)
  (hb : ∀ (us : List Value), us.length = ps.length → bindArgs (PySem.W.kla_fn "<lambda>" (X.env.qual ++ "<lambda>") params body scope clos ((X.mg "__name__").getD .none) (.ref c') ctv) ⟨us, []⟩ = pure (ps.zip us)) (len : ∀ vs H Q E, sp vs H Q E → vs.length = ps.length)
  (hbody : ∀ (base' : Heap), WideB X.K X.mg X.base D H base' → ∀ (A : Around) (outer : List Env) (s : Shared) (H : Hp) (vs : List V) (Q : VK) (E : XK), Room k (A.deeper (PySem.W.envX (X.env.qual ++ "<lambda>") scope s.heap.objs.size f (.ref c') clos)) → sp vs H Q E →
   ∃ t, PE (cxL X.prog X.w X.K X.mg base' (ps ++ frn) (X.env.qual ++ "<lambda>") scope f (.ref c') clos A outer s H) body t ∧ t (vs.map some ++ fvs.map some) H Q) : FnIn X.prog X.w X.K X.mg X.base H D (k + 1) f ps.length sp := fun base' W => by
 have ho : base'.get? f = some (lamO X params body scope clos c' ctv) := W.ext f _ hfD hf
 have hcr : base'.CodeRec (.ref c') (X.env.qual ++ "<lambda>") := W.ext c' _ hcD hc
 have vals' : Paired (fun (x : Str) (v : V) => ∃ c u, clos.lookup x = some c ∧ base'.IsCell c (some u) ∧ RelV v u) frn fvs := Paired.mapP vals fun x v ⟨c, h0, h1, h2, h3⟩ => by
  obtain ⟨u, e, r⟩ := W.ext c _ h2 h3
  exact ⟨c, u, h0.trans h1, e, r⟩
 have sub' : ∀ x c, clos.lookup x = some c → X.env.cells.lookup x = some c ∧ x ∈ frn := fun x c e => sub (x, c) (PySem.mem_of_lookup e)
 have C : LamCells base' clos frn fvs := by
  refine ⟨fun x y c h1 h2 => einj x y c (sub' x c h1).1 (sub' y c h2).1, fun x c h => ?_, vals'⟩
  obtain ⟨i, hi⟩ := List.getElem?_of_mem (sub' x c h).2
  obtain ⟨v, _, c2, u, h1, h2, _⟩ := paired_get vals' hi
  rw [h] at h1; cases h1
  exact ⟨_, h2⟩
 exact ⟨_, _, ps, ho, rfl, rfl, hb, fn_lam ho hcr S C len (hbody base' W)⟩
section
variable {P : Program} {w : World} {A : Around} {E : Value → Shared → Prop}
theorem idx_loop {its : List Value} {ss : List Str} {t : Str} {tt : Tok} {j : Nat} (r : Vals (ss.map V.str) its) (hj : ss[j]? = some t) (hlt : ∀ i, i < j → ss[i]? ≠ some t) {s : Shared} {Q : Option PySem.Fin × Unit → Shared → Prop}
  (hQ : Q (some (Fin.done (Flow.ret (.int (j : Nat) s.toks))), ()) { s with toks := s.toks + 1 }) :
  ∀ k i, i + k = its.length → i ≤ j → wpAny (model P w) A (forIn (List.range' i k) (none, ()) (fun (i : Nat) (__s : Option PySem.Fin × Unit) =>
   match its.toArray[i]? with
   | some y => do
    let __do_lift ← eqBool y (Value.str t tt)
    if __do_lift = true then do
      let __do_lift ← retInt (i : Int)
      pure (ForInStep.done (some __do_lift, ()))
     else pure (ForInStep.yield (none, ()))
   | x => pure (ForInStep.yield (none, ())))) Q E s
 | 0, i, hk, hi => by
  have h1 := (List.getElem?_eq_some_iff.mp hj).1
  have h2 := Vals.length r
  rw [List.length_map] at h2
  omega
 | k + 1, i, hk, hi => by
  rw [List.range'_succ, List.forIn_cons]
  have h2 := Vals.length r
  rw [List.length_map] at h2
  obtain ⟨z, hz⟩ : ∃ z, ss[i]? = some z := ⟨_, List.getElem?_eq_getElem (by omega)⟩
  obtain ⟨y, hy, ry⟩ := Vals.get r (show (ss.map V.str)[i]? = some (.str z) by rw [List.getElem?_map, hz]; rfl)
  obtain ⟨ty, rfl⟩ := ry
  have hy' : its.toArray[i]? = some (Value.str z ty) := by rw [List.getElem?_toArray]; exact hy
  refine wpAny_bind ?_
  rw [hy']
  refine wpAny_bind (SeqAt.EqAt.str_str z ty t tt P w E _ ?_)
  by_cases e : i = j
  ·subst e
   have : z = t := Option.some.inj (hz.symm.trans hj)
   subst this
   rw [show (z == z) = true from beq_self_eq_true z]
   refine wpAny_bind ?_
   unfold retInt
   refine wpAny_bind (wpAny_mkInt ?_)
   exact wpAny_pure (wpAny_pure (wpAny_pure hQ))
  ·have hne : z ≠ t := fun q => hlt i (by omega) (by rw [hz, q])
   rw [show (z == t) = false from beq_false_of_ne hne]
   refine wpAny_pure ?_
   exact idx_loop r hj hlt hQ k (i + 1) (by omega) (by omega)
end
section
variable {X : Cx}
def rTIndex (K : PySem.W.Frag) : V → List V → Hp → VK → Prop := fun x vs H Q => ∃ (p : Addr) (ss : List Str) (t : Str) (j : Nat), x = .ref p ∧ vs = [.str t] ∧ SqT K H p (ss.map V.str) ∧ ss[j]? = some t ∧ (∀ i, i < j → ss[i]? ≠ some t) ∧ Q (.int (j : Nat)) H
theorem mt_tindex (K : PySem.W.Frag) (hK : X.K = K := by rfl) : MtM X "tuple.index" (rTIndex K) := by
 subst hK
 intro pins s σ H x vs v us Q I rx rv h
 obtain ⟨p, ss, t, j, rfl, rfl, hq, hj, hlt, q⟩ := h
 cases rx
 obtain ⟨u, rfl, ru⟩ := rv.one
 obtain ⟨tt, rfl⟩ := ru
 obtain ⟨its, r, pl, hz⟩ := I.tuple hq
 obtain ⟨o, ho, hcl, n, hd⟩ := pl
 refine wpAny_call_entry F.slot_tuple_index ⟨o, ho, hcl⟩ F.entry_tuple_index ?_ (F.args_tuple_index_2 _ _)
 obtain ⟨ocls, odict, odata, oslots⟩ := o
 simp only at hcl hd
 subst hcl hd
 unfold Builtin.«tuple.index» selfAndSome noKeywords Builtin.Tuple.tupleItemsOf
 simp only [Std.Legacy.Range.forIn_eq_forIn_range']
 wp_walk
 have hsz : [:min its.toArray.size its.toArray.size].size = its.length := by simp [Std.Legacy.Range.size]
 rw [hsz]
 refine idx_loop (P := X.prog) (w := X.w) (A := X.A.in1) (E := X.xe) (s := s) (tt := tt) r hj hlt ?_ its.length 0 (by omega) (Nat.zero_le _)
 exact wpAny_pure ⟨_, rfl, .int (j : Nat), H, I.tok _, ⟨_, rfl⟩, q⟩
end
section
variable {P : Program} {w : World} {A : Around} {E : Value → Shared → Prop} {s : Shared}
theorem set_of_textsT {l : Addr} {its : Array Value} {xs : List Str} {Q : Value → Shared → Prop} (hh : A.handled = none) (hl : s.heap.IsTuple l its) (hi : StrsAre its.toList xs) (hb : its.size + 1 < scanBound)
  (h : ∀ (h' : Heap) (tk : Nat) es ep t ks, SetS P w h' s.heap.objs.size es ep t ks → (∀ y, y ∈ ks ↔ y ∈ xs) → ks.length ≤ its.size → (∀ b o, b < s.heap.objs.size → s.heap.get? b = some o → h'.get? b = some o) → Q (.ref s.heap.objs.size) { s with heap := h', toks := tk }) :
  wpAny (model P w) A (call (.type "set") [.ref l]) Q E s := by
 obtain ⟨c, tl, hmro⟩ := PySem.F.called_set.mro
 have hmade := PySem.F.called_set.made
 have hsub := PySem.F.called_set.sub
 refine wpAny_call (codeAny_of_tree ?_)
 show wpAny _ _ (callAny (.type "set") _) _ _ _
 refine wpAny_pure ⟨Code.quiet_builtin _ (by decide +kernel), codeAny_builtin PySem.F.entry_type_call ?_⟩
 rw [Around.under_plain (weight_type_call_type "set" [.ref l] []) rfl]
 have a1 := PySem.F.called_set.notType
 have a2 := PySem.F.called_set.canCreate
 have a3 := PySem.F.typeCall_set_1 (.ref l)
 repeat (any_goals (first | assumption | wp_step))
 refine codeAny_mono (set_born (.ref l) (E := E) (Q := fun obj s₁ => obj = .ref s.heap.objs.size ∧ s₁ = { s with heap := s.heap.push (emptySet w) }) ⟨rfl, rfl⟩) fun r s₁ hr => ?_
 cases r with
 | error e => exact hr
 | ok fl =>
  cases fl with
  | ret obj =>
   obtain ⟨rfl, rfl⟩ := hr
   have gS : (s.heap.push (emptySet w)).get? s.heap.objs.size = some (emptySet w) := Heap.get?_push_size _ rfl
   have hT : Shared.TypeIs { s with heap := s.heap.push (emptySet w) } (.ref s.heap.objs.size) "set" := ⟨_, gS, rfl⟩
   have a4 := PySem.F.called_set.init.lookup
   have a5 := PySem.F.called_set.init.bind (.ref s.heap.objs.size)
   repeat (any_goals (first | assumption | wp_step))
   refine codeAny_mono (codeAny_call_builtin (R := wants (fun r s₂ => r = .none ∧ ∃ h' tk es ep t ks, s₂ = { s with heap := h', toks := tk } ∧ SetS P w h' s.heap.objs.size es ep t ks ∧ (∀ y, y ∈ ks ↔ y ∈ xs) ∧ ks.length ≤ its.size ∧
     (∀ b o, b < s.heap.objs.size → s.heap.get? b = some o → h'.get? b = some o)) E) PySem.F.called_set.init.plain PySem.F.entry_set_init (check_set_init_1 hT ?_)) fun r₂ s₂ hr₂ => ?_
   ·obtain ⟨ol, hol, hcl, nl, hdl⟩ := hl
    obtain ⟨ocls, odict, odata, oslots⟩ := ol
    simp only at hcl hdl
    subst hcl hdl
    have hol' : (s.heap.push (emptySet w)).get? l = some { cls := .type "tuple", dict := odict, data := .seq its nl, slots := oslots } := Heap.get?_push_of_some _ hol
    have b1 := PySem.F.sub_tuple_set
    have b2 := PySem.F.sub_tuple_frozenset
    have b3 : (Value.type "tuple" == Value.type "dict") = false := by decide
    have hl1 : (s.heap.push (emptySet w)).IsTuple l its := ⟨_, hol', rfl, nl, rfl⟩
    unfold Builtin.«set.__init__» noKeywords Builtin.Frozenset.updateFrom
    generalize hPI : pyIter = PI
    wp_walk
    subst hPI
    refine wpAny_pyIter_tuple hl1 ?_
    refine wpAny_bind (wpAny_runValue ?_)
    have lS : l < s.heap.objs.size := Heap.lt_size hol
    have hh3 : A.in1.in1.in1.handled = none := by simp [hh]
    have neI : l ≠ (s.heap.push (emptySet w)).objs.size := by rw [Heap.size_push]; exact Nat.ne_of_lt (Nat.lt_succ_of_lt lS)
    have nf : s.heap.objs.size ∉ [(s.heap.push (emptySet w)).objs.size, l] := by
     rw [Heap.size_push]
     simp only [List.mem_cons, List.not_mem_nil, or_false, not_or]
     exact ⟨Nat.ne_of_lt (Nat.lt_succ_self _), Nat.ne_of_gt lS⟩
    have hxl : xs.length = its.size := by rw [← hi.length, Array.length_toList]
    have hval : ∀ (i : Nat) (v : Value), its[i]? = some v → ∃ x t, xs[i]? = some x ∧ v = .str x t := fun i v hv => strs_at hi i v (by rw [Array.getElem?_toList]; exact hv)
    refine set_loop ((Walks.tuple hh3 _ l neI its).toS) nf xs hxl hval hb (its.size - 0) 0 _ #[] 0 _ [] (by omega) (Nat.zero_le _) ⟨⟨_, Heap.get?_push_size _ rfl, rfl, rfl⟩, hl1.push _⟩ ((fresh_set s.heap).at fun o q => Heap.get?_push_of_some _ q) (fun y => by simp) (Nat.le_refl _) ?hR
    case hR =>
     intro s' es' ep' t' ks' hm hS' hmem hlen
     obtain ⟨h', g', d', tk', os'⟩ := s'
     have eg : g' = s.gens := hm.gens
     have ed : d' = s.drawn := hm.drawn
     have eo : os' = s.os := hm.os
     subst eg ed eo
     show wpAny _ _ _ _ _ _
     refine wpAny_pure ?_
     show wpAny _ _ (ret Value.none) _ _ _
     refine wpAny_pure ⟨rfl, h', tk', es', ep', t', ks', rfl, hS', hmem, hlen, fun b o hb e => ?_⟩
     refine hm.heap b o ?_ (Heap.get?_push_of_some _ (Heap.get?_push_of_some _ e))
     simp only [List.mem_cons, List.not_mem_nil, or_false, not_or]
     rw [Heap.size_push]
     exact ⟨Nat.ne_of_lt hb, Nat.ne_of_lt (Nat.lt_succ_of_lt hb)⟩
   ·cases r₂ with
    | error e => exact hr₂
    | ok fl₂ =>
     cases fl₂ with
     | ret r =>
      obtain ⟨rfl, h', tk, es, ep, t, ks, rfl, hS', hm, hln, hk'⟩ := hr₂
      repeat (any_goals (first | assumption | wp_step))
      exact h _ _ _ _ _ _ hS' hm hln hk'
     | _ => exact hr₂.elim
  | _ => exact hr.elim
end
section
variable {X : Cx}
def rSetT (X : Cx) : List V → Hp → VK → Prop := fun xs H Q => ∃ (l : Addr) (ss : List Str), xs = [.ref l] ∧ SqT X.K H l (ss.map V.str) ∧ ss.length + 1 < scanBound ∧
 ∀ (p : Addr) (ks : List Str), H p = none → ks.Nodup → (∀ y, y ∈ ks ↔ y ∈ ss) → ks.length ≤ ss.length → Q (.ref p) (upd H p (SetO X.prog X.w p ks))
theorem call_setTT (hc : X.calm = true) : CallR X (.type "set") (rSetT X) := by
 intro pins s σ H xs us Q I r h
 obtain ⟨l, ss, rfl, hq, hb, q⟩ := h
 obtain ⟨u, rfl, ru⟩ := vals1 r
 cases ru
 obtain ⟨its, rv, p, _⟩ := I.tuple hq
 have hl := rv.length
 rw [List.length_map] at hl
 refine set_of_textsT (I.ok.hd hc) p (strsAre_of rv) (by simp; omega) fun h' tk es ep t ks S hm hlen kp => ?_
 have k' : ∀ b o, s.heap.get? b = some o → h'.get? b = some o := fun b o e => kp b o (Heap.lt_size e) e
 have hp : s.heap.objs.size ≤ s.heap.objs.size := Nat.le_refl _
 have I2 := I.laid (a := s.heap.objs.size) (o := SetO X.prog X.w s.heap.objs.size ks) (t' := tk) k' hp ⟨⟨es, ep, t, ks, S, .refl _⟩, (let ⟨o, e, _⟩ := S.obj; ⟨o, e⟩), fun h1 h2 ⟨es1, ep1, t1, ks1, S1, p1⟩ k2 => ⟨es1, ep1, t1, ks1, S1.at k2, p1⟩⟩
 exact ⟨.ref s.heap.objs.size, _, I2, rfl, q _ ks (I.hok.fresh hp) S.once hm (by simp at hlen; omega)⟩
end
section
variable {X : Cx} {o e : Expr} {es : List Expr} {apos cpos : Pos} {name : Str} {id : String} {r : V → List V → Hp → VK → Prop} {to : TE} {t : TA}
def tBMT (r : V → List V → Hp → VK → Prop) (to : TE) (t : TA) : TE := fun σ H Q => to σ H fun x H1 => (∃ p xs, x = .ref p ∧ H1 p = some (.tup xs)) ∧ t σ H1 fun vs H2 => r x vs H2 Q
theorem pe_bmT (pa : PlainAttrs "tuple") (slot : Slot "tuple" name id) (hty : typeOf (.builtin id) = pure (.type "method_descriptor")) (hm : MtM X id r) (ho : PE X o to) (ha : PA X (e :: es) t)
  (hbase : attributeBase o name X.env (eval o X.env) = eval o X.env := by rfl)
  (hfew : ((backTo cpos (starEach (e :: es) X.env)).all (fun x => !x.1) && (backToKw cpos (keywordEach [] X.env)).all (fun x => x.1.isSome)
   && decide ((e :: es).length + ([] : List Keyword).length + (if ([] : List Keyword).isEmpty then 0 else 1) < 30)) = true := by rfl)
  (hline : (apos.endLine == cpos.line) = true := by rfl) (hs : starEach (e :: es) X.env = (false, eval e X.env) :: starEach es X.env := by rfl) (hplain : (backTo cpos (starEach es X.env)).any (·.1) = false := by rfl) :
  PE X (.Call (.Attribute o name apos) (e :: es) [] cpos) (tBMT r to t) := by
 intro pins s σ H Q I h
 refine wpAny_Call_method_late hbase hfew hline rfl (thn (ho pins s σ H _ I h) ?_)
 rintro v s1 ⟨x, H1, I1, r1, ⟨p, xs, ex, ep⟩, q1⟩
 subst ex
 obtain rfl : v = Value.ref p := r1
 obtain ⟨⟨_, o2, e2, d2⟩, its, _, ob, e1, c1, _⟩ := (show ObjOk X.prog X.w H1 s1.heap p (.tup xs) from I1.hok p _ ep)
 have h1 : s1.TypeIs (.ref p) "tuple" := ⟨ob, e1, c1⟩
 have h2 : ∀ a, Value.ref p = .ref a → ∃ ob, s1.heap.get? a = some ob ∧ ob.dict = none := fun a ea => by cases ea; exact ⟨o2, e2, d2⟩
 refine ⟨"tuple", id, pa, slot, hty, h1, h2, ?_⟩
 have hA := ha cpos pins s1 σ H1 _ I1 q1
 rw [hs] at hA ⊢
 refine Calls.callWith_builtin (by show (false || (backTo cpos (starEach es X.env)).any (·.1)) = false; rw [hplain] <;> rfl) (Calls.evalArgs_plain ?_)
 refine thn hA ?_
 rintro us s2 ⟨vs, H2, I2, r2, q2⟩
 exact hm pins s2 σ H2 (.ref p) vs (.ref p) us Q I2 rfl r2 q2
end
theorem mem_lk {α β : Type} [BEq α] [LawfulBEq α] : ∀ {l : List (α × β)} {a : α} {b : β}, l.lookup a = some b → (a, b) ∈ l
 | (x, y) :: l, a, b, h => by
  rw [List.lookup_cons] at h
  by_cases e : a = x
  ·subst e
   rw [beq_self_eq_true] at h
   cases h
   exact List.mem_cons_self
  ·rw [show (a == x) = false from beq_false_of_ne e] at h
   exact List.mem_cons_of_mem _ (mem_lk h)
structure Cap (X : Cx) (σ : St) (l : List (Nat × Str × Addr × V)) : Prop where
 at' : ∀ q ∈ l, X.N[q.1]? = some q.2.1 ∧ σ[q.1]? = some (some q.2.2.2) ∧ X.env.scope.names.lookup q.2.1 = some .cell ∧ X.env.cells.lookup q.2.1 = some q.2.2.1
 nd : (l.map (·.2.1)).Nodup
def capC (l : List (Nat × Str × Addr × V)) : List (Addr × V) := l.map fun q => (q.2.2.1, q.2.2.2)
theorem Cap.cells {X : Cx} {σ : St} {l : List (Nat × Str × Addr × V)} (C : Cap X σ l) : CellsOf X σ (capC l) := fun c v h => by
 obtain ⟨q, hq, e⟩ := List.mem_map.mp (show (c, v) ∈ capC l from mem_lk h)
 cases e
 obtain ⟨h1, h2, h3, h4⟩ := C.at' q hq
 exact ⟨q.1, q.2.1, h1, h2, h3, h4⟩
theorem lookup_some_of {α β : Type} [BEq α] [LawfulBEq α] : ∀ {l : List (α × β)} {a : α} {b : β}, (a, b) ∈ l → ∃ b', l.lookup a = some b'
 | (x, y) :: l, a, b, h => by
  rw [List.lookup_cons]
  by_cases e : a = x
  ·subst e; rw [beq_self_eq_true]; exact ⟨y, rfl⟩
  ·rw [show (a == x) = false from beq_false_of_ne e]
   rcases List.mem_cons.mp h with z | z
   ·cases z; exact absurd rfl e
   ·exact lookup_some_of z
theorem nd_name : ∀ {l : List (Nat × Str × Addr × V)}, (l.map (·.2.1)).Nodup → ∀ q ∈ l, ∀ p ∈ l, q.2.1 = p.2.1 → q = p
 | [], _ => fun _ h => by cases h
 | x :: l, nd => fun q hq p hp e => by
  rw [List.map_cons, List.nodup_cons] at nd
  rcases List.mem_cons.mp hq with z | z
  ·rcases List.mem_cons.mp hp with y | y
   ·rw [z, y]
   ·exact absurd (List.mem_map.mpr ⟨p, y, by rw [← e, z]⟩) nd.1
  ·rcases List.mem_cons.mp hp with y | y
   ·exact absurd (List.mem_map.mpr ⟨q, z, by rw [e, y]⟩) nd.1
   ·exact nd_name nd.2 q z p y e
theorem Cap.look {X : Cx} {σ : St} {l : List (Nat × Str × Addr × V)} (C : Cap X σ l) (inj : ∀ x y c, X.env.cells.lookup x = some c → X.env.cells.lookup y = some c → x = y) {q : Nat × Str × Addr × V} (hq : q ∈ l) : (capC l).lookup q.2.2.1 = some q.2.2.2 := by
 obtain ⟨v, hv⟩ := lookup_some_of (l := capC l) (List.mem_map.mpr ⟨q, hq, rfl⟩)
 obtain ⟨p, hp, e⟩ := List.mem_map.mp (show (q.2.2.1, v) ∈ capC l from mem_lk hv)
 injection e with e1 e2
 have := nd_name C.nd q hq p hp (inj _ _ _ (C.at' q hq).2.2.2 (by rw [← e1]; exact (C.at' p hp).2.2.2))
 rw [hv, ← e2, this]
theorem Cap.got {X : Cx} {σ : St} {l : List (Nat × Str × Addr × V)} (C : Cap X σ l) (inj : ∀ x y c, X.env.cells.lookup x = some c → X.env.cells.lookup y = some c → x = y) (H : Hp) {q : Nat × Str × Addr × V} (hq : q ∈ l) : addC (capC l) H q.2.2.1 = some (cellO q.2.2.1 q.2.2.2) := addC_in (C.look inj hq)
theorem apart1 (p : Pos × Str) : Apart [p] := fun a ha b hb _ _ => by rw [List.mem_singleton.mp ha, List.mem_singleton.mp hb]
section
variable {X : Cx}
def rMinL (K : PySem.W.Frag) : List V → Hp → VK → Prop := fun xs H Q => ∃ (a : Addr) (ns : List Int), xs = [.ref a] ∧ SqL K H a (ns.map V.int) ∧ ns ≠ [] ∧ ∀ m : Int, m ∈ ns → (∀ x ∈ ns, m ≤ x) → Q (.int m) H
theorem call_minL (K : PySem.W.Frag) (hc : X.calm = true) (hK : X.K = K := by rfl) : CallR X (.builtin "min") (rMinL K) := by
 subst hK
 intro pins s σ H xs us Q I r h
 obtain ⟨a, ns, rfl, hq, hne, q⟩ := h
 obtain ⟨u, rfl, ru⟩ := vals1 r
 cases ru
 obtain ⟨its, rv, p, _⟩ := I.list hq
 have hi : IntsAre its ns := intsAre_of rv
 obtain ⟨xs, e⟩ := hi.allInts.items
 have hns : ns = xs.toList.map (·.1) := by rw [← hi.numsOf, ← nums_intItems, ← e]
 have hsz : 0 < xs.size := by
  rcases Nat.eq_zero_or_pos xs.size with z | z
  ·have : xs.toList = [] := List.eq_nil_of_length_eq_zero (by rw [Array.length_toList]; exact z)
   exact absurd (by rw [hns, this]; rfl) hne
  ·exact z
 have hl := p.isList
 rw [e] at hl
 refine min_intList (I.ok.hd hc) hl hsz fun v h' tk hv hk => ?_
 obtain ⟨t, rfl⟩ := intItems_at hv
 obtain ⟨h1, h2⟩ := argBest_lt (numAt xs) (xs.size - 1)
 have na : ∀ j, j < xs.size → ns[j]? = some (numAt xs j) := fun j hj => by
  rw [hns, List.getElem?_map, Array.getElem?_toList, numAt, Array.getElem?_eq_getElem hj]
  rfl
 refine ⟨.int _, H, I.kept hk, ⟨t, rfl⟩, q _ (List.mem_of_getElem? (na _ (by omega))) fun x hx => ?_⟩
 obtain ⟨i, hi'⟩ := List.getElem?_of_mem hx
 have hlt : i < xs.size := by
  have := (List.getElem?_eq_some_iff.mp hi').1
  rw [hns, List.length_map, Array.length_toList] at this
  exact this
 rw [na i hlt] at hi'
 have e3 := Option.some.inj hi'
 rw [← e3]
 exact h2 i (by omega)
end
abbrev IsZipF (h : Heap) (z TI TO : Addr) (f0 : Value) (fl : Bool) : Prop := h.get? z = some { cls := .type "zip", dict := none, data := .fields #[f0, .bool fl, .bool false, .ref TI, .ref TO], slots := #[] }
section
variable {prog : Program} {w : World} {A : Around} {E : Value → Shared → Prop} {s : Shared}
theorem zipP_free {z TI TO i1 i2 l1 l2 : Addr} {k : Nat} {f0 : Value} {fl : Bool} {xs ys : Array Value} {x y a b : Value} {Q : Value → Shared → Prop} (D : ZipApart z TI TO i1 i2 l1 l2) (gz : IsZipF s.heap z TI TO f0 fl) (hfree : ∀ Q' : Bool → Shared → Prop, Q' true s → wpAny (model prog w) A (Builtin.SmallTypes.ownedTupleIsFree (.ref z)) Q' E s) (gI : IsPair s.heap TI (.ref i1) (.ref i2)) (gO : IsPair s.heap TO a b)
  (g1 : s.heap.IsTupleIter i1 l1 k) (g2 : s.heap.IsTupleIter i2 l2 k) (m1 : s.heap.IsTuple l1 xs) (m2 : s.heap.IsTuple l2 ys) (ex : xs[k]? = some x) (ey : ys[k]? = some y)
  (q : ∀ h', IsZip h' z TI TO (rawInt s.heap.objs.size) → IsPair h' TO x y → h'.IsTupleIter i1 l1 (k + 1) → h'.IsTupleIter i2 l2 (k + 1) → IsPair h' s.heap.objs.size x y → h'.objs.size = s.heap.objs.size + 1 →
   (∀ c o, c ≠ z → c ≠ TO → c ≠ i1 → c ≠ i2 → s.heap.get? c = some o → h'.get? c = some o) → Q (.ref s.heap.objs.size) { s with heap := h' }) :
  wpAny (model prog w) A (Builtin.«zip.__next__» ⟨[.ref z], []⟩) (fun fin s' => ∃ v, fin = .done (.ret v) ∧ Q v s') E s := by
 show wpAny _ _ (field (.ref z) 2 >>= _) _ _ _; refine wpAny_bind (wpAny_field gz rfl (x := .bool false) rfl ?_)
 show wpAny _ _ (field (.ref z) 3 >>= _) _ _ _; refine wpAny_bind (wpAny_field gz rfl (x := .ref TI) rfl ?_); refine wpAny_bind (wpAny_seqItems gI rfl ?_)
 show wpAny _ _ (Builtin.SmallTypes.ownedTupleIsFree (.ref z) >>= _) _ _ _; refine wpAny_bind (hfree _ ?_); simp only [if_true]; refine wpAny_bind (wpAny_rule ?_)
 refine wpAny_bind (wpAny_field gz rfl (x := .ref TO) rfl ?_); refine wpAny_bind (wpAny_setField_rec gz (by simp) fun h1 z1 s1 => ?_)
 replace z1 : IsZipF h1 z TI TO .ellipsis fl := z1
 refine wpAny_bind ?_; simp only [List.zipIdx_cons, List.zipIdx_nil, List.forIn_cons, List.forIn_nil]; refine wpAny_bind (wpAny_bind (wpAny_onRaise ?_))
 show wpAny _ _ (Builtin.SmallTypes.nextOf (.ref i1) >>= _) _ _ _; refine wpAny_bind (nextOf_tupI (tupIter_but g1 s1.extBut D.i1z) (isTup_but m1 s1.extBut D.l1z) ex fun h2 it2 s2 => wpAny_pure ?_)
 have O2 : IsPair h2 TO a b := s2.extBut _ _ D.TOi1 (s1.extBut _ _ D.TOz gO)
 refine wpAny_bind (wpAny_seqItems O2 rfl ?_); refine wpAny_bind (wpAny_updateSeq_pair O2 fun h3 O3 s3 => ?_)
 replace O3 : IsPair h3 TO x b := O3
 refine wpAny_bind (wpAny_letGo (wpAny_pure ?_)); refine wpAny_bind (wpAny_bind (wpAny_onRaise ?_))
 show wpAny _ _ (Builtin.SmallTypes.nextOf (.ref i2) >>= _) _ _ _; refine wpAny_bind (nextOf_tupI (tupIter_but (tupIter_but (tupIter_but g2 s1.extBut D.i2z) s2.extBut D.i12.symm) s3.extBut D.TOi2.symm) (isTup_but (isTup_but (isTup_but m2 s1.extBut D.l2z) s2.extBut D.l2i1) s3.extBut D.l2TO) ey fun h4 it4 s4 => wpAny_pure ?_)
 have O4 : IsPair h4 TO x b := s4.extBut _ _ D.TOi2 O3
 refine wpAny_bind (wpAny_seqItems O4 rfl ?_); refine wpAny_bind (wpAny_updateSeq_pair O4 fun h5 O5 s5 => ?_)
 replace O5 : IsPair h5 TO x y := O5
 refine wpAny_bind (wpAny_letGo (wpAny_pure (wpAny_pure ?_))); refine wpAny_bind (wpAny_seqItems O5 rfl ?_); refine wpAny_bind (wpAny_newTuple ?_)
 have sz : h5.objs.size = s.heap.objs.size := by rw [s5.1, s4.1, s3.1, s2.1, s1.1]
 have z5 : IsZipF h5 z TI TO .ellipsis fl := s5.extBut _ _ D.TOz.symm (s4.extBut _ _ D.i2z.symm (s3.extBut _ _ D.TOz.symm (s2.extBut _ _ D.i1z.symm z1)))
 have k5 : ∀ c o, c ≠ z → c ≠ TO → c ≠ i1 → c ≠ i2 → s.heap.get? c = some o → h5.get? c = some o := fun c o c1 c2 c3 c4 e => s5.extBut _ _ c2 (s4.extBut _ _ c4 (s3.extBut _ _ c2 (s2.extBut _ _ c3 (s1.extBut _ _ c1 e))))
 have a5 : h5.IsTupleIter i1 l1 (k + 1) := tupIter_but (tupIter_but (tupIter_but it2 s3.extBut D.TOi1.symm) s4.extBut D.i12) s5.extBut D.TOi1.symm
 have b5 : h5.IsTupleIter i2 l2 (k + 1) := tupIter_but it4 s5.extBut D.TOi2.symm
 have zlt : z < h5.objs.size := Heap.lt_size z5
 show wpAny _ _ (Builtin.SmallTypes.ownedTupleHandOut (.ref z) (.ref h5.objs.size) >>= _) _ _ _
 refine wpAny_bind ?_; unfold Builtin.SmallTypes.ownedTupleHandOut
 have z6 : IsZipF (h5.push { cls := .type "tuple", data := .seq #[x, y] }) z TI TO .ellipsis fl := Heap.get?_push_of_some _ z5
 refine wpAny_bind (wpAny_setField_rec z6 (by simp) fun h7 z7 s7 => ?_)
 replace z7 : IsZipF h7 z TI TO (rawInt h5.objs.size) fl := z7
 refine wpAny_setField_rec z7 (by simp) fun h8 z8 s8 => ?_
 replace z8 : IsZip h8 z TI TO (rawInt h5.objs.size) := z8
 have up : ∀ c o, c ≠ z → h5.get? c = some o → h8.get? c = some o := fun c o c1 e => s8.extBut _ _ c1 (s7.extBut _ _ c1 (Heap.get?_push_of_some _ e))
 have T8 : IsPair h8 h5.objs.size x y := s8.extBut _ _ (Nat.ne_of_gt zlt) (s7.extBut _ _ (Nat.ne_of_gt zlt) (Heap.get?_push_size _ rfl))
 have e8 : h8.objs.size = h5.objs.size + 1 := by rw [s8.1, s7.1, Heap.size_push]
 rw [sz] at z8 T8 e8
 refine wpAny_pure ⟨_, rfl, ?_⟩; show Q (.ref h5.objs.size) _; rw [sz]
 exact q h8 z8 (up _ _ D.TOz O5) (let ⟨o, ho, r⟩ := a5; ⟨o, up _ _ D.i1z ho, r⟩) (let ⟨o, ho, r⟩ := b5; ⟨o, up _ _ D.i2z ho, r⟩) T8 e8 fun c o c1 c2 c3 c4 e => up c o c1 (k5 c o c1 c2 c3 c4 e)
theorem zipP_freeE {z TI TO i1 i2 l1 l2 : Addr} {k : Nat} {f0 : Value} {fl : Bool} {xs ys : Array Value} {a b : Value} {Q : Fin → Shared → Prop} (hh : A.handled = none) (D : ZipApart z TI TO i1 i2 l1 l2) (gz : IsZipF s.heap z TI TO f0 fl) (hfree : ∀ Q' : Bool → Shared → Prop, Q' true s → wpAny (model prog w) A (Builtin.SmallTypes.ownedTupleIsFree (.ref z)) Q' E s) (gI : IsPair s.heap TI (.ref i1) (.ref i2)) (gO : IsPair s.heap TO a b)
  (g1 : s.heap.IsTupleIter i1 l1 k) (g2 : s.heap.IsTupleIter i2 l2 k) (m1 : s.heap.IsTuple l1 xs) (m2 : s.heap.IsTuple l2 ys) (ex : xs[k]? = none)
  (q : ∀ h' e, (∀ c o, c ≠ z → c ≠ TO → c ≠ i1 → c ≠ i2 → s.heap.get? c = some o → h'.get? c = some o) → (∃ o, h'.get? e = some o ∧ o.cls = .type "StopIteration") → E (.ref e) { s with heap := h' }) :
  wpAny (model prog w) A (Builtin.«zip.__next__» ⟨[.ref z], []⟩) Q E s := by
 show wpAny _ _ (field (.ref z) 2 >>= _) _ _ _; refine wpAny_bind (wpAny_field gz rfl (x := .bool false) rfl ?_)
 show wpAny _ _ (field (.ref z) 3 >>= _) _ _ _; refine wpAny_bind (wpAny_field gz rfl (x := .ref TI) rfl ?_); refine wpAny_bind (wpAny_seqItems gI rfl ?_)
 show wpAny _ _ (Builtin.SmallTypes.ownedTupleIsFree (.ref z) >>= _) _ _ _; refine wpAny_bind (hfree _ ?_); simp only [if_true]; refine wpAny_bind (wpAny_rule ?_)
 refine wpAny_bind (wpAny_field gz rfl (x := .ref TO) rfl ?_); refine wpAny_bind (wpAny_setField_rec gz (by simp) fun h1 z1 s1 => ?_)
 replace z1 : IsZipF h1 z TI TO .ellipsis fl := z1
 refine wpAny_bind ?_; simp only [List.zipIdx_cons, List.zipIdx_nil, List.forIn_cons, List.forIn_nil]; refine wpAny_bind (wpAny_bind (wpAny_onRaise ?_))
 show wpAny _ _ (Builtin.SmallTypes.nextOf (.ref i1) >>= _) _ _ _; refine wpAny_bind (nextOf_tupE hh (tupIter_but g1 s1.extBut D.i1z) (isTup_but m1 s1.extBut D.l1z) ex fun h2 e s2 he => ?_)
 obtain ⟨oe, hoe, hce⟩ := he
 have z2 : IsZipF h2 z TI TO .ellipsis fl := s2 _ _ D.i1z.symm z1
 have nez : e ≠ z := fun x => by subst x; rw [z2] at hoe; cases hoe; simp at hce
 refine wpAny_setField_rec z2 (by simp) fun h3 _ s3 => q h3 e (fun c o c1 _ c3 _ x => s3.extBut _ _ c1 (s2 _ _ c3 (s1.extBut _ _ c1 x))) ⟨oe, s3.extBut _ _ nez hoe, hce⟩
theorem own_busy {z TI TO p : Addr} {fl : Bool} {op : Obj} (gz : IsZipF s.heap z TI TO (rawInt p) fl) (gp : s.heap.get? p = some op) :
  wpAny (model prog w) A (Builtin.SmallTypes.ownedTupleIsFree (.ref z)) (fun r s' => r = false ∧ ∃ h0, s' = { s with heap := h0 } ∧ IsZipF h0 z TI TO (rawInt p) true ∧ Heap.SameBut z s.heap h0) E s := by
 unfold Builtin.SmallTypes.ownedTupleIsFree
 refine wpAny_bind (wpAny_field gz rfl (x := rawInt p) rfl ?_)
 show wpAny _ _ (loadIfAlive ((p : Int).toNat) >>= _) _ _ _
 rw [Int.toNat_natCast]
 refine wpAny_bind (PySem.W.kdx_alive gp ?_)
 simp only [Option.isNone_some, Bool.false_eq_true, if_false]
 refine wpAny_bind (wpAny_field gz rfl (x := .bool fl) rfl ?_)
 cases fl with
 | true =>
  rw [if_neg (show ¬ ((Value.bool true != Value.bool true) = true) from Bool.false_ne_true)]
  exact wpAny_pure ⟨rfl, s.heap, rfl, gz, Heap.SameBut.refl _ _⟩
 | false =>
  rw [if_pos (show (Value.bool false != Value.bool true) = true from rfl)]
  refine wpAny_bind (wpAny_setField_rec gz (by simp) fun h₃ he₃ hs₃ => ?_)
  exact wpAny_pure ⟨rfl, h₃, rfl, he₃, hs₃⟩
theorem own_dead {z TI TO p : Addr} {fl : Bool} (gz : IsZipF s.heap z TI TO (rawInt p) fl) (gp : s.heap.get? p = none) (Q' : Bool → Shared → Prop) (h : Q' true s) : wpAny (model prog w) A (Builtin.SmallTypes.ownedTupleIsFree (.ref z)) Q' E s := by
 unfold Builtin.SmallTypes.ownedTupleIsFree
 refine wpAny_bind (wpAny_field gz rfl (x := rawInt p) rfl ?_)
 show wpAny _ _ (loadIfAlive ((p : Int).toNat) >>= _) _ _ _
 rw [Int.toNat_natCast]
 refine wpAny_bind ?_
 have al : ∀ Q : Option Obj → Shared → Prop, Q none s → wpAny (model prog w) A (loadIfAlive p) Q E s := fun Q h => by
  have h' : Q (s.heap.get? p) s := by rw [gp]; exact h
  exact fun _ _ _ => h'
 refine al _ ?_
 exact wpAny_pure h
theorem own_none {z TI TO : Addr} {fl : Bool} (gz : IsZipF s.heap z TI TO .none fl) (Q' : Bool → Shared → Prop) (h : Q' true s) : wpAny (model prog w) A (Builtin.SmallTypes.ownedTupleIsFree (.ref z)) Q' E s := by
 unfold Builtin.SmallTypes.ownedTupleIsFree
 refine wpAny_bind (wpAny_field gz rfl (x := .none) rfl (wpAny_pure h))
theorem zipP_busy {z TI TO i1 i2 l1 l2 p : Addr} {k : Nat} {fl : Bool} {op : Obj} {xs ys : Array Value} {x y a b : Value} {Q : Value → Shared → Prop} (D : ZipApart z TI TO i1 i2 l1 l2) (gz : IsZipF s.heap z TI TO (rawInt p) fl) (gp : s.heap.get? p = some op) (gI : IsPair s.heap TI (.ref i1) (.ref i2)) (gO : IsPair s.heap TO a b)
  (g1 : s.heap.IsTupleIter i1 l1 k) (g2 : s.heap.IsTupleIter i2 l2 k) (m1 : s.heap.IsTuple l1 xs) (m2 : s.heap.IsTuple l2 ys) (ex : xs[k]? = some x) (ey : ys[k]? = some y)
  (q : ∀ h', IsZipF h' z TI TO (rawInt p) true → IsPair h' TO a b → h'.IsTupleIter i1 l1 (k + 1) → h'.IsTupleIter i2 l2 (k + 1) → IsPair h' s.heap.objs.size x y → h'.objs.size = s.heap.objs.size + 1 →
   (∀ c o, c ≠ z → c ≠ TO → c ≠ i1 → c ≠ i2 → s.heap.get? c = some o → h'.get? c = some o) → Q (.ref s.heap.objs.size) { s with heap := h' }) :
  wpAny (model prog w) A (Builtin.«zip.__next__» ⟨[.ref z], []⟩) (fun fin s' => ∃ v, fin = .done (.ret v) ∧ Q v s') E s := by
 show wpAny _ _ (field (.ref z) 2 >>= _) _ _ _; refine wpAny_bind (wpAny_field gz rfl (x := .bool false) rfl ?_)
 show wpAny _ _ (field (.ref z) 3 >>= _) _ _ _; refine wpAny_bind (wpAny_field gz rfl (x := .ref TI) rfl ?_); refine wpAny_bind (wpAny_seqItems gI rfl ?_)
 show wpAny _ _ (Builtin.SmallTypes.ownedTupleIsFree (.ref z) >>= _) _ _ _
 refine wpAny_bind (wpAny_mono (own_busy gz gp) (fun r s' h => ?_) fun _ _ h => h)
 obtain ⟨rfl, h0, rfl, z0, sb⟩ := h
 simp only [Bool.false_eq_true, if_false, List.forIn_toArray, List.forIn_cons, List.forIn_nil]
 refine wpAny_bind (wpAny_bind (wpAny_bind (wpAny_holding ?_)))
 show wpAny _ _ (Builtin.SmallTypes.nextOf (.ref i1) >>= _) _ _ _
 refine wpAny_bind (nextOf_tupI (tupIter_but g1 sb.extBut D.i1z) (isTup_but m1 sb.extBut D.l1z) ex fun h2 it2 s2 => wpAny_pure (wpAny_pure ?_))
 refine wpAny_bind (wpAny_bind (wpAny_holding ?_))
 show wpAny _ _ (Builtin.SmallTypes.nextOf (.ref i2) >>= _) _ _ _
 refine wpAny_bind (nextOf_tupI (tupIter_but (tupIter_but g2 sb.extBut D.i2z) s2.extBut D.i12.symm) (isTup_but (isTup_but m2 sb.extBut D.l2z) s2.extBut D.l2i1) ey fun h3 it3 s3 => wpAny_pure (wpAny_pure (wpAny_pure ?_)))
 show wpAny _ _ (newTuple [x, y] >>= _) _ _ _
 refine wpAny_bind (wpAny_newTuple ?_)
 have sz : h3.objs.size = s.heap.objs.size := by rw [s3.1, s2.1, sb.1]
 refine wpAny_pure ⟨_, rfl, ?_⟩
 have up : ∀ c o, h3.get? c = some o → (h3.push { cls := .type "tuple", data := .seq #[x, y] }).get? c = some o := fun c o e => Heap.get?_push_of_some _ e
 show Q (.ref h3.objs.size) _
 have T8 : IsPair (h3.push { cls := .type "tuple", data := .seq #[x, y] }) h3.objs.size x y := Heap.get?_push_size _ rfl
 have a3 : h3.IsTupleIter i1 l1 (k + 1) := tupIter_but it2 s3.extBut D.i12
 rw [sz] at T8 ⊢
 exact q _ (up _ _ (s3.extBut _ _ D.i2z.symm (s2.extBut _ _ D.i1z.symm z0))) (up _ _ (s3.extBut _ _ D.TOi2 (s2.extBut _ _ D.TOi1 (sb.extBut _ _ D.TOz gO)))) (let ⟨o, ho, r⟩ := a3; ⟨o, up _ _ ho, r⟩) (let ⟨o, ho, r⟩ := it3; ⟨o, up _ _ ho, r⟩) T8 (by rw [Heap.size_push, sz]) fun c o c1 c2 c3 c4 e => up _ _ (s3.extBut _ _ c4 (s2.extBut _ _ c3 (sb.extBut _ _ c1 e)))
theorem zipP_busyE {z TI TO i1 i2 l1 l2 p : Addr} {k : Nat} {fl : Bool} {op : Obj} {xs ys : Array Value} {a b : Value} {Q : Fin → Shared → Prop} (hh : A.handled = none) (D : ZipApart z TI TO i1 i2 l1 l2) (gz : IsZipF s.heap z TI TO (rawInt p) fl) (gp : s.heap.get? p = some op) (gI : IsPair s.heap TI (.ref i1) (.ref i2))
  (g1 : s.heap.IsTupleIter i1 l1 k) (m1 : s.heap.IsTuple l1 xs) (ex : xs[k]? = none)
  (q : ∀ h' e, (∀ c o, c ≠ z → c ≠ TO → c ≠ i1 → c ≠ i2 → s.heap.get? c = some o → h'.get? c = some o) → (∃ o, h'.get? e = some o ∧ o.cls = .type "StopIteration") → E (.ref e) { s with heap := h' }) :
  wpAny (model prog w) A (Builtin.«zip.__next__» ⟨[.ref z], []⟩) Q E s := by
 show wpAny _ _ (field (.ref z) 2 >>= _) _ _ _; refine wpAny_bind (wpAny_field gz rfl (x := .bool false) rfl ?_)
 show wpAny _ _ (field (.ref z) 3 >>= _) _ _ _; refine wpAny_bind (wpAny_field gz rfl (x := .ref TI) rfl ?_); refine wpAny_bind (wpAny_seqItems gI rfl ?_)
 show wpAny _ _ (Builtin.SmallTypes.ownedTupleIsFree (.ref z) >>= _) _ _ _
 refine wpAny_bind (wpAny_mono (own_busy gz gp) (fun r s' h => ?_) fun _ _ h => h)
 obtain ⟨rfl, h0, rfl, z0, sb⟩ := h
 simp only [Bool.false_eq_true, if_false, List.forIn_toArray, List.forIn_cons, List.forIn_nil]
 refine wpAny_bind (wpAny_bind (wpAny_bind (wpAny_holding ?_)))
 show wpAny _ _ (Builtin.SmallTypes.nextOf (.ref i1) >>= _) _ _ _
 exact wpAny_bind (nextOf_tupE hh (tupIter_but g1 sb.extBut D.i1z) (isTup_but m1 sb.extBut D.l1z) ex fun h2 e s2 he => q h2 e (fun c o c1 _ c3 _ x => s2 _ _ c3 (sb.extBut _ _ c1 x)) he)
theorem next_zipP {z TI TO i1 i2 l1 l2 : Addr} {k : Nat} {f0 : Value} {fl : Bool} {xs ys : Array Value} {x y a b : Value} {Q : Option Value → Shared → Prop} (D : ZipApart z TI TO i1 i2 l1 l2) (gz : IsZipF s.heap z TI TO f0 fl) (hf : f0 = .none ∨ ∃ p : Nat, f0 = rawInt p) (gI : IsPair s.heap TI (.ref i1) (.ref i2)) (gO : IsPair s.heap TO a b)
  (g1 : s.heap.IsTupleIter i1 l1 k) (g2 : s.heap.IsTupleIter i2 l2 k) (m1 : s.heap.IsTuple l1 xs) (m2 : s.heap.IsTuple l2 ys) (ex : xs[k]? = some x) (ey : ys[k]? = some y)
  (q : ∀ h' f0' fl' a' b', IsZipF h' z TI TO f0' fl' → (∃ p : Nat, f0' = rawInt p) → (f0 = .none → f0' = rawInt s.heap.objs.size ∧ fl' = false) → IsPair h' TO a' b' → h'.IsTupleIter i1 l1 (k + 1) → h'.IsTupleIter i2 l2 (k + 1) → IsPair h' s.heap.objs.size x y → h'.objs.size = s.heap.objs.size + 1 →
   (∀ c o, c ≠ z → c ≠ TO → c ≠ i1 → c ≠ i2 → s.heap.get? c = some o → h'.get? c = some o) → Q (some (.ref s.heap.objs.size)) { s with heap := h' }) : wpAny (model prog w) A (pyNext (.ref z)) Q E s := by
 have ty : s.TypeIs (.ref z) "zip" := ⟨_, gz, rfl⟩
 unfold pyNext
 refine wpAny_bind (wpAny_attempt (wpAny_callSpecial?_slot (name := Str.ofString "__next__") ty PySem.F.slot_zip_next (wpAny_call_entry PySem.F.slot_zip_next ty PySem.F.entry_zip_next ?_ (PySem.F.args_zip_next_1 _))))
 rcases hf with rfl | ⟨p, rfl⟩
 ·exact zipP_free D gz (own_none gz) gI gO g1 g2 m1 m2 ex ey fun h' a1 a2 a3 a4 a5 a6 a7 => wpAny_pure (q h' _ _ _ _ a1 ⟨_, rfl⟩ (fun _ => ⟨rfl, rfl⟩) a2 a3 a4 a5 a6 a7)
 ·cases gp : s.heap.get? p with
  | none => exact zipP_free D gz (own_dead gz gp) gI gO g1 g2 m1 m2 ex ey fun h' a1 a2 a3 a4 a5 a6 a7 => wpAny_pure (q h' _ _ _ _ a1 ⟨_, rfl⟩ (fun z => nomatch z) a2 a3 a4 a5 a6 a7)
  | some op => exact zipP_busy D gz gp gI gO g1 g2 m1 m2 ex ey fun h' a1 a2 a3 a4 a5 a6 a7 => wpAny_pure (q h' _ _ _ _ a1 ⟨_, rfl⟩ (fun z => nomatch z) a2 a3 a4 a5 a6 a7)
theorem next_zipPE {z TI TO i1 i2 l1 l2 : Addr} {k : Nat} {f0 : Value} {fl : Bool} {xs ys : Array Value} {a b : Value} {Q : Option Value → Shared → Prop} (hh : A.handled = none) (D : ZipApart z TI TO i1 i2 l1 l2) (gz : IsZipF s.heap z TI TO f0 fl) (hf : f0 = .none ∨ ∃ p : Nat, f0 = rawInt p) (gI : IsPair s.heap TI (.ref i1) (.ref i2)) (gO : IsPair s.heap TO a b)
  (g1 : s.heap.IsTupleIter i1 l1 k) (g2 : s.heap.IsTupleIter i2 l2 k) (m1 : s.heap.IsTuple l1 xs) (m2 : s.heap.IsTuple l2 ys) (ex : xs[k]? = none)
  (q : ∀ h', (∀ c o, c ≠ z → c ≠ TO → c ≠ i1 → c ≠ i2 → s.heap.get? c = some o → h'.get? c = some o) → Q none { s with heap := h' }) : wpAny (model prog w) A (pyNext (.ref z)) Q E s := by
 have ty : s.TypeIs (.ref z) "zip" := ⟨_, gz, rfl⟩
 unfold pyNext
 refine wpAny_bind (wpAny_attempt (wpAny_callSpecial?_slot (name := Str.ofString "__next__") ty PySem.F.slot_zip_next (wpAny_call_entry PySem.F.slot_zip_next ty PySem.F.entry_zip_next ?_ (PySem.F.args_zip_next_1 _))))
 rcases hf with rfl | ⟨p, rfl⟩
 ·exact zipP_freeE hh D gz (own_none gz) gI gO g1 g2 m1 m2 ex fun h' e hk he => (by
   obtain ⟨o, ho, hc⟩ := he
   exact wpAny_bind (wpAny_isInstance (T := "StopIteration") (b := true) ⟨o, ho, hc⟩ isSubtype_stop (wpAny_pure (q _ hk))))
 ·cases gp : s.heap.get? p with
  | none => exact zipP_freeE hh D gz (own_dead gz gp) gI gO g1 g2 m1 m2 ex fun h' e hk he => (by
    obtain ⟨o, ho, hc⟩ := he
    exact wpAny_bind (wpAny_isInstance (T := "StopIteration") (b := true) ⟨o, ho, hc⟩ isSubtype_stop (wpAny_pure (q _ hk))))
  | some op => exact zipP_busyE (ys := ys) (a := a) (b := b) hh D gz gp gI g1 m1 ex fun h' e hk he => (by
    obtain ⟨o, ho, hc⟩ := he
    exact wpAny_bind (wpAny_isInstance (T := "StopIteration") (b := true) ⟨o, ho, hc⟩ isSubtype_stop (wpAny_pure (q _ hk))))
abbrev zAP (h : Heap) (l1 l2 : Addr) : Heap := (h.push (itT l1)).push (itT l2)
abbrev zBP (h : Heap) (l1 l2 : Addr) : Heap := (zAP h l1 l2).push { cls := .type "tuple", data := .seq #[.ref h.objs.size, .ref (h.push (itT l1)).objs.size] }
abbrev zCP (h : Heap) (l1 l2 : Addr) : Heap := (zBP h l1 l2).push { cls := .type "tuple", data := .seq #[.none, .none] }
abbrev zDP (h : Heap) (l1 l2 : Addr) : Heap := (zCP h l1 l2).push { cls := .type "zip", data := .fields #[.none, .bool false, .bool false, .ref (zAP h l1 l2).objs.size, .ref (zBP h l1 l2).objs.size] }
theorem meets_zipP (l1 l2 : Addr) (xs ys : Array Value) : Meets (Builtin.«zip.__new__» ⟨[.type "zip", .ref l1, .ref l2], []⟩) (fun _ R s => s.heap.IsTuple l1 xs ∧ s.heap.IsTuple l2 ys ∧ R (.ok (.ret (.ref (zCP s.heap l1 l2).objs.size))) { s with heap := zDP s.heap l1 l2 }) :=
 .of_wp fun prog w A R s h => by
  obtain ⟨hp, g, d, tk, os⟩ := s; obtain ⟨m1, m2, h⟩ := h
  have hsub := PySem.sub_zip
  have L1 : Heap.IsTuple (Shared.heap ⟨hp, g, d, tk, os⟩) l1 xs := m1
  have L2 : Heap.IsTuple (Shared.heap ⟨hp.push (itT l1), g, d, tk, os⟩) l2 ys := let ⟨o, ho, r⟩ := m2; ⟨o, Heap.get?_push_of_some _ ho, r⟩
  wp_walk using wpAny_pyIter_tuple L1, wpAny_pyIter_tuple L2
  exact ⟨_, rfl, h⟩
theorem call_zipP {l1 l2 : Addr} {xs ys : Array Value} {Q : Value → Shared → Prop} (m1 : s.heap.IsTuple l1 xs) (m2 : s.heap.IsTuple l2 ys)
  (q : ∀ h', IsZip h' (s.heap.objs.size + 4) (s.heap.objs.size + 2) (s.heap.objs.size + 3) .none → IsPair h' (s.heap.objs.size + 2) (.ref s.heap.objs.size) (.ref (s.heap.objs.size + 1)) →
   IsPair h' (s.heap.objs.size + 3) .none .none → h'.IsTupleIter s.heap.objs.size l1 0 → h'.IsTupleIter (s.heap.objs.size + 1) l2 0 →
   (∀ c o, s.heap.get? c = some o → h'.get? c = some o) → Q (.ref (s.heap.objs.size + 4)) { s with heap := h' }) : wpAny (model prog w) A (call (.type "zip") [.ref l1, .ref l2]) Q E s := by
 refine callType_new PySem.F.called_zip (by decide) (PySem.F.typeCall_zip_2 _ _) (PySem.F.newCall_zip_2 _ _) (fun obj => PySem.F.args_object_init_3 obj _ _) PySem.F.entry_zip_new (meets_zipP l1 l2 xs ys) ⟨m1, m2, ?_⟩
 have e1 : (s.heap.push (itT l1)).objs.size = s.heap.objs.size + 1 := Heap.size_push ..
 have e2 : (zAP s.heap l1 l2).objs.size = s.heap.objs.size + 2 := by rw [Heap.size_push, e1]
 have e3 : (zBP s.heap l1 l2).objs.size = s.heap.objs.size + 3 := by rw [Heap.size_push, e2]
 have e4 : (zCP s.heap l1 l2).objs.size = s.heap.objs.size + 4 := by rw [Heap.size_push, e3]
 have p5 : (zDP s.heap l1 l2).get? (zCP s.heap l1 l2).objs.size = some _ := Heap.get?_push_size _ rfl
 have up : ∀ {c : Addr} {o : Obj}, (zCP s.heap l1 l2).get? c = some o → (zDP s.heap l1 l2).get? c = some o := fun x => Heap.get?_push_of_some _ x
 have p4 : (zDP s.heap l1 l2).get? (zBP s.heap l1 l2).objs.size = some _ := up (Heap.get?_push_size _ rfl)
 have p3 : (zDP s.heap l1 l2).get? (zAP s.heap l1 l2).objs.size = some _ := up (Heap.get?_push_of_some _ (Heap.get?_push_size _ rfl))
 have up2 : ∀ {c : Addr} {o : Obj}, (zAP s.heap l1 l2).get? c = some o → (zDP s.heap l1 l2).get? c = some o := fun x => up (Heap.get?_push_of_some _ (Heap.get?_push_of_some _ x))
 have p2 : (zDP s.heap l1 l2).get? (s.heap.push (itT l1)).objs.size = some _ := up2 (Heap.get?_push_size _ rfl)
 have p1 : (zDP s.heap l1 l2).get? s.heap.objs.size = some _ := up2 (Heap.get?_push_of_some _ (Heap.get?_push_size _ rfl))
 show _ ∧ _
 rw [e2, e3, e4] at p5
 rw [e1, e2] at p3
 rw [e3] at p4
 rw [e1] at p2
 rw [e4]
 exact ⟨⟨_, p5, rfl⟩, q _ p5 p3 p4 ⟨_, p1, rfl, rfl⟩ ⟨_, p2, rfl, rfl⟩ fun c o x => up2 (Heap.get?_push_of_some _ (Heap.get?_push_of_some _ x))⟩
end
def ItzP (K : PySem.W.Frag) (a b : Addr) : It :=
 ⟨fun i H => ∃ xs ys x y, SqT K H a xs ∧ SqT K H b ys ∧ xs[i]? = some x ∧ ys[i]? = some y,
  fun i H v H' => ∃ x y p, (∀ xs, SqT K H a xs → xs[i]? = some x) ∧ (∀ ys, SqT K H b ys → ys[i]? = some y) ∧ H p = none ∧ v = .ref p ∧ H' = upd H p (.tup [x, y]),
  fun i H => ∃ xs ys, SqT K H a xs ∧ SqT K H b ys ∧ xs.length ≤ i⟩
theorem turn_zipP {P : Program} {w : World} {K : PySem.W.Frag} {elts : List Expr} {x1} {tpos : Pos} (a b z TI TO i1 i2 : Addr) (D : ZipApart z TI TO i1 i2 a b) :
  Turn P w K (.Tuple elts x1 tpos) (ItzP K a b) [z, TO, i1, i2, TI] z (fun i h => IsZip h z TI TO .none ∧ IsPair h TI (.ref i1) (.ref i2) ∧ (∃ x y, IsPair h TO x y) ∧ h.IsTupleIter i1 a i ∧ h.IsTupleIter i2 b i) where
 mem := by simp
 obj := fun i h st c hc => by
  obtain ⟨hz, hTI, ⟨x, y, hTO⟩, h1, h2⟩ := st
  have hc' : c = z ∨ c = TO ∨ c = i1 ∨ c = i2 ∨ c = TI := by simpa using hc
  rcases hc' with q | q | q | q | q
  ·subst q; exact ⟨_, hz, fun v e => nomatch e⟩
  ·subst q; exact ⟨_, hTO, fun v e => nomatch e⟩
  ·subst q
   obtain ⟨o, e, _, d⟩ := h1
   exact ⟨o, e, fun v q => by rw [d] at q; cases q⟩
  ·subst q
   obtain ⟨o, e, _, d⟩ := h2
   exact ⟨o, e, fun v q => by rw [d] at q; cases q⟩
  ·subst q; exact ⟨_, hTI, fun v e => nomatch e⟩
 keep := fun i h h' st k => by
  obtain ⟨hz, hTI, ⟨x, y, hTO⟩, h1, h2⟩ := st
  exact ⟨k z (by simp) _ hz, k TI (by simp) _ hTI, ⟨x, y, k TO (by simp) _ hTO⟩, let ⟨o, ho, r⟩ := h1; ⟨o, k i1 (by simp) o ho, r⟩, let ⟨o, ho, r⟩ := h2; ⟨o, k i2 (by simp) o ho, r⟩⟩
 item := by
  intro X hP hw hK hc i pins s σ H E I hf st hg
  subst hP hw hK
  obtain ⟨hz, hTI, ⟨u1, u2, hTO⟩, h1, h2⟩ := st
  obtain ⟨xs, ys, x, y, hq, hq2, hx, hy⟩ := hg
  obtain ⟨its, rv, p, _⟩ := I.tuple hq
  obtain ⟨its2, rv2, p2, _⟩ := I.tuple hq2
  obtain ⟨u, hu, ru⟩ := rv.get hx
  obtain ⟨v, hv, rv'⟩ := rv2.get hy
  refine next_zipP D hz (.inl rfl) hTI hTO h1 h2 (show s.heap.IsTuple a its.toArray from p) (show s.heap.IsTuple b its2.toArray from p2) (x := u) (y := v) (by simpa using hu) (by simpa using hv) fun h1' f0' fl' a' b' a1 _ aw a2 a3 a4 a5 a6 kk => ?_
  obtain ⟨rfl, rfl⟩ := aw rfl
  have nn : H s.heap.objs.size = none := I.hok.fresh (Nat.le_refl _)
  have hf4 : ∀ c ∈ [z, TO, i1, i2], FpOk X pins H c := fun c hc => hf c (by
   have hc' : c = z ∨ c = TO ∨ c = i1 ∨ c = i2 := by simpa using hc
   rcases hc' with q | q | q | q <;> simp [q])
  have I1 : Inv X pins σ (upd H s.heap.objs.size (.tup [x, y])) { s with heap := h1', toks := s.toks } :=
   I.turnLaid (ch := [z, TO, i1, i2]) hf4 (fun c o hc q => kk c o (fun e => hc (by simp [e])) (fun e => hc (by simp [e])) (fun e => hc (by simp [e])) (fun e => hc (by simp [e])) q) (Nat.le_refl _)
    ⟨⟨by show 2 ≤ sizeLine; decide, _, a5, rfl⟩, [u, v], .cons ru (.cons rv' .nil), ⟨_, a5, rfl, _, rfl⟩⟩
  have lz : z < s.heap.objs.size := Heap.lt_size hz
  have lTI : TI < s.heap.objs.size := Heap.lt_size hTI
  have lTO : TO < s.heap.objs.size := Heap.lt_size hTO
  have l1 : i1 < s.heap.objs.size := by obtain ⟨o, q, _⟩ := id h1; exact Heap.lt_size q
  have l2 : i2 < s.heap.objs.size := by obtain ⟨o, q, _⟩ := id h2; exact Heap.lt_size q
  refine ⟨_, rfl, wpAny_letOwnedTupleGo_zip a1 fun h2' e2 sb => ?_⟩
  obtain ⟨f0, f1, f2, f3, f4, f5⟩ := hf z (by simp)
  have I2 := I1.turned (h' := h2') (t' := s.toks) (it := z) (fun c o hc q => (sb.2 c hc).trans q) (by rw [upd_ne (Nat.ne_of_lt lz)]; exact f0) f1 f3 f4 f5
  refine ⟨.ref s.heap.objs.size, _, I2, rfl, ⟨x, y, s.heap.objs.size, fun zs hy => by rw [I.tuple_inj hy hq]; exact hx, fun zs hz' => by rw [I.tuple_inj hz' hq2]; exact hy, nn, rfl, rfl⟩,
   ⟨e2, (sb.2 TI D.TIz).trans (kk _ _ D.TIz D.TITO D.TIi1 D.TIi2 hTI), ⟨_, _, (sb.2 TO D.TOz).trans a2⟩, let ⟨o, ho, r⟩ := a3; ⟨o, (sb.2 i1 D.i1z).trans ho, r⟩, let ⟨o, ho, r⟩ := a4; ⟨o, (sb.2 i2 D.i2z).trans ho, r⟩⟩, fun c hc => ?_⟩
  have hlt : c < s.heap.objs.size := by
   have hc' : c = z ∨ c = TO ∨ c = i1 ∨ c = i2 ∨ c = TI := by simpa using hc
   rcases hc' with q | q | q | q | q
   ·rw [q]; exact lz
   ·rw [q]; exact lTO
   ·rw [q]; exact l1
   ·rw [q]; exact l2
   ·rw [q]; exact lTI
  rw [upd_ne (Nat.ne_of_lt hlt)]
  exact (hf c hc).1
 done := by
  intro X hP hw hK hc i pins s σ H E I hf st hg
  subst hP hw hK
  obtain ⟨hz, hTI, ⟨u1, u2, hTO⟩, h1, h2⟩ := st
  obtain ⟨xs, ys, hq, hq2, hx⟩ := hg
  obtain ⟨its, rv, p, _⟩ := I.tuple hq
  obtain ⟨its2, rv2, p2, _⟩ := I.tuple hq2
  have hl := rv.length
  have hf4 : ∀ c ∈ [z, TO, i1, i2], FpOk X pins H c := fun c hc => hf c (by
   have hc' : c = z ∨ c = TO ∨ c = i1 ∨ c = i2 := by simpa using hc
   rcases hc' with q | q | q | q <;> simp [q])
  exact next_zipPE (I.ok.hd hc) D hz (.inl rfl) hTI hTO h1 h2 (show s.heap.IsTuple a its.toArray from p) (show s.heap.IsTuple b its2.toArray from p2) (by simp; omega) fun h' kk =>
   ⟨rfl, I.turnedL (t' := s.toks) (ch := [z, TO, i1, i2]) hf4 (fun c o hc q => kk c o (fun e => hc (by simp [e])) (fun e => hc (by simp [e])) (fun e => hc (by simp [e])) (fun e => hc (by simp [e])) q)⟩
 self := fun _ _ _ _ _ st h => wpAny_pyIter_zip st.1 h
def iZipP (K : PySem.W.Frag) (ta : TA) : TI := fun σ H R => ta σ H fun vs H1 => ∃ a b, vs = [.ref a, .ref b] ∧ (∃ xs, SqT K H1 a xs) ∧ (∃ ys, SqT K H1 b ys) ∧ R (ItzP K a b) H1
theorem pi_zipP {X : Cx} {elts : List Expr} {x1} {tpos : Pos} {a b : Expr} {ta : TA} {p pos : Pos} (hg : Gl X "zip") (hm : X.mg "zip" = none) (ha : PA X [a, b] ta)
  (hs : starEach [a, b] X.env = [(false, eval a X.env), (false, eval b X.env)] := by rfl) (hs2 : starEach [b] X.env = [(false, eval b X.env)] := by rfl) :
  PI X (.Tuple elts x1 tpos) (.Call (.Name "zip" p) [a, b] [] pos) (iZipP X.K ta) := by
 intro pins s σ H R I h
 refine Call_ (ld_blt I hg hm boot_zip (PyProof.Rows.callWith_type1 (thn (ha pos pins s σ H _ I h) ?_) (by rw [hs, hs2]) (by rw [hs2]; rfl)))
 rintro us s1 ⟨vs, H1, I1, r1, q1⟩
 obtain ⟨l1, l2, e, ⟨xs, hq⟩, ⟨ys, hq2⟩, q⟩ := q1
 subst e
 cases r1 with
 | cons r rr =>
  cases rr with
  | cons r' rr =>
   cases rr
   cases r
   cases r'
   obtain ⟨its, rv, pl, _⟩ := I1.tuple hq
   obtain ⟨its2, rv2, pl2, _⟩ := I1.tuple hq2
   have a1 : l1 < s1.heap.objs.size := by obtain ⟨_, e, _⟩ := (show s1.heap.IsTuple l1 its.toArray from pl); exact Heap.lt_size e
   have a2 : l2 < s1.heap.objs.size := by obtain ⟨_, e, _⟩ := (show s1.heap.IsTuple l2 its2.toArray from pl2); exact Heap.lt_size e
   refine call_zipP (show s1.heap.IsTuple l1 its.toArray from pl) (show s1.heap.IsTuple l2 its2.toArray from pl2) fun h' hz hTI hTO hi1 hi2 kk => ?_
   have I2 : Inv X pins σ H1 { s1 with heap := h' } := I1.kept (t' := s1.toks) kk
   refine wpAny_pyIter_zip hz ?_
   refine ⟨s1.heap.objs.size + 4, [s1.heap.objs.size + 4, s1.heap.objs.size + 3, s1.heap.objs.size, s1.heap.objs.size + 1, s1.heap.objs.size + 2], _, _, H1, rfl, I2, turn_zipP l1 l2 _ _ _ _ _ (zipApart_new a1 a2), ⟨hz, hTI, ⟨_, _, hTO⟩, hi1, hi2⟩, fun c hc => ?_, q⟩
   have hle : s1.heap.objs.size ≤ c := by
    have hc' : c = s1.heap.objs.size + 4 ∨ c = s1.heap.objs.size + 3 ∨ c = s1.heap.objs.size ∨ c = s1.heap.objs.size + 1 ∨ c = s1.heap.objs.size + 2 := by simpa using hc
    rcases hc' with q | q | q | q | q <;> (rw [q]; first | exact Nat.le_add_right _ _ | exact Nat.le_refl _)
   exact I1.fpOk hle (I1.hok.fresh hle)
theorem for_zipN {K : PySem.W.Frag} {a b : Addr} {xs ys : List V} {g : TG} {tb : TS} {D : Ends} {σ : St} {H : Hp} (Pv : Nat → St → Hp → Prop) (hlen : xs.length = ys.length) (h0 : Pv 0 σ H) (hl : ∀ i σ H, i ≤ xs.length → Pv i σ H → SqT K H a xs ∧ SqT K H b ys)
  (hs : ∀ i x y p σ H, xs[i]? = some x → ys[i]? = some y → Pv i σ H → H p = none → g (.ref p) σ (upd H p (.tup [x, y])) fun σ2 H2 => tb { D with nx := Pv (i + 1), ct := Pv (i + 1), bk := D.nx } σ2 H2) (hd : ∀ σ H, Pv xs.length σ H → D.nx σ H) :
  ∃ W : Nat → Nat → St → Hp → Prop, (∃ m, W 0 m σ H) ∧ ∀ i m σ H, W i m σ H →
   ((ItzP K a b).stop i H ∧ D.nx σ H) ∨ ((ItzP K a b).go i H ∧ ∃ N : St → Hp → Prop, (∀ σ' H', N σ' H' → ∃ m', m' < m ∧ W (i + 1) m' σ' H') ∧ ∀ x H', (ItzP K a b).yld i H x H' → g x σ H' fun σ2 H2 => tb { D with nx := N, ct := N, bk := D.nx } σ2 H2) := by
 refine ⟨fun i m σ H => m = xs.length - i ∧ i ≤ xs.length ∧ Pv i σ H, ⟨xs.length, by simp, Nat.zero_le _, h0⟩, ?_⟩
 rintro i m σ H ⟨rfl, hi, p⟩
 obtain ⟨q, q'⟩ := hl i σ H hi p
 by_cases hlt : i < xs.length
 ·refine .inr ⟨⟨xs, ys, xs[i], ys[i], q, q', by simp [hlt], by simp⟩, Pv (i + 1), fun σ' H' p' => ⟨xs.length - (i + 1), by omega, rfl, hlt, p'⟩, fun v H' y => ?_⟩
  obtain ⟨x, y, pa, hx, hy, hn, e1, e2⟩ := y
  subst e1 e2
  exact hs i x y pa σ H (hx xs q) (hy ys q') p hn
 ·have e : i = xs.length := by omega
  subst e
  exact .inl ⟨⟨xs, ys, q, q', Nat.le_refl _⟩, hd σ H p⟩
theorem comp_zipP {K : PySem.W.Frag} {a b : Addr} {xs ys : List V} {g : TG} {tt : TT} {te : TE} {D : Addr} {σ : St} {H : Hp} {R : Hp → Prop} (Pv : Nat → St → Hp → Prop) (hlen : xs.length = ys.length) (h0 : Pv 0 σ H) (hl : ∀ i σ H, i ≤ xs.length → Pv i σ H → SqT K H a xs ∧ SqT K H b ys)
  (hs : ∀ i x y p σ H, xs[i]? = some x → ys[i]? = some y → Pv i σ H → H p = none → g (.ref p) σ (upd H p (.tup [x, y])) fun σ2 H2 => tt σ2 H2 fun b H3 => if b = true then te σ2 H3 fun y H4 => ∃ ys, H4 D = some (.lst ys) ∧ ys.length < sizeLine ∧ Pv (i + 1) σ2 (upd H4 D (.lst (ys ++ [y]))) else Pv (i + 1) σ2 H3)
  (hd : ∀ σ H, Pv xs.length σ H → R H) : cLoop (ItzP K a b) g tt te D σ H R := by
 refine ⟨fun i m σ H => m = xs.length - i ∧ i ≤ xs.length ∧ Pv i σ H, ⟨xs.length, by simp, Nat.zero_le _, h0⟩, ?_⟩
 rintro i m σ H ⟨rfl, hi, p⟩
 obtain ⟨q1, q2⟩ := hl i σ H hi p
 by_cases hlt : i < xs.length
 ·refine .inr ⟨⟨xs, ys, xs[i], ys[i]'(by omega), q1, q2, by simp [hlt], by simp [hlen ▸ hlt]⟩, Pv (i + 1), fun σ' H' p' => ⟨xs.length - (i + 1), by omega, rfl, hlt, p'⟩, fun v H' y => ?_⟩
  obtain ⟨x, y, p', e1, e2, e3, rfl, rfl⟩ := y
  exact hs i x y p' σ H (e1 xs q1) (e2 ys q2) p e3
 ·have e : i = xs.length := by omega
  subst e
  exact .inl ⟨⟨xs, ys, q1, q2, Nat.le_refl _⟩, hd σ H p⟩
theorem hideS {t u : TS} {D : Ends} {σ : St} {H : Hp} (h : ∀ R : St → Hp → Prop, R = u D → t { D with nx := R } σ H) : tSeq t u D σ H := h _ rfl
theorem seq_restN {t u : TS} {D : Ends} {σ : St} {H : Hp} (Pv : St → Hp → Prop) (h1 : ∀ σ H, Pv σ H → u D σ H) (h2 : ∀ R : St → Hp → Prop, (∀ σ H, Pv σ H → R σ H) → t { D with nx := R } σ H) : tSeq t u D σ H := h2 _ h1
def FLoop (J : It) (g : TG) (tb : TS) (D : Ends) (σ : St) (H : Hp) : Prop := ∃ W : Nat → Nat → St → Hp → Prop, (∃ m, W 0 m σ H) ∧ ∀ i m σ H, W i m σ H →
 (J.stop i H ∧ D.nx σ H) ∨ (J.go i H ∧ ∃ N : St → Hp → Prop, (∀ σ' H', N σ' H' → ∃ m', m' < m ∧ W (i + 1) m' σ' H') ∧ ∀ x H', J.yld i H x H' → g x σ H' fun σ2 H2 => tb { D with nx := N, ct := N, bk := D.nx } σ2 H2)
theorem for_listN {K : PySem.W.Frag} {a : Addr} {xs : List V} {g : TG} {tb : TS} {D : Ends} {σ : St} {H : Hp} (Pv : Nat → St → Hp → Prop) (h0 : Pv 0 σ H) (hl : ∀ i σ H, i ≤ xs.length → Pv i σ H → SqL K H a xs)
  (hs : ∀ i x σ H (N : St → Hp → Prop), (∀ σ H, Pv (i + 1) σ H → N σ H) → xs[i]? = some x → Pv i σ H → g x σ H fun σ2 H2 => tb { D with nx := N, ct := N, bk := D.nx } σ2 H2) (hd : ∀ σ H, Pv xs.length σ H → D.nx σ H) : FLoop (Itl K a) g tb D σ H :=
 for_list Pv h0 hl (fun i x σ H e p => hs i x σ H _ (fun _ _ z => z) e p) hd
theorem for_tupN {K : PySem.W.Frag} {a : Addr} {xs : List V} {g : TG} {tb : TS} {D : Ends} {σ : St} {H : Hp} (Pv : Nat → St → Hp → Prop) (h0 : Pv 0 σ H) (hl : ∀ i σ H, i ≤ xs.length → Pv i σ H → SqT K H a xs)
  (hs : ∀ i x σ H (N : St → Hp → Prop), (∀ σ H, Pv (i + 1) σ H → N σ H) → xs[i]? = some x → Pv i σ H → g x σ H fun σ2 H2 => tb { D with nx := N, ct := N, bk := D.nx } σ2 H2) (hd : ∀ σ H, Pv xs.length σ H → D.nx σ H) : FLoop (Itt K a) g tb D σ H :=
 for_tup Pv h0 hl (fun i x σ H e p => hs i x σ H _ (fun _ _ z => z) e p) hd
theorem for_rangeN {lo : Int} {n : Nat} {g : TG} {tb : TS} {D : Ends} {σ : St} {H : Hp} (Pv : Nat → St → Hp → Prop) (h0 : Pv 0 σ H)
  (hs : ∀ i σ H (N : St → Hp → Prop), (∀ σ H, Pv (i + 1) σ H → N σ H) → i < n → Pv i σ H → g (.int (lo + i)) σ H fun σ2 H2 => tb { D with nx := N, ct := N, bk := D.nx } σ2 H2) (hd : ∀ σ H, Pv n σ H → D.nx σ H) : FLoop (Itr lo n) g tb D σ H :=
 for_range (lo := lo) Pv h0 (fun i σ H e p => hs i σ H _ (fun _ _ z => z) e p) hd
theorem whileMN {c : TT} {tb : TS} {D : Ends} {σ : St} {H : Hp} (W : Nat → St → Hp → Prop) (h0 : ∃ m, W m σ H)
  (hs : ∀ m σ H (N : St → Hp → Prop), (∀ σ' H' m', m' < m → W m' σ' H' → N σ' H') → W m σ H → c σ H fun b H1 => if b = true then tb { D with nx := N, ct := N, bk := D.nx } σ H1 else D.nx σ H1)
  (mono : ∀ σ H Q Q', (∀ b H1, Q b H1 → Q' b H1) → c σ H Q → c σ H Q') : tWhile c tb D σ H := whileM W h0 (fun m σ H w => hs m σ H _ (fun _ _ m' h w' => ⟨m', h, w'⟩) w) mono
section
variable {X : Cx} {pins : List (Addr × Obj)} {σ : St} {H : Hp} {s : Shared}
theorem inv_made (I : Inv X pins σ H s) {T : Addr} {ps : Array Value} {L : List (Pos × Str)} {q : Pos × Str} (hT : H T = some (.tbl ps)) (ht : TriplesOk ps.toList) (htab : ∀ p ∈ L, codeAmong p.1 ps.toList = none ∨ ∃ c, codeAmong p.1 ps.toList = some (.ref c) ∧ H c = some (cdO c p.2)) (hL : q ∈ L) (ap : Apart L)
  {c' : Addr} {h' : Heap} {tk : Tok} (o : Obj) (ho : o.isFreed = false) (hx : Heap.ExtBut T s.heap h') (hge : s.heap.objs.size ≤ c') (hlt : c' < h'.objs.size) (hrec : h'.CodeRec (.ref c') q.2) (htb : h'.get? T = some (PySem.W.tabObj (ps ++ #[rawInt q.1.line, rawInt q.1.col, .ref c']))) :
  ∃ H', Inv X pins σ H' { s with heap := h'.push o, toks := tk } ∧ H h'.objs.size = none ∧ H' h'.objs.size = some (fnO h'.objs.size o) ∧ H' c' = some (cdO c' q.2) ∧ Tab H' T L ∧ KB T H H' := by
 have nc : H c' = none := I.hok.fresh hge
 have szh : s.heap.objs.size ≤ h'.objs.size := Nat.le_of_lt (Nat.lt_of_le_of_lt hge hlt)
 have nf : H h'.objs.size = none := I.hok.fresh szh
 have fc : h'.objs.size ≠ c' := Nat.ne_of_gt hlt
 have Tc : T ≠ c' := ne_of_none hT nc
 have Tf : T ≠ h'.objs.size := ne_of_none hT nf
 have keep : ∀ b u, b ≠ T → s.heap.get? b = some u → (h'.push o).get? b = some u := fun b u hb e => Heap.get?_push_of_some _ (hx b u hb e)
 obtain ⟨H', hH⟩ : ∃ H' : Hp, H' = upd (upd (upd H T (.tbl (ps ++ #[rawInt q.1.line, rawInt q.1.col, .ref c']))) c' (cdO c' q.2)) h'.objs.size (fnO h'.objs.size o) := ⟨_, rfl⟩
 have eT : H' T = some (.tbl (ps ++ #[rawInt q.1.line, rawInt q.1.col, .ref c'])) := by rw [hH, upd_ne Tf, upd_ne Tc, upd_same]
 have ec : H' c' = some (cdO c' q.2) := by rw [hH, upd_ne fc.symm, upd_same]
 have ef : H' h'.objs.size = some (fnO h'.objs.size o) := by rw [hH, upd_same]
 have eo : ∀ b, b ≠ T → b ≠ c' → b ≠ h'.objs.size → H' b = H b := fun b h1 h2 h3 => by rw [hH, upd_ne h3, upd_ne h2, upd_ne h1]
 have kb : KB T H H' := fun b u e hb => by rw [eo b hb (ne_of_none e nc) (ne_of_none e nf)]; exact e
 have hnew : ∀ b u, s.heap.get? b = some u → b ≠ c' ∧ b ≠ h'.objs.size := fun b u e => ⟨Nat.ne_of_lt (Nat.lt_of_lt_of_le (Heap.lt_size e) hge), Nat.ne_of_lt (Nat.lt_of_lt_of_le (Heap.lt_size e) szh)⟩
 have tab' := Tab.grown (H := H) (H' := H') hL ap ht htab eT ec fun b φ e => kb b _ e fun z => by rw [z, hT] at e; cases e
 have hok' : HOk X.prog X.w H' (h'.push o) := fun b u e => by
  by_cases b1 : b = T
  ·subst b1
   rw [eT] at e; cases e
   exact Heap.get?_push_of_some _ htb
  by_cases b2 : b = c'
  ·subst b2
   rw [ec] at e; cases e
   exact cdO_ok (hrec.push _)
  by_cases b3 : b = h'.objs.size
  ·subst b3
   rw [ef] at e; cases e
   exact fnO_ok (Heap.get?_push_size _ ho)
  rw [eo b b1 b2 b3] at e
  refine (I.hok b u e).stay (fun d v hd z => keep d v ?_ z) (fun d z => kb d _ z ?_) fun d xs z => kb d _ z ?_
  ·rintro rfl
   rcases hd with z' | z'
   ·exact b1 z'.symm
   ·rw [hT] at z'; cases z'
  ·rintro rfl; rw [hT] at z; cases z
  ·rintro rfl; rw [hT] at z; cases z
 have neT : ∀ b, H b = none → b ≠ T := fun b n z => by rw [z, hT] at n; cases n
 refine ⟨H', I.un ⟨fun b u e n _ _ => keep b u (neT b n) e, fun b u e n _ _ => ⟨u.slots, keep b u (neT b n) e⟩, fun b u e n _ => by rw [eo b (neT b n) (hnew b u e).1 (hnew b u e).2]; exact n, fun b u e _ => ?_, fun b xs e => kb b _ e fun z => ?_, fun b u v e => kb b _ e fun z => ?_, fun b qs e => ?_⟩ hok', nf, ef, ec, tab', kb⟩
 ·by_cases hb : b = T
  ·subst hb; exact ⟨_, Heap.get?_push_of_some _ htb⟩
  ·exact ⟨u, keep b u hb e⟩
 ·rw [z, hT] at e; cases e
 ·rw [z, hT] at e; cases e
 ·by_cases hb : b = T
  ·subst hb
   rw [hT] at e; cases e
   exact ⟨_, eT⟩
  ·exact ⟨#[], by rw [kb b _ e hb]; simp⟩
end
section
variable {X : Cx} {pos : Pos} {name : Str} {params : Arguments} {body : List Stmt} {scope : Scope} {c T : Addr} {clos : List (Str × Addr)} {L : List (Pos × Str)}
abbrev defO (X : Cx) (name : Str) (params : Arguments) (body : List Stmt) (scope : Scope) (clos : List (Str × Addr)) (doc : Value) (c' : Addr) (ctv : Value) : Obj := PySem.W.fnMade name (qualnameIn X.env name name) params body scope clos doc ((X.mg "__name__").getD .none) c' ctv
def tDef (X : Cx) (name : Str) (params : Arguments) (body : List Stmt) (scope : Scope) (clos : List (Str × Addr)) (T : Addr) (L : List (Pos × Str)) (i : Nat) : TS := fun D σ H =>
 Tab H T L ∧ ∀ f c' ctv doc H', H f = none → H' f = some (fnO f (defO X name params body scope clos doc c' ctv)) → H' c' = some (cdO c' (qualnameIn X.env name name)) → Tab H' T L → KB T H H' → D.nx (σ.set i (some (.ref f))) H'
theorem ps_def {i : Nat} (hN : X.N.Nodup) (hi : X.N[i]? = some name) (hx : Loc X.env.scope name) (hcode : X.env.code = .ref c) (C : PySem.W.CodeHd X.base c T) (hB : BltAt X.mg X.base) (hcl : closureFor scope X.env = pure clos) (hd0 : params.defaults = []) (hk0 : params.kw_defaults = []) (ha : annTrees params none X.env = [])
  (hL : (pos, qualnameIn X.env name name) ∈ L) (ap : Apart L) (hf : X.fn name = true ∨ X.env.scope.names.lookup name = some .local := by first | exact .inl rfl | exact .inr rfl | assumption) :
  PS X (.FunctionDef name params body [] none [] scope none name pos) (tDef X name params body scope clos T L i) := by
 intro pins s σ H D I ⟨⟨ps, hT, ht, htab⟩, h⟩
 refine PySem.W.nestDef_K hd0 hk0 ha ?_
 have hTo : s.heap.get? T = some (PySem.W.tabObj ps) := I.hok T _ hT
 have hg : s.heap.Ns mainGlobals X.mg := I.ok.mod.glob.keeps I.bk
 have hgT : mainGlobals ≠ T := fun q => by
  obtain ⟨o, es, ep, e, hd, _⟩ := hg
  rw [q, hTo] at e; cases e; cases hd
 have hBA : s.heap.BuiltinsAt X.mg T := by
  obtain ⟨bm, o, h1, h2, h3, h4, h5, h6⟩ := hB
  refine ⟨bm, o, h1, h2, fun q => ?_, fun q => ?_, I.bk _ _ h3, h4, h5, h6⟩
  ·obtain ⟨o', es, ep, e, hd, _⟩ := I.ok.mod.glob
   rw [q, e] at h3; cases h3; rw [hd] at h6; cases h6
  ·have := I.bk _ _ h3
   rw [q, hTo] at this; cases this; cases h4
 have hCs := C.keeps I.bk
 rcases htab _ hL with hn | ⟨c', hc', hHc⟩
 ·refine PySem.W.makeFunction_K (mg := X.mg) hcl I.ok.glob hg hcode hCs hTo ht hn hgT hBA fun c' ctv doc h' tk hx' hge hlt hrec htb => ?_
  obtain ⟨H', I', nf, ef, ec, tab', kb⟩ := inv_made (tk := tk) I hT ht htab hL ap (defO X name params body scope clos doc c' ctv) rfl hx' hge hlt hrec htb
  exact store_ok I' hN hi hx (v := .ref h'.objs.size) rfl (fun s' I'' => ⟨_, H', I'', h _ _ _ _ _ nf ef ec tab' kb⟩) hf
 ·refine PySem.W.makeFunction_hit (mg := X.mg) hcl I.ok.glob hg hcode hCs hTo ht hc' hBA fun ctv doc h' tk hk hsz => ?_
  have nf : H h'.objs.size = none := I.hok.fresh hsz
  have keep : ∀ b o, s.heap.get? b = some o → (h'.push (defO X name params body scope clos doc c' ctv)).get? b = some o := fun b o e => Heap.get?_push_of_some _ (hk b o e)
  have kb : Same H (upd H h'.objs.size (fnO h'.objs.size (defO X name params body scope clos doc c' ctv))) := fun b o e => by rw [upd_ne (ne_of_none e nf)]; exact e
  have I' := I.laid (t' := tk) keep hsz (fnO_ok (P := X.prog) (w := X.w) (H := upd H h'.objs.size (fnO h'.objs.size (defO X name params body scope clos doc c' ctv))) (Heap.get?_push_size _ rfl))
  exact store_ok I' hN hi hx (v := .ref h'.objs.size) rfl (fun s' I'' => ⟨_, _, I'', h _ c' ctv doc _ nf upd_same (kb _ _ hHc) (Tab.same ⟨ps, hT, ht, htab⟩ kb) fun b o e _ => kb b o e⟩) hf
end
theorem inv_locs {P : Program} {w : World} {K : PySem.W.Frag} {mg : Str → Option Value} {base : Heap} {N : List Str} {qual : Str} {scope : Scope} {f : Addr} {cd : Value} {cl : List (Str × Addr)} {A : Around} {outer : List Env} {s s' : Shared} {H H' : Hp} {pins : List (Addr × Obj)} {σ : St} (ls : List Str)
  (I : Inv (cxL P w K mg base N qual scope f cd cl A outer s H) pins σ H' s') : Inv (cxL P w K mg base (N ++ ls) qual scope f cd cl A outer s H) pins (σ ++ ls.map fun _ => none) H' s' := by
 obtain ⟨ok, os, ba, bs, ⟨m, hm, lo⟩, ce, fr, fc, pi, ho, le⟩ := I
 have le' : σ.length = N.length := le
 refine ⟨?_, os, ba, bs, ⟨m, hm, fun i x v h1 h2 h3 => ?_⟩, ce, fr, fc, pi, ho, ?_⟩
 ·obtain ⟨a1, a2, a3, a4, a5, a6, a7, a8, a9, a10, a11, a12, a13, a14, a15, a16, a17, a18⟩ := ok
  exact ⟨a1, a2, a3, a4, a5, a6, a7, a8, a9, a10, a11, a12, a13, a14, a15, a16, a17, a18⟩
 ·have h1' : (N ++ ls)[i]? = some x := h1
  by_cases hi : i < σ.length
  ·rw [List.getElem?_append_left hi] at h2
   rw [List.getElem?_append_left (by omega)] at h1'
   exact lo i x v h1' h2 h3
  ·rw [List.getElem?_append_right (by omega), List.getElem?_map] at h2
   obtain ⟨_, _, e⟩ := Option.map_eq_some_iff.mp h2
   cases e
 ·show _ = (N ++ ls).length
  rw [List.length_append, List.length_append, List.length_map, le']
theorem fn_def {P : Program} {w : World} {K : PySem.W.Frag} {mg : Str → Option Value} {base : Heap} {k : Nat} {f c' : Addr} {name qual : Str} {params : Arguments} {body : List Stmt} {scope : Scope} {cl : List (Str × Addr)} {doc pm ctv : Value} {ps frn ls : List Str} {fvs : List V} {sp : Sp}
  (ho : base.get? f = some (PySem.W.fnMade name qual params body scope cl doc pm c' ctv)) (hcr : base.CodeRec (.ref c') qual) (S : LamScope ps frn scope) (C : LamCells base cl frn fvs) (len : ∀ vs H Q E, sp vs H Q E → vs.length = ps.length)
  (hbody : ∀ (A : Around) (outer : List Env) (s : Shared) (H : Hp) (vs : List V) (Q : VK) (E : XK), Room k (A.deeper (PySem.W.envX qual scope s.heap.objs.size f (.ref c') cl)) → sp vs H Q E →
   ∃ t, PSs (cxL P w K mg base (ps ++ frn ++ ls) qual scope f (.ref c') cl A outer s H) body t ∧ t { nx := fun _ H' => Q .non H', rt := Q } (vs.map some ++ fvs.map some ++ ls.map fun _ => none) H) :
  FnOk P w K mg base CX0 (k + 1) f (PySem.W.fnX name qual params body scope cl .none .none doc pm none (.ref c') ctv) ps sp := by
 refine ⟨len, fun A outer s H args us vs Q E hr e0 hb r hsp => ?_⟩
 have hl := len _ _ _ _ hsp
 have lim : s.heap.NoLimit := e0.mod.nolimit.keeps fun b o e => (e0.bs b o e).1
 have hcr' : s.heap.CodeRec (.ref c') qual := by
  obtain ⟨c, oc, vs', tq, hc, hoc, hdc, hq⟩ := hcr
  exact ⟨c, oc, vs', tq, hc, (e0.bs _ _ hoc).1, hdc, hq⟩
 refine codeAny_call_function hr.depth (e0.bs _ _ ho).1 rfl S.co S.gen rfl hcr' (hb _ _ _ _ ?_)
 have hloc : ∀ y ∈ ps.zip us, scope.names.lookup y.1 = some .local := fun ⟨n, v⟩ hy => S.par n (List.of_mem_zip hy).1
 refine wpAny_newFunctionEnv S.nocell hloc (fun h₁ hns hsb => ⟨lim.fresh _ hsb, ?_⟩) S.kind
 obtain ⟨t, ht, hq⟩ := hbody A outer s H vs Q E (hr.deeper _) hsp
 have I : Inv (cxL P w K mg base (ps ++ frn ++ ls) qual scope f (.ref c') cl A outer s H) [] (vs.map some ++ fvs.map some ++ ls.map fun _ => none) H { s with heap := h₁, toks := s.toks + (ps.zip us).length } := inv_locs ls (inv_lam S hr.hd e0 hl r C hns hsb)
 refine codeAny_func (wpAny_mono (ht [] _ _ H _ I hq) (fun fl s' hs => ?_) fun e s' hs => hs.elim)
 have fin : ∀ {σ' : St} {H' : Hp} {v : V} {u : Value}, Inv (cxL P w K mg base (ps ++ frn ++ ls) qual scope f (.ref c') cl A outer s H) [] σ' H' s' → RelV v u → Q v H' → CE outer P w H s Q u s' :=
  fun {σ' H' v u} J rv q => ⟨v, H', J.os, J.bare, J.base, J.hok, rv, q⟩
 cases fl with
 | ret u =>
  obtain ⟨v, σ', H', J, rv, q⟩ := hs
  exact fin J rv q
 | next =>
  obtain ⟨σ', H', J, q⟩ := hs
  exact fin (v := V.non) (u := Value.none) J rfl q
 | brk =>
  obtain ⟨_, _, _, q⟩ := hs
  exact False.elim q
 | cont =>
  obtain ⟨_, _, _, q⟩ := hs
  exact False.elim q
theorem FnAt.defn {X : Cx} {σ : St} {D : List Addr} {H : Hp} {base' : Heap} {name : Str} {params : Arguments} {body : List Stmt} {scope : Scope} {clos : List (Str × Addr)} {c' f : Addr} {doc ctv : Value} {ps frn ls : List Str} {fvs : List V} {k : Nat} {sp : Sp} (W : Wide X σ D H base')
  (hf : H f = some (fnO f (defO X name params body scope clos doc c' ctv))) (hfD : f ∈ D) (hc : H c' = some (cdO c' (qualnameIn X.env name name))) (hcD : c' ∈ D) (S : LamScope ps frn scope) (sub : ∀ p ∈ clos, X.env.cells.lookup p.1 = some p.2)
  (vals : Paired (fun (x : Str) (v : V) => ∃ i : Nat, X.N[i]? = some x ∧ σ[i]? = some (some v) ∧ X.env.scope.names.lookup x = some .cell ∧ clos.lookup x = X.env.cells.lookup x) frn fvs)
  (hb : ∀ (us : List Value), us.length = ps.length → bindArgs (PySem.W.fnX name (qualnameIn X.env name name) params body scope clos .none .none doc ((X.mg "__name__").getD .none) none (.ref c') ctv) ⟨us, []⟩ = pure (ps.zip us)) (len : ∀ vs H Q E, sp vs H Q E → vs.length = ps.length)
  (hbody : ∀ (A : Around) (outer : List Env) (s : Shared) (H : Hp) (vs : List V) (Q : VK) (E : XK), Room k (A.deeper (PySem.W.envX (qualnameIn X.env name name) scope s.heap.objs.size f (.ref c') clos)) → sp vs H Q E →
   ∃ t, PSs (cxL X.prog X.w X.K X.mg base' (ps ++ frn ++ ls) (qualnameIn X.env name name) scope f (.ref c') clos A outer s H) body t ∧ t { nx := fun _ H' => Q .non H', rt := Q } (vs.map some ++ fvs.map some ++ ls.map fun _ => none) H) : FnAt X.prog X.w X.K X.mg base' (k + 1) f ps.length sp := by
 have ho : base'.get? f = some (defO X name params body scope clos doc c' ctv) := W.ext f _ hfD hf
 have hcr : base'.CodeRec (.ref c') (qualnameIn X.env name name) := W.ext c' _ hcD hc
 have sub' : ∀ x c, clos.lookup x = some c → X.env.cells.lookup x = some c := fun x c e => sub (x, c) (PySem.mem_of_lookup e)
 have C : LamCells base' clos frn fvs := by
  refine ⟨fun x y c h1 h2 => W.inj x y c (sub' x c h1) (sub' y c h2), fun x c h => W.cell x c (sub' x c h), Paired.mapP vals fun x v ⟨i, h1, h2, h3, h4⟩ => ?_⟩
  obtain ⟨c, u, e1, e2, e3⟩ := W.val i x v h1 h2 h3
  exact ⟨c, u, h4.trans e1, e2, e3⟩
 exact ⟨_, _, ps, ho, rfl, rfl, hb, fn_def ho hcr S C len hbody⟩
section
variable {X : Cx}
def rSortT (K : PySem.W.Frag) : List V → Hp → VK → Prop := fun xs H Q => ∃ (a : Addr) (ss : List Str), xs = [.ref a] ∧ SqT K H a (ss.map V.str) ∧ ss.length < 64 ∧
 ∀ (p : Addr) (ss' : List Str), H p = none → ss'.Perm ss → sortedS ss' = true → Q (.ref p) (upd H p (.lst (ss'.map V.str)))
theorem call_sortTK (K : PySem.W.Frag) (hK : X.K = K := by rfl) : CallR X (.builtin "sorted") (rSortT K) := by
 subst hK
 intro pins s σ H xs us Q I r h
 obtain ⟨a, ss, rfl, hq, h64, q⟩ := h
 obtain ⟨u, rfl, ru⟩ := vals1 r
 cases ru
 obtain ⟨its, rv, p, hz⟩ := I.tuple hq
 have hS : StrsAre its ss := strsAre_of rv
 obtain ⟨ob, eo, hc, nn, hd⟩ := (show s.heap.IsTuple a its.toArray from p)
 have hl : its.length = ss.length := hS.length
 refine Calls.call_function_entry kind_sorted plain_sorted entry_sorted (args_sorted1 _) ?_
 unfold Builtin.«sorted»
 (refine wpAny_bind (m := checkCount "sorted" 1 1 _) (wpAny_pure ?_))
 refine wpAny_bind (wpAny_collect_seq (A := X.A.in1) a (.inr rfl) eo hc hd (fun h' k => ?_) (by rw [List.size_toArray, hl]; exact Nat.le_of_lt (Nat.lt_of_lt_of_le h64 (by decide))))
 refine wpAny_bind (wpAny_newList ?_ (by rw [hl]; exact Nat.le_of_lt (Nat.lt_of_lt_of_le h64 (by decide))))
 have hoL : (h'.push (seqObj "list" its.toArray 0)).get? h'.objs.size = some (seqObj "list" its.toArray 0) := Heap.get?_push_size _ rfl
 refine wpAny_bind (wpAny_holding (wpAny_call_entry slot_list_sort ⟨_, hoL, rfl⟩ entry_list_sort (list_sort_treeK strKind_oneLt hoL hS.keysOf (fun v1 v2 rest e => keyKind_strs (by rw [← e]; exact hS)) (by rw [hl]; exact h64) fun st' hp hs => ⟨_, rfl, ?_⟩) (args_list_sort _)))
 obtain ⟨ss', a1, a2, a3⟩ := sorted_out_str hS hp hs
 have I1 : Inv X pins σ H { s with heap := h' } := I.kept (t' := s.toks) k
 obtain ⟨e, he⟩ := sortedHeap_at (out := (arrOf st').map (·.2)) hoL
 have kp : ∀ b u, h'.get? b = some u → (sortedHeap (h'.push (seqObj "list" its.toArray 0)) h'.objs.size its ((arrOf st').map (·.2))).get? b = some u := fun b u eb => by
  have lt := Heap.lt_size eb
  rw [sortedHeap_old (Nat.ne_of_lt lt) (by rw [Heap.size_push]; exact Nat.lt_succ_of_lt lt)]
  exact Heap.get?_push_of_some _ eb
 have I2 := I1.laid (a := h'.objs.size) (o := .lst (ss'.map V.str)) (t' := s.toks) kp (Nat.le_refl _) ⟨by rw [List.length_map, a2.length_eq]; exact Nat.le_of_lt (Nat.lt_of_lt_of_le h64 (by decide)), ((arrOf st').map (·.2)).toList, e, vals_strs a1, he⟩
 exact wpAny_pure ⟨_, rfl, ⟨.ref h'.objs.size, _, I2, rfl, q _ ss' (I1.hok.fresh (Nat.le_refl _)) a2 a3⟩⟩
end
section
variable {X : Cx} {x : Str} {p pos : Pos} {e : Expr} {es : List Expr} {t : TA} {k : Nat} {ps : List Str}
def tCallG (i : Nat) (f : Bool → Addr) (sp : Bool → Sp) (dvs : List V) (t : TA) : TE := fun σ H Q => ∃ j : Bool, σ[i]? = some (some (.ref (f j))) ∧ t σ H fun vs H1 => sp j (vs ++ dvs) H1 Q E0
theorem pe_callG {f : Bool → Addr} {fd : Bool → FuncData} {sp : Bool → Sp} {dvs : List V} (F : ∀ j, FnOk X.prog X.w X.K X.mg X.base CX0 k (f j) (fd j) ps (sp j)) {i : Nat} (hr : Room k X.A) (hk : ∀ j, PySem.W.keepIn X.K (.ref (f j)) = true) (hb : ∀ j, ∃ ds, Binds X.K (fd j) ps ds ∧ Vals dvs ds)
  (hN : X.N[i]? = some x) (hv : Vis X.env.scope x) (ha : PA X (e :: es) t) (hdb : (x == ("__debug__" : Str)) = false := by decide) (hcd : (x == ("__classdict__" : Str)) = false := by decide)
  (he : starEach (e :: es) X.env = (false, eval e X.env) :: starEach es X.env := by rfl) (hpl : (backTo pos (starEach es X.env)).any (·.1) = false := by rfl) :
  PE X (.Call (.Name x p) (e :: es) [] pos) (tCallG i f sp dvs t) := by
 intro pins s σ H Q I h
 obtain ⟨j, hi, h⟩ := h
 obtain ⟨ds, hbj, hdj⟩ := hb j
 obtain ⟨m, hn, hl⟩ := I.loc
 obtain ⟨u, r, l⟩ := hl i x (.ref (f j)) hN hi hv
 obtain rfl : u = Value.ref (f j) := r
 have fin : wpAny (model X.prog X.w) X.A (callWith pos (.ref (f j)) [] (backTo pos (starEach (e :: es) X.env)) []) (EP X pins σ Q) X.xe s :=
  PySem.W.callWith_K (h₀ := X.base) I.ok.mod.kin (hk j) (thn (ha pos pins s σ H _ I h) fun us s1 ⟨vs, H1, I1, r, q⟩ => ⟨I1.kIn, run_fn (F j) hr hbj hdj pass0 I1 r q⟩) he hpl
 rcases l with ⟨hk, hm⟩ | ⟨hk, c, hc, hcell⟩
 ·exact wpAny_Call_Name_kw (wpAny_Name (wpAny_loadName_local I.ok.kind hk hn hm fin) hdb)
 ·rcases hk with hk | hk
  ·exact wpAny_Call_Name_kw (wpAny_Name (wpAny_loadName_cell I.ok.kind hk hc hcell fin) hdb)
  ·exact wpAny_Call_Name_kw (wpAny_Name (wpAny_loadName_free I.ok.kind hk hc hcell fin hcd) hdb)
end
end L2
namespace My
open PySem L2
def top (i : Nat) : Stmt := PySem.Challenge.pw_figurejudge_k41_not_and_or_by_own_names.main.body.getD i (.Pass ⟨0, 0, 0, 0⟩)
abbrev s_all_letters : Stmt := top 1
abbrev s_grown_from : Stmt := top 3
abbrev s_machine_of : Stmt := top 4
abbrev s_own_letters : Stmt := top 5
abbrev s_turned_no : Stmt := top 7
abbrev s_names_of_both : Stmt := top 8
abbrev s_pairs_onward : Stmt := top 9
abbrev s_both_growth : Stmt := top 10
abbrev s_either_growth : Stmt := top 11
abbrev s_both_of : Stmt := top 12
abbrev s_either_of : Stmt := top 13
abbrev s_l_feed : Stmt := top 15
abbrev s_l_draw : Stmt := top 16
abbrev s_l_after : Stmt := top 17
abbrev s_l_names : Stmt := top 18
abbrev s_l_rings : Stmt := top 19
abbrev s_l_machine : Stmt := top 20
abbrev s_l_letters : Stmt := top 21
abbrev s_l_grown : Stmt := top 22
abbrev s_l_alike : Stmt := top 23
abbrev s_l_numbers : Stmt := top 24
abbrev s_l_due : Stmt := top 25
abbrev s_l_ring : Stmt := top 26
abbrev s_l_two_rings : Stmt := top 27
abbrev s_law : Stmt := top 28
set_option genInjectivity false in
set_option genSizeOf false in
structure Adr where
 f_all_letters : Addr
 fd_all_letters : FuncData
 f_grown_from : Addr
 fd_grown_from : FuncData
 c_grown_from : Addr
 f_machine_of : Addr
 fd_machine_of : FuncData
 f_own_letters : Addr
 fd_own_letters : FuncData
 f_turned_no : Addr
 fd_turned_no : FuncData
 f_names_of_both : Addr
 fd_names_of_both : FuncData
 f_pairs_onward : Addr
 fd_pairs_onward : FuncData
 c_pairs_onward : Addr
 t_pairs_onward : Addr
 f_both_growth : Addr
 fd_both_growth : FuncData
 c_both_growth : Addr
 t_both_growth : Addr
 f_either_growth : Addr
 fd_either_growth : FuncData
 c_either_growth : Addr
 t_either_growth : Addr
 f_both_of : Addr
 fd_both_of : FuncData
 c_both_of : Addr
 f_either_of : Addr
 fd_either_of : FuncData
 c_either_of : Addr
 f_l_feed : Addr
 fd_l_feed : FuncData
 f_l_draw : Addr
 fd_l_draw : FuncData
 f_l_after : Addr
 fd_l_after : FuncData
 f_l_names : Addr
 fd_l_names : FuncData
 f_l_rings : Addr
 fd_l_rings : FuncData
 f_l_machine : Addr
 fd_l_machine : FuncData
 f_l_letters : Addr
 fd_l_letters : FuncData
 f_l_grown : Addr
 fd_l_grown : FuncData
 f_l_alike : Addr
 fd_l_alike : FuncData
 f_l_numbers : Addr
 fd_l_numbers : FuncData
 f_l_due : Addr
 fd_l_due : FuncData
 c_l_due : Addr
 t_l_due : Addr
 f_l_ring : Addr
 fd_l_ring : FuncData
 f_l_two_rings : Addr
 fd_l_two_rings : FuncData
 f_law : Addr
 fd_law : FuncData
structure Txt (K : PySem.W.Frag) (mg : Str → Option Value) (a : Adr) : Prop where
 F_all_letters : Fun K "all_letters" "all_letters" s_all_letters a.f_all_letters a.fd_all_letters
 m_all_letters : mg "all_letters" = some (.ref a.f_all_letters)
 k_all_letters : PySem.W.keepIn K (.ref a.f_all_letters) = true
 b_all_letters : Binds K a.fd_all_letters ["base", "many"] []
 F_grown_from : FunC K "grown_from" "grown_from" s_grown_from a.f_grown_from a.fd_grown_from (.ref a.c_grown_from)
 m_grown_from : mg "grown_from" = some (.ref a.f_grown_from)
 k_grown_from : PySem.W.keepIn K (.ref a.f_grown_from) = true
 b_grown_from : Binds K a.fd_grown_from ["first", "many", "onward", "is_yes", "most"] []
 d_grown_from : ∃ t, Binds K a.fd_grown_from ["first", "many", "onward", "is_yes", "most"] [.int 2000 t]
 F_machine_of : Fun K "machine_of" "machine_of" s_machine_of a.f_machine_of a.fd_machine_of
 m_machine_of : mg "machine_of" = some (.ref a.f_machine_of)
 k_machine_of : PySem.W.keepIn K (.ref a.f_machine_of) = true
 b_machine_of : Binds K a.fd_machine_of ["base", "names", "growth", "most"] []
 F_own_letters : Fun K "own_letters" "own_letters" s_own_letters a.f_own_letters a.fd_own_letters
 m_own_letters : mg "own_letters" = some (.ref a.f_own_letters)
 k_own_letters : PySem.W.keepIn K (.ref a.f_own_letters) = true
 b_own_letters : Binds K a.fd_own_letters ["base", "names", "own"] []
 F_turned_no : Fun K "turned_no" "turned_no" s_turned_no a.f_turned_no a.fd_turned_no
 m_turned_no : mg "turned_no" = some (.ref a.f_turned_no)
 k_turned_no : PySem.W.keepIn K (.ref a.f_turned_no) = true
 b_turned_no : Binds K a.fd_turned_no ["machine"] []
 F_names_of_both : Fun K "names_of_both" "names_of_both" s_names_of_both a.f_names_of_both a.fd_names_of_both
 m_names_of_both : mg "names_of_both" = some (.ref a.f_names_of_both)
 k_names_of_both : PySem.W.keepIn K (.ref a.f_names_of_both) = true
 b_names_of_both : Binds K a.fd_names_of_both ["one", "other"] []
 F_pairs_onward : FunC K "pairs_onward" "pairs_onward" s_pairs_onward a.f_pairs_onward a.fd_pairs_onward (.ref a.c_pairs_onward)
 h_pairs_onward : PySem.W.codeHdIn K a.c_pairs_onward a.t_pairs_onward = true
 m_pairs_onward : mg "pairs_onward" = some (.ref a.f_pairs_onward)
 k_pairs_onward : PySem.W.keepIn K (.ref a.f_pairs_onward) = true
 b_pairs_onward : Binds K a.fd_pairs_onward ["base", "one", "other"] []
 F_both_growth : FunC K "both_growth" "both_growth" s_both_growth a.f_both_growth a.fd_both_growth (.ref a.c_both_growth)
 h_both_growth : PySem.W.codeHdIn K a.c_both_growth a.t_both_growth = true
 m_both_growth : mg "both_growth" = some (.ref a.f_both_growth)
 k_both_growth : PySem.W.keepIn K (.ref a.f_both_growth) = true
 b_both_growth : Binds K a.fd_both_growth ["base", "one", "other"] []
 F_either_growth : FunC K "either_growth" "either_growth" s_either_growth a.f_either_growth a.fd_either_growth (.ref a.c_either_growth)
 h_either_growth : PySem.W.codeHdIn K a.c_either_growth a.t_either_growth = true
 m_either_growth : mg "either_growth" = some (.ref a.f_either_growth)
 k_either_growth : PySem.W.keepIn K (.ref a.f_either_growth) = true
 b_either_growth : Binds K a.fd_either_growth ["base", "one", "other"] []
 F_both_of : FunC K "both_of" "both_of" s_both_of a.f_both_of a.fd_both_of (.ref a.c_both_of)
 m_both_of : mg "both_of" = some (.ref a.f_both_of)
 k_both_of : PySem.W.keepIn K (.ref a.f_both_of) = true
 b_both_of : Binds K a.fd_both_of ["base", "one", "other", "most"] []
 d_both_of : ∃ t, Binds K a.fd_both_of ["base", "one", "other", "most"] [.int 2000 t]
 F_either_of : FunC K "either_of" "either_of" s_either_of a.f_either_of a.fd_either_of (.ref a.c_either_of)
 m_either_of : mg "either_of" = some (.ref a.f_either_of)
 k_either_of : PySem.W.keepIn K (.ref a.f_either_of) = true
 b_either_of : Binds K a.fd_either_of ["base", "one", "other", "most"] []
 d_either_of : ∃ t, Binds K a.fd_either_of ["base", "one", "other", "most"] [.int 2000 t]
 F_l_feed : Fun K "_law_feed" "_law_feed" s_l_feed a.f_l_feed a.fd_l_feed
 m_l_feed : mg "_law_feed" = some (.ref a.f_l_feed)
 k_l_feed : PySem.W.keepIn K (.ref a.f_l_feed) = true
 b_l_feed : Binds K a.fd_l_feed ["_law_script"] []
 F_l_draw : Fun K "_law_draw" "_law_draw" s_l_draw a.f_l_draw a.fd_l_draw
 m_l_draw : mg "_law_draw" = some (.ref a.f_l_draw)
 k_l_draw : PySem.W.keepIn K (.ref a.f_l_draw) = true
 b_l_draw : Binds K a.fd_l_draw ["_law_feed_here", "_law_many"] []
 F_l_after : Fun K "_law_after" "_law_after" s_l_after a.f_l_after a.fd_l_after
 m_l_after : mg "_law_after" = some (.ref a.f_l_after)
 k_l_after : PySem.W.keepIn K (.ref a.f_l_after) = true
 b_l_after : Binds K a.fd_l_after ["_law_word"] []
 F_l_names : Fun K "_law_names" "_law_names" s_l_names a.f_l_names a.fd_l_names
 m_l_names : mg "_law_names" = some (.ref a.f_l_names)
 k_l_names : PySem.W.keepIn K (.ref a.f_l_names) = true
 b_l_names : Binds K a.fd_l_names ["_law_feed_here", "_law_many"] []
 F_l_rings : Fun K "_law_rings" "_law_rings" s_l_rings a.f_l_rings a.fd_l_rings
 m_l_rings : mg "_law_rings" = some (.ref a.f_l_rings)
 k_l_rings : PySem.W.keepIn K (.ref a.f_l_rings) = true
 b_l_rings : Binds K a.fd_l_rings ["_law_moves"] []
 F_l_machine : Fun K "_law_machine" "_law_machine" s_l_machine a.f_l_machine a.fd_l_machine
 m_l_machine : mg "_law_machine" = some (.ref a.f_l_machine)
 k_l_machine : PySem.W.keepIn K (.ref a.f_l_machine) = true
 b_l_machine : Binds K a.fd_l_machine ["_law_feed_here", "_law_base", "_law_names_here", "_law_most"] []
 F_l_letters : Fun K "_law_letters" "_law_letters" s_l_letters a.f_l_letters a.fd_l_letters
 m_l_letters : mg "_law_letters" = some (.ref a.f_l_letters)
 k_l_letters : PySem.W.keepIn K (.ref a.f_l_letters) = true
 b_l_letters : Binds K a.fd_l_letters ["_law_base", "_law_many"] []
 F_l_grown : Fun K "_law_grown" "_law_grown" s_l_grown a.f_l_grown a.fd_l_grown
 m_l_grown : mg "_law_grown" = some (.ref a.f_l_grown)
 k_l_grown : PySem.W.keepIn K (.ref a.f_l_grown) = true
 b_l_grown : Binds K a.fd_l_grown ["_law_first", "_law_many", "_law_onward", "_law_most"] []
 F_l_alike : Fun K "_law_alike" "_law_alike" s_l_alike a.f_l_alike a.fd_l_alike
 m_l_alike : mg "_law_alike" = some (.ref a.f_l_alike)
 k_l_alike : PySem.W.keepIn K (.ref a.f_l_alike) = true
 b_l_alike : Binds K a.fd_l_alike ["_law_found", "_law_due_here"] []
 F_l_numbers : Fun K "_law_numbers" "_law_numbers" s_l_numbers a.f_l_numbers a.fd_l_numbers
 m_l_numbers : mg "_law_numbers" = some (.ref a.f_l_numbers)
 k_l_numbers : PySem.W.keepIn K (.ref a.f_l_numbers) = true
 b_l_numbers : Binds K a.fd_l_numbers ["_law_base", "_law_names_here", "_law_own"] []
 F_l_due : FunC K "_law_due" "_law_due" s_l_due a.f_l_due a.fd_l_due (.ref a.c_l_due)
 h_l_due : PySem.W.codeHdIn K a.c_l_due a.t_l_due = true
 m_l_due : mg "_law_due" = some (.ref a.f_l_due)
 k_l_due : PySem.W.keepIn K (.ref a.f_l_due) = true
 b_l_due : Binds K a.fd_l_due ["_law_base", "_law_one", "_law_other"] []
 F_l_ring : Fun K "_law_ring" "_law_ring" s_l_ring a.f_l_ring a.fd_l_ring
 m_l_ring : mg "_law_ring" = some (.ref a.f_l_ring)
 k_l_ring : PySem.W.keepIn K (.ref a.f_l_ring) = true
 b_l_ring : Binds K a.fd_l_ring ["_law_rooms"] []
 F_l_two_rings : Fun K "_law_two_rings" "_law_two_rings" s_l_two_rings a.f_l_two_rings a.fd_l_two_rings
 m_l_two_rings : mg "_law_two_rings" = some (.ref a.f_l_two_rings)
 k_l_two_rings : PySem.W.keepIn K (.ref a.f_l_two_rings) = true
 b_l_two_rings : Binds K a.fd_l_two_rings ["_law_rooms"] []
 F_law : Fun K "law" "law" s_law a.f_law a.fd_law
 m_law : mg "law" = some (.ref a.f_law)
 z_range : mg "range" = none
 z_tuple : mg "tuple" = none
 z_len : mg "len" = none
 z_sorted : mg "sorted" = none
 z_abs : mg "abs" = none
 z_isinstance : mg "isinstance" = none
 z_list : mg "list" = none
 z_zip : mg "zip" = none
 z_bool : mg "bool" = none
 z_set : mg "set" = none
 z_min : mg "min" = none
 z_all : mg "all" = none
 z_int : mg "int" = none
 tne01 : a.t_pairs_onward ≠ a.t_both_growth
 tne02 : a.t_pairs_onward ≠ a.t_either_growth
 tne03 : a.t_pairs_onward ≠ a.t_l_due
 tne12 : a.t_both_growth ≠ a.t_either_growth
 tne13 : a.t_both_growth ≠ a.t_l_due
 tne23 : a.t_either_growth ≠ a.t_l_due
theorem while_m {c : TT} {tb : TS} {D : Ends} {σ : St} {H : Hp} (W : Nat → St → Hp → Prop) (h0 : ∃ m, W m σ H)
  (hs : ∀ m σ H, W m σ H → c σ H fun b H1 => if b = true then tb { D with nx := fun σ' H' => ∃ m', m' < m ∧ W m' σ' H', ct := fun σ' H' => ∃ m', m' < m ∧ W m' σ' H', bk := D.nx } σ H1 else D.nx σ H1)
  (mono : ∀ σ H Q Q', (∀ b H1, Q b H1 → Q' b H1) → c σ H Q → c σ H Q') : tWhile c tb D σ H := by
 refine ⟨W, h0, fun m σ H w => mono σ H _ _ (fun b H1 q => ?_) (hs m σ H w)⟩
 cases b with
 | true => exact ⟨_, fun σ' H' p => p, q⟩
 | false => exact q
theorem dgetR {H : Hp} {D : Addr} {kvs : List (Key × V)} {x : Str} {v : V} (h : Rd H D (.dK kvs)) (e : valV kvs (Sum.inr x) = some v) : DGet H D (.str x) (some v) := .inl ⟨kvs, Sum.inr x, h, rfl, e.symm⟩
def fd (L : Addr) (n sd : Int) : List (Key × V) := [(Sum.inr ("left" : Str), .ref L), (Sum.inr ("number" : Str), .int n), (Sum.inr ("seed" : Str), .int sd)]
theorem fd_left (L : Addr) (n sd : Int) : valV (fd L n sd) (Sum.inr ("left" : Str)) = some (.ref L) := valV_pos rfl
theorem fd_number (L : Addr) (n sd : Int) : valV (fd L n sd) (Sum.inr ("number" : Str)) = some (.int n) := by
 unfold fd
 rw [valV_neg (show ¬ ((Sum.inr ("left" : Str) : Key) = Sum.inr ("number" : Str)) by decide +kernel), valV_pos rfl]
theorem fd_seed (L : Addr) (n sd : Int) : valV (fd L n sd) (Sum.inr ("seed" : Str)) = some (.int sd) := by
 unfold fd
 rw [valV_neg (show ¬ ((Sum.inr ("left" : Str) : Key) = Sum.inr ("seed" : Str)) by decide +kernel), valV_neg (show ¬ ((Sum.inr ("number" : Str) : Key) = Sum.inr ("seed" : Str)) by decide +kernel), valV_pos rfl]
theorem fd_putN (L : Addr) (n sd v : Int) : putK (fd L n sd) (Sum.inr ("number" : Str)) (.int v) = fd L v sd := by
 unfold putK fd
 have a1 : ¬ ((Sum.inr ("left" : Str) : Key) = Sum.inr ("number" : Str)) := by decide +kernel
 have a2 : ¬ ((Sum.inr ("seed" : Str) : Key) = Sum.inr ("number" : Str)) := by decide +kernel
 simp only [List.any_cons, List.any_nil, List.map_cons, List.map_nil, a1, a2, if_false, if_true, decide_true, decide_false, Bool.true_or, Bool.or_true]
theorem fd_putS (L : Addr) (n sd v : Int) : putK (fd L n sd) (Sum.inr ("seed" : Str)) (.int v) = fd L n v := by
 unfold putK fd
 have a1 : ¬ ((Sum.inr ("left" : Str) : Key) = Sum.inr ("seed" : Str)) := by decide +kernel
 have a2 : ¬ ((Sum.inr ("number" : Str) : Key) = Sum.inr ("seed" : Str)) := by decide +kernel
 simp only [List.any_cons, List.any_nil, List.map_cons, List.map_nil, a1, a2, if_false, if_true, decide_true, decide_false, Bool.true_or, Bool.or_true]
structure Feed (H : Hp) (F L : Addr) : Prop where
 ex : ∃ (ms : List Int) (n sd : Int), H F = some (.dK (fd L n sd)) ∧ H L = some (.lst (ms.map V.int)) ∧ 0 ≤ n ∧ (∀ m ∈ ms, 0 ≤ m) ∧ 0 ≤ sd ∧ sd < 2147483648
theorem Feed.same {H H' : Hp} {F L : Addr} (h : Feed H F L) (s : Same H H') : Feed H' F L := by
 obtain ⟨ms, n, sd, a, b, c⟩ := h.ex
 exact ⟨ms, n, sd, s _ _ a, s _ _ b, c⟩
inductive spDrawI (vs : List V) (H : Hp) (Q : VK) (E_3 : XK) : Prop where
 | mk (F L : Addr) (m : Nat) (h0_ : vs = [.ref F, .int m]) (h1_ : Feed H F L) (h2_ : 0 < m) (h3_ : m < 2 ^ 1000) (h4_ : ∀ (r : Nat) (H' : Hp), r < m → KB2 F L H H' → Feed H' F L → Q (.int (r : Nat)) H')
def spDraw : Sp := fun vs H Q E_3 => spDrawI vs H Q E_3
section
variable {P : Program} {w : World} {K : PySem.W.Frag} {mg : Str → Option Value} {base : Heap}
theorem sc_l_draw : FnScope ["_law_feed_here", "_law_many", "_law_found", "_law_one", "_law_two"] ["_law_feed_here", "_law_many"] (defScope s_l_draw) := ⟨rfl, rfl, rfl, by decide +kernel, rfl, by decide +kernel, by decide +kernel⟩
theorem ok_l_draw {a : Adr} (T : Txt K mg a) : FnOk P w K mg base CX0 1 a.f_l_draw a.fd_l_draw ["_law_feed_here", "_law_many"] spDraw := by
 refine T.F_l_draw.ok sc_l_draw (fun vs H Q E h => ?_) (fun cdv A outer s H vs Q E hr h => ?_)
 ·obtain ⟨F, L, m, rfl, _⟩ := h
  rfl
 ·obtain ⟨F, L, many, rfl, hf, hm0, hm1, k⟩ := h
  refine ⟨_, (pss_cons (ps_while PassesOwn.never (PW.pt (pw_and (pt_cmpR op_eq (pe_dget (hu_of hr) (pv 0) pe_str (fun _ _ => rfl)) pe_int (nomark _)) (pw_and1 (pt_cmpR (op_neD K hr.units) (pe_dget (hu_of hr) (pv 0) pe_str (fun _ _ => rfl)) (pe_lst pa_nil) (nomark _)))))
   (pss_one (ps_dput (hu_of hr) (pv 0) pe_str (pe_bm0 PySem.F.plainAttrs_list PySem.F.slot_list_pop PySem.F.type_list_pop mt_pop (pe_dget (hu_of hr) (pv 0) pe_str (fun _ _ => rfl))) rfl)))
  (pss_cons (ps_if (pt_cmpR op_gt (pe_dget (hu_of hr) (pv 0) pe_str (fun _ _ => rfl)) pe_int (nomark _))
   (pss_cons (ps_set (i := 2) sc_l_draw.nd rfl (Or.inl rfl) (pe_op op_modP (pe_dget (hu_of hr) (pv 0) pe_str (fun _ _ => rfl)) (pv 1)))
   (pss_cons (ps_dput (hu_of hr) (pv 0) pe_str (pe_op op_fdivB (pe_dget (hu_of hr) (pv 0) pe_str (fun _ _ => rfl)) (pv 1)) rfl)
   (pss_one (ps_ret (pv 2)))))
   pss_nil)
  (pss_cons (ps_set (i := 3) sc_l_draw.nd rfl (Or.inl rfl) (pe_op op_modP (pe_op op_add (pe_op op_mul (pe_dget (hu_of hr) (pv 0) pe_str (fun _ _ => rfl)) pe_int) pe_int) pe_int))
  (pss_cons (ps_dput (hu_of hr) (pv 0) pe_str (pe_op op_modP (pe_op op_add (pe_op op_mul (pv 3) pe_int) pe_int) pe_int) rfl)
  (pss_cons (ps_set (i := 4) sc_l_draw.nd rfl (Or.inl rfl) (pe_op op_modP (pe_op op_mul (pe_dget (hu_of hr) (pv 0) pe_str (fun _ _ => rfl)) (pe_dget (hu_of hr) (pv 0) pe_str (fun _ _ => rfl))) pe_int))
  (pss_one (ps_ret (pe_op op_modP (pe_op op_add (pe_op op_mul (pe_op op_modP (pe_op op_mul (pv 3) (pv 3)) pe_int) pe_int) (pv 4)) (pv 1))))))))), ?_⟩
  obtain ⟨ms0, n0, sd0, e0, l0, hn0, hms0, hs0, hs1⟩ := hf.ex
  have nFL : F ≠ L := ne_of e0 l0 (fun z => nomatch z)
  have put : ∀ {H' : Hp} {kv : List (Key × V)}, H' F = some (.dK kv) → kv.length = 3 → kv.length < sizeLine := fun _ z => by rw [z]; decide
  refine while_m (fun m σ H' => ∃ (ms : List Int) (n sd : Int), m = ms.length ∧ σ = [some (.ref F), some (.int (many : Nat)), none, none, none] ∧ KB2 F L H H' ∧ H' F = some (.dK (fd L n sd)) ∧ H' L = some (.lst (ms.map V.int)) ∧ 0 ≤ n ∧ (∀ m ∈ ms, 0 ≤ m) ∧ 0 ≤ sd ∧ sd < 2147483648)
   ⟨_, ms0, n0, sd0, rfl, rfl, fun b o e _ _ => e, e0, l0, hn0, hms0, hs0, hs1⟩ ?_ ?_
  ·rintro m σ H1 ⟨ms, n, sd, rfl, rfl, k1, e1, l1, hn, hms, hs, hs'⟩
   have fin3 : ∀ kv : List (Key × V), kv.length = 3 → kv.length < sizeLine := fun kv z => by rw [z]; decide
   refine ⟨_, rfl, F, .int n, rfl, dgetR (.inl e1) (fd_number ..), rfl, _, rfl, ?_⟩
   refine ite2 (fun hz => ?_) (fun hz => ?_)
   ·have hz' : n = 0 := V.int.inj (of_decide_eq_true hz)
    subst hz'
    refine ⟨_, rfl, F, .ref L, rfl, dgetR (.inl e1) (fd_left ..), by decide, fun E hE => ?_⟩
    have sE := Same.new (o := .lst []) hE
    have e2 := sE _ _ e1
    have l2 := sE _ _ l1
    have k2 : KB2 F L H (upd H1 E (.lst [])) := k1.trans sE.kb2
    refine ⟨⟨.lst (ms.map .int), .lst [], dat_lst (.of l2) (dats_ints ms), dat_lst (.of upd_same) dats_nil, rfl, rfl, ?dep, _, rfl, ?_⟩, .lst (ms.map .int), .lst [], dat_lst (.of l2) (dats_ints ms), dat_lst (.of upd_same) dats_nil, .inr ⟨_, _, rfl, rfl⟩⟩
    case dep => rw [Dt.dep, deps_ints]; decide
    have eb : (if true = true then !(Dt.lst (ms.map .int)).beq (.lst []) else (Dt.lst (ms.map .int)).beq (.lst [])) = decide (ms ≠ []) := by
     rw [if_pos rfl, Dt.beq]
     cases ms with
     | nil => simp [Dt.beqs]
     | cons y ys => simp [Dt.beqs]
    rw [eb]
    generalize upd H1 E (.lst []) = H2 at e2 l2 k2 ⊢
    refine ite2 (fun hne => ?_) (fun hem => ?_)
    ·have hne' : ms ≠ [] := of_decide_eq_true hne
     have hl : 0 < ms.length := List.length_pos_iff.mpr hne'
     obtain ⟨x, hx⟩ : ∃ x, ms[ms.length - 1]? = some x := ⟨_, List.getElem?_eq_getElem (by omega)⟩
     have hx0 := hms x (List.mem_of_getElem? hx)
     refine ⟨_, rfl, F, .ref L, rfl, dgetR (.inl e2) (fd_left ..), .inl ⟨rfl, _, .of l2⟩, L, _, .int x, rfl, rfl, l2, by rw [List.length_map, List.getElem?_map, hx]; rfl, ?_⟩
     have e3 : (upd H2 L (.lst (ms.map V.int).dropLast)) F = some (.dK (fd L 0 sd)) := by rw [upd_ne nFL]; exact e2
     refine ⟨_, rfl, F, _, rfl, DPut.k (k := Sum.inr ("number" : Str)) e3 (fin3 _ rfl), ?_⟩
     refine ⟨ms.dropLast.length, by rw [List.length_dropLast]; omega, ms.dropLast, x, sd, rfl, rfl, ?_, ?_, ?_, hx0, fun m hm => hms m (List.dropLast_subset _ hm), hs, hs'⟩
     ·exact k2.trans ((KB.r KB.write).trans (KB.l KB.write))
     ·rw [upd_same, fd_putN]
     ·rw [upd_ne nFL.symm, upd_same, List.map_dropLast]
    ·
     refine ⟨_, rfl, F, .int 0, rfl, dgetR (.inl e2) (fd_number ..), _, _, rfl, rfl, _, rfl, ?_⟩
     refine ite2 (fun z => absurd (of_decide_eq_true z) (by decide)) (fun _ => ?_)
     refine ⟨_, rfl, F, .int sd, rfl, dgetR (.inl e2) (fd_seed ..), _, _, rfl, rfl, .inr (by constructor <;> decide), _, _, rfl, rfl, _, _, rfl, rfl, cpos (by decide), ?_⟩
     have o0 : 0 ≤ (sd * 48271 + 7919) % 2147483647 := Int.emod_nonneg _ (by decide)
     have o1 : (sd * 48271 + 7919) % 2147483647 < 2147483647 := Int.emod_lt_of_pos _ (by decide)
     dsimp only [gName]
     generalize (sd * 48271 + 7919) % 2147483647 = one at o0 o1 ⊢
     refine ⟨_, rfl, _, _, rfl, rfl, .inr (by constructor <;> decide), _, _, rfl, rfl, _, _, rfl, rfl, cpos (by decide), _, rfl, F, _, rfl, DPut.k (k := Sum.inr ("seed" : Str)) e2 (fin3 _ rfl), ?_⟩
     have t0 : 0 ≤ (one * 40692 + 104729) % 2147483399 := Int.emod_nonneg _ (by decide)
     have t1 : (one * 40692 + 104729) % 2147483399 < 2147483399 := Int.emod_lt_of_pos _ (by decide)
     rw [fd_putS]
     generalize (one * 40692 + 104729) % 2147483399 = s2 at t0 t1 ⊢
     have e3 : (upd H2 F (.dK (fd L 0 s2))) F = some (.dK (fd L 0 s2)) := upd_same
     have l3 : (upd H2 F (.dK (fd L 0 s2))) L = some (.lst (ms.map V.int)) := by rw [upd_ne nFL.symm]; exact l2
     have k3 : KB2 F L H (upd H2 F (.dK (fd L 0 s2))) := k2.trans (KB.l KB.write)
     generalize upd H2 F (.dK (fd L 0 s2)) = H3 at e3 l3 k3 ⊢
     refine ⟨_, rfl, F, .int s2, rfl, dgetR (.inl e3) (fd_seed ..), _, rfl, F, .int s2, rfl, dgetR (.inl e3) (fd_seed ..), _, _, rfl, rfl, .inl (by constructor <;> omega), _, _, rfl, rfl, cpos (by decide), ?_⟩
     refine ⟨_, rfl, _, rfl, _, _, rfl, rfl, .inl (by constructor <;> omega), _, _, rfl, rfl, cpos (by decide), _, _, rfl, rfl, .inr (by constructor <;> decide), _, rfl, _, _, rfl, rfl, _, rfl, _, _, rfl, rfl, cpos (by omega), ?_⟩
     have f0 : 0 ≤ (one * one % 2147483629 * 2147483563 + s2 * s2 % 2147483563) % (many : Int) := Int.emod_nonneg _ (by omega)
     have f1 : (one * one % 2147483629 * 2147483563 + s2 * s2 % 2147483563) % (many : Int) < (many : Int) := Int.emod_lt_of_pos _ (by omega)
     obtain ⟨r, hr'⟩ : ∃ r : Nat, (one * one % 2147483629 * 2147483563 + s2 * s2 % 2147483563) % (many : Int) = (r : Int) := ⟨_, (Int.toNat_of_nonneg f0).symm⟩
     have := k r H3 (by omega) k3 ⟨ms, 0, s2, e3, l3, Int.le_refl _, hms, t0, by omega⟩
     rw [← hr'] at this
     exact this
   ·
    have hn0' : 0 < n := by
     have : n ≠ 0 := fun z => hz (by rw [z]; simp)
     omega
    refine iteF ⟨_, rfl, F, .int n, rfl, dgetR (.inl e1) (fd_number ..), _, _, rfl, rfl, _, rfl, ?_⟩
    refine ite2 (fun _ => ?_) (fun z => absurd (decide_eq_true hn0') z)
    refine ⟨_, rfl, F, .int n, rfl, dgetR (.inl e1) (fd_number ..), _, rfl, _, _, rfl, rfl, cpos (by omega), ?_⟩
    refine ⟨_, rfl, F, .int n, rfl, dgetR (.inl e1) (fd_number ..), _, rfl, _, _, rfl, rfl, ⟨by omega, ?log⟩, _, rfl, F, _, rfl, DPut.k (k := Sum.inr ("number" : Str)) e1 (fin3 _ rfl), ?_⟩
    case log =>
     rw [Int.natAbs_natCast, Nat.log2_lt (by omega)]
     exact Nat.lt_of_lt_of_le hm1 (Nat.pow_le_pow_right (by decide) (by decide))
    refine ⟨_, rfl, ?_⟩
    have f0 : 0 ≤ n % (many : Int) := Int.emod_nonneg _ (by omega)
    have f1 : n % (many : Int) < (many : Int) := Int.emod_lt_of_pos _ (by omega)
    obtain ⟨r, hr'⟩ : ∃ r : Nat, n % (many : Int) = (r : Int) := ⟨_, (Int.toNat_of_nonneg f0).symm⟩
    rw [fd_putN]
    have := k r (upd H1 F (.dK (fd L (n / (many : Int)) sd))) (by omega) (k1.trans (KB.l KB.write)) ⟨ms, n / (many : Int), sd, upd_same, by rw [upd_ne nFL.symm]; exact l1, Int.ediv_nonneg hn (by omega), hms, hs, hs'⟩
    rw [← hr'] at this
    exact this
  ·rintro σ H Q Q' hQ ⟨v, e1, a, y, e2, e3, e4, b, e5, q⟩
   refine ⟨v, e1, a, y, e2, e3, e4, b, e5, ?_⟩
   revert q
   cases b with
   | false => exact fun q => hQ _ _ q
   | true =>
    rintro ⟨v, e1, a, y, e2, e3, z, q⟩
    refine ⟨v, e1, a, y, e2, e3, z, fun p hp => ?_⟩
    obtain ⟨⟨d, d', a1, a2, a3, a4, a5, b, a6, q⟩, z2⟩ := q p hp
    exact ⟨⟨d, d', a1, a2, a3, a4, a5, b, a6, hQ _ _ q⟩, z2⟩
inductive spFeedI (K : PySem.W.Frag) (vs : List V) (H : Hp) (Q : VK) (E_3 : XK) : Prop where
 | mk (a : Addr) (ns : List Int) (h0_ : vs = [.ref a]) (h1_ : SqL K H a (ns.map V.int)) (h2_ : ns.length ≤ 63) (h3_ : ∀ (F L : Addr) (H' : Hp), H F = none → H L = none → Same H H' → Feed H' F L → Q (.ref F) H')
def spFeed (K : PySem.W.Frag) : Sp := fun vs H Q E_3 => spFeedI K vs H Q E_3
theorem cutTake (ms : List Int) (n : Nat) : cutV (ms.map V.int) none (some (n : Int)) = (ms.take n).map V.int := by
 unfold cutV
 rw [show HT.sIx (ms.map V.int).length 0 none = 0 from rfl, HT.sIx_nat]
 rw [List.drop_zero, List.length_map, Nat.sub_zero, ← List.map_take]
 congr 1
 by_cases h : n ≤ ms.length
 ·rw [Nat.min_eq_left h]
 ·rw [Nat.min_eq_right (by omega), List.take_of_length_le (Nat.le_refl _), List.take_of_length_le (by omega)]
theorem fd_merge (L : Addr) (n sd : Int) : mergeK [] (fd L n sd) = fd L n sd := by
 have a1 : ¬ ((Sum.inr ("left" : Str) : Key) = Sum.inr ("number" : Str)) := by decide +kernel
 have a2 : ¬ ((Sum.inr ("left" : Str) : Key) = Sum.inr ("seed" : Str)) := by decide +kernel
 have a3 : ¬ ((Sum.inr ("number" : Str) : Key) = Sum.inr ("seed" : Str)) := by decide +kernel
 unfold mergeK fd
 simp only [List.foldl_cons, List.foldl_nil]
 rw [putK_new _ valV_nil]
 rw [putK_new _ (show valV ([] ++ [((Sum.inr ("left" : Str) : Key), V.ref L)]) (Sum.inr ("number" : Str)) = none from (valV_neg a1).trans valV_nil)]
 rw [putK_new _ (show valV ([] ++ [((Sum.inr ("left" : Str) : Key), V.ref L)] ++ [((Sum.inr ("number" : Str) : Key), V.int n)]) (Sum.inr ("seed" : Str)) = none from (valV_neg a2).trans ((valV_neg a3).trans valV_nil))]
 rfl
theorem sc_l_feed : FnScope ["_law_script", "_law_seed", "_law_cell", "_law_great"] ["_law_script"] (defScope s_l_feed) := ⟨rfl, rfl, rfl, by decide +kernel, rfl, by decide +kernel, by decide +kernel⟩
theorem ok_l_feed {a : Adr} (T : Txt K mg a) : FnOk P w K mg base CX0 1 a.f_l_feed a.fd_l_feed ["_law_script"] (spFeed K) := by
 refine T.F_l_feed.ok sc_l_feed (fun vs H Q E h => ?_) (fun cdv A outer s H vs Q E hr h => ?_)
 ·obtain ⟨sa, ns, rfl, _⟩ := h
  rfl
 ·obtain ⟨sa, ns, rfl, hS, hns, k⟩ := h
  refine ⟨_, (pss_cons (ps_set (i := 1) sc_l_feed.nd rfl (Or.inl rfl) pe_int)
  (pss_cons (ps_for PassesOwn.never rfl (pi_list (pe_slice (sl_listK K) (pv 0) po_none (po_some pe_int))) (pg_name (i := 2) sc_l_feed.nd rfl (Or.inl rfl))
   (pss_one (ps_set (i := 1) sc_l_feed.nd rfl (Or.inl rfl) (pe_op op_modP (pe_op op_add (pe_op op_mul (pv 1) pe_int) (pv 2)) pe_int))))
  (pss_cons (ps_setComp (i := 3) (CompScope.mk' (esc := defScope s_l_feed) (N := ["_law_script", "_law_seed", "_law_cell", "_law_great"]) (own := ["_law_cell"]) (frn := []) (frj := []) rfl rfl (by decide +kernel)) rfl (pi_list (pe_slice (sl_listK K) (pv 0) po_none (po_some pe_int))) (fun _ _ _ _ => (pg_name (i := 0) (show List.Nodup (["_law_cell"] : List Str) by decide +kernel) rfl (Or.inl rfl))) (fun _ _ _ _ => (pifs_one (pt_cmpR op_ge (pe_callB call_abs (by rfl) T.z_abs bt_abs (pa_cons (pv 0) pa_nil)) (pe_op op_pow pe_int pe_int) (nomark _)))) (fun _ _ _ _ => (pe_callB call_abs (by rfl) T.z_abs bt_abs (pa_cons (pv 0) pa_nil))) sc_l_feed.nd rfl rfl)
  (pss_one (ps_ret (pe_disp (pps_cons pe_str (pe_revL K (pv 3) po_none po_none (po_some (pe_un un_neg pe_int))) (pps_cons pe_str pe_int (pps_cons pe_str (pv 1) pps_nil))) rfl rfl (fun z => nomatch z) (by decide))))))), ?_⟩
  have ec : cutV (ns.map V.int) none (some (63 : Int)) = (ns.take 63).map V.int := by rw [show (some (63 : Int)) = some ((63 : Nat) : Int) from rfl, cutTake]
  dsimp only [tSeq, tAsg, tC, gName]
  refine ⟨_, rfl, _, rfl, sa, _, rfl, hS, fun p hp => ?_⟩
  rw [ec]
  have sp := Same.new (o := .lst ((ns.take 63).map V.int)) hp
  refine ⟨p, rfl, ⟨_, .of upd_same⟩, for_list (xs := (ns.take 63).map V.int) (fun i σ H' => ∃ (sd : Int) (v2 : Option V), σ = [some (.ref sa), some (.int sd), v2, none] ∧ H' = upd H p (.lst ((ns.take 63).map V.int)) ∧ 0 ≤ sd ∧ sd < 2147483648)
   ⟨7919, none, rfl, rfl, by decide, by decide⟩ (by rintro i σ H' _ ⟨_, _, _, e, _⟩; rw [e]; exact .of upd_same) ?_ ?_⟩
  ·rintro i x σ H1 hx ⟨sd, v2, rfl, rfl, h0, h1⟩
   obtain ⟨c, rfl, _⟩ := intItem hx
   refine ⟨_, rfl, _, _, rfl, rfl, .inr (by constructor <;> decide), _, rfl, _, _, rfl, rfl, _, _, rfl, rfl, cpos (by decide), _, _, rfl, rfl, Int.emod_nonneg _ (by decide), ?_⟩
   have := Int.emod_lt_of_pos (sd * 69621 + c) (show (0 : Int) < 2147483647 by decide)
   omega
  rintro σ H1 ⟨sd, v2, rfl, rfl, h0, h1⟩
  generalize upd H p (.lst ((ns.take 63).map V.int)) = H1 at sp ⊢
  refine ⟨_, rfl, _, rfl, sa, _, rfl, sp.seq hS, fun p2 hp2 => ?_⟩
  rw [ec]
  have sp2 := Same.new (o := .lst ((ns.take 63).map V.int)) hp2
  refine ⟨p2, rfl, ⟨_, .of upd_same⟩, fun C hC => ?_⟩
  have nC : p2 ≠ C := ne_of_none upd_same hC
  have hC1 : H1 C = none := sp2.free hC
  refine comp_list (xs := (ns.take 63).map V.int) (fun i σ H' => ∃ (v : Option V) (ms : List Int), σ = [v] ∧ Same H1 H' ∧ H' p2 = some (.lst ((ns.take 63).map V.int)) ∧ H' C = some (.lst (ms.map V.int)) ∧ (∀ m ∈ ms, 0 ≤ m) ∧ ms.length ≤ i)
   ⟨none, [], ?sg, sp2.trans (Same.new hC), (Same.new hC) _ _ upd_same, upd_same, (fun m hm => by cases hm), Nat.le_refl _⟩ (by rintro i σ H' _ ⟨_, _, _, _, h, _⟩; exact .of h) ?_ ?_
  case sg => rfl
  ·rintro i x σ H2 hx ⟨v, ms, rfl, s2, e2, c2, hms, lm⟩
   obtain ⟨c, rfl, hc⟩ := intItem hx
   have hi : i < (ns.take 63).length := (List.getElem?_eq_some_iff.mp hc).1
   rw [List.length_take] at hi
   refine ⟨_, rfl, c, rfl, _, _, rfl, rfl, ⟨by decide, by decide, by decide⟩, _, _, rfl, rfl, _, rfl, ?_⟩
   refine ite2 (fun _ => ?_) (fun _ => ⟨_, ms, rfl, s2, e2, c2, hms, by omega⟩)
   refine ⟨_, rfl, c, rfl, _, c2, ?_, _, ms ++ [if c < 0 then -c else c], rfl, s2.kbn hC1 KB.write, by rw [upd_ne nC]; exact e2, ?_, ?_, ?_⟩
   ·rw [List.length_map]; exact Nat.lt_of_le_of_lt (show ms.length ≤ 100 by omega) (by decide)
   ·rw [upd_same, List.map_append]; rfl
   ·intro m hm
    rcases List.mem_append.mp hm with hm | hm
    ·exact hms m hm
    ·rw [List.mem_singleton.mp hm]; split <;> omega
   ·rw [List.length_append]; show ms.length + 1 ≤ i + 1; omega
  rintro σ H2 ⟨v, ms, rfl, s2, e2, c2, hms, lm⟩
  have s02 := sp.trans s2
  refine fun F hF => ?_
  have sF := Same.new (o := .dK []) hF
  refine ⟨_, rfl, _, rfl, _, rfl, C, _, rfl, rfl, rfl, rfl, .of (sF _ _ c2), fun L hL => ⟨_, rfl, ?_⟩⟩
  have sL := Same.new (o := .lst (ms.map V.int).reverse) hL
  have nFL : F ≠ L := ne_of_none upd_same hL
  refine ⟨sL _ _ upd_same, fd L 0 sd, rfl, (by show 3 ≤ 15; decide), ?_⟩
  rw [fd_merge]
  refine k F L _ (s02.free hF) ((s02.trans sF).free hL) (((s02.trans sF).trans sL).kbn (s02.free hF) KB.write) ⟨ms.reverse, 0, sd, upd_same, ?_, Int.le_refl _, fun m hm => hms m (List.mem_reverse.mp hm), h0, h1⟩
  rw [upd_ne nFL.symm, upd_same, List.map_reverse]
def Lf (x y : V) : Prop := (∃ i : Int, x = .int i ∧ y = .int i) ∨ (∃ b : Bool, x = .bl b ∧ y = .bl b) ∨ ∃ s : Str, x = .str s ∧ y = .str s
def Tr (H : Hp) : Nat → V → V → Prop
 | 0, _, _ => False
 | n + 1, x, y => Lf x y ∨ ∃ (p q : Addr) (xs ys : List V), x = .ref p ∧ y = .ref q ∧ H p = some (.tup xs) ∧ H q = some (.tup ys) ∧ xs.length = ys.length ∧ xs.length ≤ 3000 ∧ ∀ (i : Nat) (u v : V), xs[i]? = some u → ys[i]? = some v → Tr H n u v
theorem Tr.keep {H H' : Hp} (k : KTu H H') : ∀ {n : Nat} {x y : V}, Tr H n x y → Tr H' n x y
 | 0, _, _, h => h
 | n + 1, x, y, h => by
  rcases h with h | ⟨p, q, xs, ys, e1, e2, h1, h2, h3, h4, h5⟩
  ·exact .inl h
  ·exact .inr ⟨p, q, xs, ys, e1, e2, k _ _ h1, k _ _ h2, h3, h4, fun i u v hu hv => (h5 i u v hu hv).keep k⟩
inductive spAlikeI (n : Nat) (vs : List V) (H : Hp) (Q : VK) (E_3 : XK) : Prop where
 | mk (x y : V) (h0_ : vs = [x, y]) (h1_ : Tr H n x y) (h2_ : ∀ H', Same H H' → Q (.bl true) H')
def spAlike (n : Nat) : Sp := fun vs H Q E_3 => spAlikeI n vs H Q E_3
theorem all_rep (n : Nat) : (List.replicate n true).all id = true := by
 rw [List.all_eq_true]
 intro b hb
 rw [List.eq_of_mem_replicate hb]; rfl
theorem kit_tl : PySem.W.kitOne K (.type "tuple") (.type "list") = some false := by rfl
theorem kit_it : PySem.W.kitOne K (.type "int") (.type "tuple") = some false := by rfl
theorem kit_il : PySem.W.kitOne K (.type "int") (.type "list") = some false := by rfl
theorem kit_bt : PySem.W.kitOne K (.type "bool") (.type "tuple") = some false := by rfl
theorem kit_bl : PySem.W.kitOne K (.type "bool") (.type "list") = some false := by rfl
theorem kit_bi : PySem.W.kitOne K (.type "bool") (.type "int") = some true := by rfl
theorem kit_st : PySem.W.kitOne K (.type "str") (.type "tuple") = some false := by rfl
theorem kit_sl : PySem.W.kitOne K (.type "str") (.type "list") = some false := by rfl
theorem kit_sb : PySem.W.kitOne K (.type "str") (.type "bool") = some false := by rfl
theorem kit_si : PySem.W.kitOne K (.type "str") (.type "int") = some false := by rfl
theorem sc_l_alike : FnScope ["_law_found", "_law_due_here"] ["_law_found", "_law_due_here"] (defScope s_l_alike) := ⟨rfl, rfl, rfl, by decide +kernel, rfl, by decide +kernel, by decide +kernel⟩
set_option maxHeartbeats 16000000 in
theorem ok_l_alikeS {a : Adr} (T : Txt K mg a) {n : Nat} (G_l_alike : FnOk P w K mg base CX0 (n + 1) a.f_l_alike a.fd_l_alike ["_law_found", "_law_due_here"] (spAlike n)) : FnOk P w K mg base CX0 (n + 1 + 1) a.f_l_alike a.fd_l_alike ["_law_found", "_law_due_here"] (spAlike (n + 1)) := by
 refine T.F_l_alike.ok sc_l_alike (fun vs H Q E h => ?_) (fun cdv A outer s H vs Q E hr h => ?_)
 ·obtain ⟨x, y, rfl, _⟩ := h
  rfl
 ·obtain ⟨x, y, rfl, tr, k⟩ := h
  have hr_l_alike : Room (n + 1) _ := hr
  refine ⟨_, (pss_cons (ps_if (PW.pt (pw_or (pt_truth (pe_callB (call_isiK K) (by rfl) T.z_isinstance bt_isinstance (pa_cons (pv 1) (pa_cons (pe_bltn (v := .ty "tuple") rfl T.z_tuple bt_tuple rfl) pa_nil))) (fun _ => rfl)) (pw_or1 (pt_truth (pe_callB (call_isiK K) (by rfl) T.z_isinstance bt_isinstance (pa_cons (pv 1) (pa_cons (pe_bltn (v := .ty "list") rfl T.z_list bt_list rfl) pa_nil))) (fun _ => rfl)))))
   (pss_cons (ps_if (PW.pt (pw_or (pt_cmpR op_ne (pe_callB (call_isiK K) (by rfl) T.z_isinstance bt_isinstance (pa_cons (pv 0) (pa_cons (pe_bltn (v := .ty "tuple") rfl T.z_tuple bt_tuple rfl) pa_nil))) (pe_callB (call_isiK K) (by rfl) T.z_isinstance bt_isinstance (pa_cons (pv 1) (pa_cons (pe_bltn (v := .ty "tuple") rfl T.z_tuple bt_tuple rfl) pa_nil))) (nomark _)) (pw_or1 (pt_cmpR op_ne (pe_callB (call_isiK K) (by rfl) T.z_isinstance bt_isinstance (pa_cons (pv 0) (pa_cons (pe_bltn (v := .ty "list") rfl T.z_list bt_list rfl) pa_nil))) (pe_callB (call_isiK K) (by rfl) T.z_isinstance bt_isinstance (pa_cons (pv 1) (pa_cons (pe_bltn (v := .ty "list") rfl T.z_list bt_list rfl) pa_nil))) (nomark _)))))
    (pss_one (ps_ret pe_bl))
    pss_nil)
   (pss_one (ps_ret (pe_and (pe_cmpR op_eq (pe_callB (call_lenK K) (by rfl) T.z_len bt_len (pa_cons (pv 0) pa_nil)) (pe_callB (call_lenK K) (by rfl) T.z_len bt_len (pa_cons (pv 1) pa_nil)) (nomark _)) (pe_one (pe_callB (call_allK K rfl) (by rfl) T.z_all bt_all (pa_cons (pe_comp (CompScope.mk' (esc := defScope s_l_alike) (N := ["_law_found", "_law_due_here"]) (own := ["_law_one", "_law_other"]) (frn := []) (frj := []) rfl rfl (by decide +kernel)) rfl (pi_zipP rfl T.z_zip (pa_cons (pv 0) (pa_cons (pv 1) pa_nil))) (fun _ _ _ _ => (pg_tupK K (n := 2) rfl (pgs_cons (pg_name (i := 0) (show List.Nodup (["_law_one", "_law_other"] : List Str) by decide +kernel) rfl (Or.inl rfl)) (pgs_cons (pg_name (i := 1) (show List.Nodup (["_law_one", "_law_other"] : List Str) by decide +kernel) rfl (Or.inl rfl)) pgs_nil)))) (fun _ _ _ _ => pifs_nil) (fun _ _ _ _ => (pe_call G_l_alike hr_l_alike rfl T.m_l_alike T.k_l_alike T.b_l_alike .nil pass0 (pa_cons (pv 0) (pa_cons (pv 1) pa_nil))))) pa_nil)))))))
   pss_nil)
  (pss_cons (ps_if (PW.pt (pw_or (pt_cmpR op_ne (pe_callB (call_isiK K) (by rfl) T.z_isinstance bt_isinstance (pa_cons (pv 0) (pa_cons (pe_bltn (v := .ty "bool") rfl T.z_bool bt_bool rfl) pa_nil))) (pe_callB (call_isiK K) (by rfl) T.z_isinstance bt_isinstance (pa_cons (pv 1) (pa_cons (pe_bltn (v := .ty "bool") rfl T.z_bool bt_bool rfl) pa_nil))) (nomark _)) (pw_or1 (pt_cmpR op_ne (pe_callB (call_isiK K) (by rfl) T.z_isinstance bt_isinstance (pa_cons (pv 0) (pa_cons (pe_bltn (v := .ty "int") rfl T.z_int bt_int rfl) pa_nil))) (pe_callB (call_isiK K) (by rfl) T.z_isinstance bt_isinstance (pa_cons (pv 1) (pa_cons (pe_bltn (v := .ty "int") rfl T.z_int bt_int rfl) pa_nil))) (nomark _)))))
   (pss_one (ps_ret pe_bl))
   pss_nil)
  (pss_one (ps_ret (pe_cmpR op_eq (pv 0) (pv 1) (nomark _)))))), ?_⟩
  have big : (10000 : Nat) ≤ sizeLine := by decide
  rcases tr with lf | ⟨p, q, xs, ys, rfl, rfl, e1, e2, hl, h3, sub⟩
  ·obtain ⟨t, b1, b2, ty1, ty2, k1, k2, k3, k4, sc, eq⟩ : ∃ (t : Value) (b1 b2 : Bool), TyOf K H x t ∧ TyOf K H y t ∧ PySem.W.kitOne K t (.type "tuple") = some false ∧ PySem.W.kitOne K t (.type "list") = some false ∧ PySem.W.kitOne K t (.type "bool") = some b1 ∧ PySem.W.kitOne K t (.type "int") = some b2 ∧ scal x y = true ∧ x = y := by
    rcases lf with ⟨i, rfl, rfl⟩ | ⟨b, rfl, rfl⟩ | ⟨z, rfl, rfl⟩
    ·exact ⟨_, false, true, .int i, .int i, kit_it, kit_il, kit_ib, kit_ii, rfl, rfl⟩
    ·exact ⟨_, true, true, .bl b, .bl b, kit_bt, kit_bl, kit_bb, kit_bi, rfl, rfl⟩
    ·exact ⟨_, false, false, .str z, .str z, kit_st, kit_sl, kit_sb, kit_si, rfl, rfl⟩
   refine hideS fun Y hY => ?_
   refine ⟨_, rfl, y, t, "tuple", false, rfl, ty2, k1, false, rfl, iteF ?_⟩
   refine ⟨_, rfl, y, t, "list", false, rfl, ty2, k2, false, rfl, iteF ?_⟩
   subst hY
   dsimp only [tNext]
   refine hideS fun Y hY => ?_
   refine ⟨_, rfl, x, t, "bool", b1, rfl, ty1, k3, _, rfl, y, t, "bool", b1, rfl, ty2, k3, rfl, _, rfl, ?_⟩
   rw [show (!decide (V.bl b1 = V.bl b1)) = false by rw [decide_eq_true rfl]; rfl]
   refine iteF ?_
   refine ⟨_, rfl, x, t, "int", b2, rfl, ty1, k4, _, rfl, y, t, "int", b2, rfl, ty2, k4, rfl, _, rfl, ?_⟩
   rw [show (!decide (V.bl b2 = V.bl b2)) = false by rw [decide_eq_true rfl]; rfl]
   refine iteF ?_
   subst hY
   dsimp only [tNext]
   refine ⟨_, rfl, _, rfl, sc, ?_⟩
   rw [decide_eq_true eq]
   exact k H (.refl _)
  ·refine hideS fun Y hY => ?_
   refine ⟨_, rfl, .ref q, _, "tuple", true, rfl, .tup e2, kit_tt, true, rfl, iteT ?_⟩
   refine iteT ?_
   refine hideS fun Y2 hY2 => ?_
   refine ⟨_, rfl, .ref p, _, "tuple", true, rfl, .tup e1, kit_tt, _, rfl, .ref q, _, "tuple", true, rfl, .tup e2, kit_tt, rfl, _, rfl, iteF ?_⟩
   refine ⟨_, rfl, .ref p, _, "list", false, rfl, .tup e1, kit_tl, _, rfl, .ref q, _, "list", false, rfl, .tup e2, kit_tl, rfl, _, rfl, iteF ?_⟩
   subst hY2
   dsimp only [tNext]
   refine ⟨_, rfl, _, xs.length, rfl, .inr ⟨_, .of e1, rfl⟩, _, rfl, _, ys.length, rfl, .inr ⟨_, .of e2, rfl⟩, rfl, _, rfl, ?_⟩
   rw [hl, show decide (V.int ((ys.length : Nat) : Int) = V.int ((ys.length : Nat) : Int)) = true from decide_eq_true rfl]
   refine iteT ?_
   refine ⟨_, rfl, _, rfl, p, q, rfl, ⟨_, .of e1⟩, ⟨_, .of e2⟩, fun C hC => ?_⟩
   refine comp_zipP (xs := xs) (ys := ys) (fun i σ H' => ∃ v0 v1 : Option V, σ = [v0, v1] ∧ Same H H' ∧ H' C = some (.lst ((List.replicate i true).map V.bl))) hl
    ⟨none, none, ?sg, Same.new hC, upd_same⟩ (by rintro i σ H' _ ⟨_, _, _, s, _⟩; exact ⟨.of (s _ _ e1), .of (s _ _ e2)⟩) ?_ ?_
   case sg => rfl
   ·rintro i u v r σ H1 hu hv ⟨v0, v1, rfl, s1, c1⟩ hr'
    have hi := (List.getElem?_eq_some_iff.mp hu).1
    have sp := Same.new (o := .tup [u, v]) hr'
    refine ⟨r, _, rfl, .of upd_same, rfl, _, _, rfl, _, _, rfl, rfl, ?_⟩
    refine ⟨_, rfl, _, rfl, u, v, rfl, (sub i u v hu hv).keep (s1.trans sp).kt, fun H2 s2 => ?_⟩
    have s3 := (s1.trans sp).trans s2
    refine ⟨_, s2 _ _ (sp _ _ c1), by rw [List.length_map, List.length_replicate]; omega, _, _, rfl, s3.kbn hC KB.write, ?_⟩
    rw [upd_same, List.replicate_succ', List.map_append]; rfl
   rintro σ H1 ⟨v0, v1, rfl, s1, c1⟩
   refine ⟨C, _, rfl, .of c1, ?_⟩
   rw [all_rep]
   exact k H1 s1
theorem ok_l_alike {a : Adr} (T : Txt K mg a) : ∀ n : Nat, FnOk P w K mg base CX0 (n + 1) a.f_l_alike a.fd_l_alike ["_law_found", "_law_due_here"] (spAlike n)
 | 0 => FnOk.none fun vs H Q E h => by
  obtain ⟨x, y, _, h, _⟩ := h
  exact h
 | n + 1 => ok_l_alikeS T (ok_l_alike T n)
def castI (ds : List Nat) : List Int := ds.map fun (d : Nat) => (d : Int)
theorem castI_at (ds : List Nat) (i : Nat) : (castI ds)[i]? = ds[i]?.map fun (d : Nat) => (d : Int) := by simp [castI]
theorem natItem {ds : List Nat} {i : Nat} {x : V} (h : ((castI ds).map V.int)[i]? = some x) : ∃ n : Nat, x = .int (n : Int) ∧ ds[i]? = some n := by
 obtain ⟨f, rfl, hf⟩ := intItem h
 rw [castI_at] at hf
 cases e : ds[i]? with
 | none => rw [e] at hf; cases hf
 | some n => rw [e] at hf; exact ⟨n, by rw [← Option.some.inj hf], rfl⟩
theorem refItem {rs : List Addr} {i : Nat} {x : V} (h : (rs.map V.ref)[i]? = some x) : ∃ r, x = .ref r ∧ rs[i]? = some r := by
 rw [List.getElem?_map] at h
 cases e : rs[i]? with
 | none => rw [e] at h; cases h
 | some r => rw [e] at h; exact ⟨r, (Option.some.inj h).symm, rfl⟩
theorem take_snoc {α : Type} {xs : List α} {i : Nat} {x : α} (h : xs[i]? = some x) : xs.take (i + 1) = xs.take i ++ [x] := by rw [List.take_add_one, h]; rfl
theorem castI_len (ds : List Nat) : (castI ds).length = ds.length := by simp [castI]
theorem castI_app (xs ys : List Nat) : castI (xs ++ ys) = castI xs ++ castI ys := by simp [castI]
structure Moves (n b : Nat) (mv : List (List Nat)) : Prop where
 len : mv.length = n
 lead : ∀ l ∈ mv, l.length = b ∧ ∀ x ∈ l, x < n
theorem item_at {α : Type} {xs : List α} {i : Nat} (d : α) (h : i < xs.length) : xs[i]? = some (xs.getD i d) := by rw [List.getD_eq_getElem?_getD, List.getElem?_eq_getElem h]; rfl
theorem castI_item {ds : List Nat} {i : Nat} (h : i < ds.length) : ((castI ds).map V.int)[i]? = some (.int (ds.getD i 0 : Nat)) := by
 rw [List.getElem?_map, castI_at, item_at 0 h]; rfl
theorem Moves.row {H : Hp} {n b : Nat} {mv : List (List Nat)} {ps : List Addr} (h : Moves n b mv) (tp : Tups H ps (mv.map castI)) {r : Nat} (hr : r < n) :
  ps[r]? = some (ps.getD r 0) ∧ H (ps.getD r 0) = some (.tup ((castI (mv.getD r [])).map V.int)) ∧ (mv.getD r []).length = b := by
 have lp : ps.length = n := by rw [Paired.length tp, List.length_map, h.len]
 have hp := item_at 0 (show r < ps.length by omega)
 obtain ⟨l', hl', el⟩ := tp.get hp
 have hm := item_at [] (show r < mv.length by rw [h.len]; exact hr)
 rw [List.getElem?_map, hm] at hl'
 have := Option.some.inj hl'
 subst this
 exact ⟨hp, el, (h.lead _ (List.mem_of_getElem? hm)).1⟩
def MachAt (H : Hp) (ma nm : Addr) (bs : List Bool) (mv : List (List Nat)) : Prop := ∃ (ya va : Addr) (ps : List Addr), H ma = some (.tup [.ref nm, .ref ya, .ref va]) ∧ H ya = some (.tup (bs.map V.bl)) ∧ H va = some (.tup (ps.map V.ref)) ∧ Tups H ps (mv.map castI)
theorem MachAt.keep {H H' : Hp} {ma nm : Addr} {bs : List Bool} {mv : List (List Nat)} (h : MachAt H ma nm bs mv) (k : KTu H H') : MachAt H' ma nm bs mv := by
 obtain ⟨ya, va, ps, h1, h2, h3, h4⟩ := h
 exact ⟨ya, va, ps, k _ _ h1, k _ _ h2, k _ _ h3, h4.keep k⟩
theorem boolItem {bs : List Bool} {i : Nat} {x : V} (h : (bs.map V.bl)[i]? = some x) : ∃ c, x = .bl c ∧ bs[i]? = some c := by
 rw [List.getElem?_map] at h
 obtain ⟨c, e, rfl⟩ := Option.map_eq_some_iff.mp h
 exact ⟨c, rfl, e⟩
def stp (mv : List (List Nat)) (r a : Nat) : Nat := (mv.getD r []).getD a 0
def run (mv : List (List Nat)) : Nat → List Nat → Nat
 | r, [] => r
 | r, a :: w => run mv (stp mv r a) w
def Word (B : Nat) (w : List Nat) : Prop := ∀ a ∈ w, a < B
theorem Word.nil (B : Nat) : Word B [] := fun a h => by cases h
theorem Word.cons {B a : Nat} {w : List Nat} (h : a < B) (hw : Word B w) : Word B (a :: w) := fun x hx => (List.mem_cons.mp hx).elim (fun e => e ▸ h) (hw x)
theorem Word.app {B : Nat} {v w : List Nat} (hv : Word B v) (hw : Word B w) : Word B (v ++ w) := fun x hx => (List.mem_append.mp hx).elim (hv x) (hw x)
theorem Moves.stp {n B : Nat} {mv : List (List Nat)} (m : Moves n B mv) {r a : Nat} (hr : r < n) (ha : a < B) : stp mv r a < n := by
 unfold My.stp
 have h1 : mv[r]? = some (mv.getD r []) := item_at [] (by rw [m.len]; exact hr)
 obtain ⟨h2, h3⟩ := m.lead _ (List.mem_of_getElem? h1)
 have h4 := item_at 0 (show a < (mv.getD r []).length by rw [h2]; exact ha)
 exact h3 _ (List.mem_of_getElem? h4)
def rowGo : List Nat → Nat → Option Nat
 | [], s => some s
 | t :: l, s => if t < s then rowGo l s else if t = s then rowGo l (s + 1) else none
def rowsGo : List (List Nat) → Nat → Nat → Option Nat
 | [], _, s => some s
 | r :: rs, i, s => if i < s then (rowGo r s).bind fun s' => rowsGo rs (i + 1) s' else none
theorem rowGo_app : ∀ (l : List Nat) (t s : Nat), rowGo (l ++ [t]) s = (rowGo l s).bind fun s' => rowGo [t] s'
 | [], _, _ => rfl
 | x :: l, t, s => by
  show rowGo (x :: (l ++ [t])) s = (rowGo (x :: l) s).bind _
  simp only [rowGo]
  by_cases h : x < s
  ·rw [if_pos h, if_pos h]; exact rowGo_app l t s
  ·rw [if_neg h, if_neg h]
   by_cases h2 : x = s
   ·rw [if_pos h2, if_pos h2]; exact rowGo_app l t (s + 1)
   ·rw [if_neg h2, if_neg h2]; rfl
theorem rowsGo_app : ∀ (rs : List (List Nat)) (r : List Nat) (i s : Nat), rowsGo (rs ++ [r]) i s = (rowsGo rs i s).bind fun s' => if i + rs.length < s' then rowGo r s' else none
 | [], r, i, s => by
  show (if i < s then (rowGo r s).bind fun s' => some s' else none) = if i + 0 < s then rowGo r s else none
  rw [Nat.add_zero]
  split
  ·cases rowGo r s <;> rfl
  ·rfl
 | x :: rs, r, i, s => by
  show (if i < s then (rowGo x s).bind fun s' => rowsGo (rs ++ [r]) (i + 1) s' else none) = (if i < s then (rowGo x s).bind fun s' => rowsGo rs (i + 1) s' else none).bind _
  by_cases h : i < s
  ·rw [if_pos h, if_pos h]
   cases rowGo x s with
   | none => rfl
   | some s' =>
    show rowsGo (rs ++ [r]) (i + 1) s' = (rowsGo rs (i + 1) s').bind _
    rw [rowsGo_app rs r (i + 1) s']
    congr 1
    funext q
    rw [List.length_cons, show i + 1 + rs.length = i + (rs.length + 1) by omega]
  ·rw [if_neg h, if_neg h]; rfl
def runA {α : Type} (on : α → Nat → α) : α → List Nat → α
 | x, [] => x
 | x, a :: w => runA on (on x a) w
theorem runA_app {α : Type} (on : α → Nat → α) : ∀ (v w : List Nat) (x : α), runA on x (v ++ w) = runA on (runA on x v) w
 | [], _, _ => rfl
 | a :: v, w, x => runA_app on v w (on x a)
structure Grown {α : Type} (x0 : α) (on : α → Nat → α) (m : Nat) (xs : List α) (mv : List (List Nat)) : Prop where
 once : xs.Nodup
 first : xs[0]? = some x0
 reach : ∀ x ∈ xs, ∃ w, Word m w ∧ x = runA on x0 w
 row : ∀ (i : Nat) (r : List Nat), mv[i]? = some r → r.length = m ∧ ∃ x, xs[i]? = some x ∧ ∀ (c t : Nat), r[c]? = some t → xs[t]? = some (on x c)
 go : rowsGo mv 0 1 = some xs.length
theorem Grown.mvs {α : Type} {x0 : α} {on : α → Nat → α} {m : Nat} {xs : List α} {mv : List (List Nat)} (g : Grown x0 on m xs mv) (h : mv.length = xs.length) : Moves xs.length m mv := by
 refine ⟨h, fun l hl => ?_⟩
 obtain ⟨i, hi⟩ := List.getElem?_of_mem hl
 obtain ⟨h1, x, _, h2⟩ := g.row i l hi
 refine ⟨h1, fun t ht => ?_⟩
 obtain ⟨c, hc⟩ := List.getElem?_of_mem ht
 exact (List.getElem?_eq_some_iff.mp (h2 c t hc)).1
theorem Grown.run {α : Type} {x0 : α} {on : α → Nat → α} {m : Nat} {xs : List α} {mv : List (List Nat)} (g : Grown x0 on m xs mv) (h : mv.length = xs.length) : ∀ (w : List Nat) (i : Nat) (x : α), xs[i]? = some x → Word m w → xs[run mv i w]? = some (runA on x w)
 | [], _, _, e, _ => e
 | a :: w, i, x, e, hw => by
  have hi := (List.getElem?_eq_some_iff.mp e).1
  have ha := hw a List.mem_cons_self
  have h1 := item_at [] (show i < mv.length by omega)
  obtain ⟨l1, y, ey, h2⟩ := g.row i _ h1
  rw [e] at ey
  have := Option.some.inj ey
  subst this
  have h3 := item_at 0 (show a < (mv.getD i []).length by rw [l1]; exact ha)
  exact Grown.run g h w _ _ (h2 a _ h3) fun z hz => hw z (List.mem_cons_of_mem _ hz)
theorem paired_snoc {α β : Type} {F : α → β → Prop} {l : List α} {m : List β} {a : α} {b : β} (h : Paired F l m) (r : F a b) : Paired F (l ++ [a]) (m ++ [b]) := by
 induction h with
 | nil => exact .cons r .nil
 | cons q t ih => exact .cons q ih
def lets (b : Nat) : Nat → List (List Int)
 | 0 => [[]]
 | n + 1 => (lets b n).flatMap fun l => (List.range b).map fun (f : Nat) => l ++ [(f : Int)]
theorem lets_len (b : Nat) : ∀ n, (lets b n).length = b ^ n
 | 0 => rfl
 | n + 1 => by
  show ((lets b n).flatMap fun l => (List.range b).map fun (f : Nat) => l ++ [(f : Int)]).length = _
  rw [List.length_flatMap]
  have : (List.map (fun l : List Int => ((List.range b).map fun (f : Nat) => l ++ [(f : Int)]).length) (lets b n)) = List.replicate (lets b n).length b := by
   rw [List.map_congr_left (g := fun _ => b) (fun l _ => by simp)]
   exact List.map_const' ..
  rw [this, List.sum_replicate_nat, lets_len b n, Nat.pow_succ]
theorem lets_mem (b : Nat) : ∀ (n : Nat) (l : List Int), l ∈ lets b n → l.length = n
 | 0, l, h => by
  have h' : l ∈ [([] : List Int)] := h
  simp at h'; subst h'; rfl
 | n + 1, l, h => by
  have h' : l ∈ (lets b n).flatMap fun l => (List.range b).map fun (f : Nat) => l ++ [(f : Int)] := h
  obtain ⟨l', h1, h2⟩ := List.mem_flatMap.mp h'
  obtain ⟨f, _, rfl⟩ := List.mem_map.mp h2
  rw [List.length_append, lets_mem b n l' h1]; rfl
theorem flat_len (b : Nat) (ls : List (List Int)) : (ls.flatMap fun l => (List.range b).map fun (f : Nat) => l ++ [(f : Int)]).length = ls.length * b := by
 rw [List.length_flatMap]
 have : (List.map (fun l : List Int => ((List.range b).map fun (f : Nat) => l ++ [(f : Int)]).length) ls) = List.replicate ls.length b := by
  rw [List.map_congr_left (g := fun _ => b) (fun l _ => by simp)]
  exact List.map_const' ..
 rw [this, List.sum_replicate_nat]
inductive spLettersI (vs : List V) (H : Hp) (Q : VK) (E_3 : XK) : Prop where
 | mk (b n : Nat) (h0_ : vs = [.int b, .int n]) (h1_ : b ≤ 4) (h2_ : n ≤ 4) (h3_ : ∀ (D : Addr) (ps : List Addr) (H' : Hp), H D = none → Same H H' → H' D = some (.lst (ps.map V.ref)) → Tups H' ps (lets b n) → Q (.ref D) H')
def spLetters : Sp := fun vs H Q E_3 => spLettersI vs H Q E_3
theorem sc_all_letters : FnScope ["base", "many", "letters", "spot", "longer", "letter"] ["base", "many"] (defScope s_all_letters) := ⟨rfl, rfl, rfl, by decide +kernel, rfl, by decide +kernel, by decide +kernel⟩
theorem small_pow {b n : Nat} (hb : b ≤ 4) (hn : n ≤ 4) : b ^ n ≤ 256 :=
 Nat.le_trans (Nat.pow_le_pow_left hb n) (Nat.pow_le_pow_right (by decide) hn)
theorem ok_all_letters {a : Adr} (T : Txt K mg a) : FnOk P w K mg base CX0 1 a.f_all_letters a.fd_all_letters ["base", "many"] spLetters := by
 refine T.F_all_letters.ok sc_all_letters (fun vs H Q E h => ?_) (fun cdv A outer s H vs Q E hr h => ?_)
 ·obtain ⟨b, n, rfl, _⟩ := h
  rfl
 ·obtain ⟨b, n, rfl, hb, hn, k⟩ := h
  refine ⟨_, (pss_cons (ps_set (i := 2) sc_all_letters.nd rfl (Or.inl rfl) (pe_lst (pa_cons (pe_tup pa_nil) pa_nil)))
  (pss_cons (ps_for PassesOwn.never rfl (pi_range1 rfl T.z_range (pa_cons (pv 1) pa_nil)) (pg_name (i := 3) sc_all_letters.nd rfl (Or.inl rfl))
   (pss_cons (ps_set (i := 4) sc_all_letters.nd rfl (Or.inl rfl) (pe_lst pa_nil))
   (pss_cons (ps_for PassesOwn.never rfl (pi_list (pv 2)) (pg_name (i := 5) sc_all_letters.nd rfl (Or.inr rfl))
    (pss_one (ps_expr (pe_bm PySem.F.plainAttrs_list PySem.F.slot_list_extend PySem.F.type_list_extend mt_extend (pv 4) (pa_cons (pe_comp (CompScope.mk' (esc := defScope s_all_letters) (N := ["base", "many", "letters", "spot", "longer", "letter"]) (own := ["figure"]) (frn := ["letter"]) (frj := [5]) rfl rfl (by decide +kernel)) rfl (pi_range1 rfl T.z_range (pa_cons (pv 0) pa_nil)) (fun _ _ _ _ => (pg_name (i := 0) (show List.Nodup (["figure", "letter"] : List Str) by decide +kernel) rfl (Or.inl rfl))) (fun _ _ _ _ => pifs_nil) (fun _ _ _ _ => (pe_op (op_catNK K) (pv 1) (pe_tup (pa_cons (pv 0) pa_nil))))) pa_nil)))))
   (pss_one (ps_set (i := 2) sc_all_letters.nd rfl (Or.inl rfl) (pv 4))))))
  (pss_one (ps_ret (pv 2))))), ?_⟩
  refine ⟨by decide, fun p hp => ⟨by show 1 ≤ sizeLine; decide, fun D hD => ?_⟩⟩
  have hD0 : H D = none := (Same.new hp).free hD
  refine ⟨_, rfl, n, rfl, by omega, by omega, for_range (lo := 0) (n := (n : Int).toNat) (fun i σ H' => ∃ (D : Addr) (ps : List Addr) (v3 v4 v5 : Option V), σ = [some (.int b), some (.int n), some (.ref D), v3, v4, v5] ∧ H D = none ∧ Same H H' ∧ H' D = some (.lst (ps.map V.ref)) ∧ Tups H' ps (lets b i))
   ⟨D, [p], none, none, none, rfl, hD0, (Same.new hp).trans (Same.new hD), upd_same, .cons (by rw [upd_ne (ne_of_none (o := .tup []) upd_same hD)]; exact upd_same) .nil⟩ ?_ ?_⟩
  ·rintro i σ H1 hi ⟨D, ps, v3, v4, v5, rfl, hD, s1, eD, t1⟩
   rw [Int.toNat_natCast] at hi
   have lps : ps.length = b ^ i := by rw [Paired.length t1, lets_len]
   have bi : b ^ i ≤ 256 := small_pow hb (by omega)
   have bi1 : b ^ (i + 1) ≤ 256 := small_pow hb (by omega)
   refine ⟨by decide, fun E hE => ?_⟩
   have hE0 : H E = none := s1.free hE
   have nDE : D ≠ E := ne_of_none eD hE
   refine ⟨_, rfl, D, rfl, ⟨ps.map V.ref, .of (by rw [upd_ne nDE]; exact eD)⟩, for_list (xs := ps.map V.ref) (fun j σ H' => ∃ (qs : List Addr) (v5 : Option V), σ = [some (.int b), some (.int n), some (.ref D), some (.int (0 + (i : Int))), some (.ref E), v5] ∧
     Same H H' ∧ H' D = some (.lst (ps.map V.ref)) ∧ Tups H' ps (lets b i) ∧ H' E = some (.lst (qs.map V.ref)) ∧ Tups H' qs (((lets b i).take j).flatMap fun l => (List.range b).map fun (f : Nat) => l ++ [(f : Int)]))
    ⟨[], v5, rfl, s1.trans (Same.new hE), by rw [upd_ne nDE]; exact eD, t1.keep (Same.new hE).kt, upd_same, .nil⟩ (by rintro j σ H' _ ⟨_, _, _, _, h, _⟩; exact .of h) ?_ ?_⟩
   ·rintro j y σ H2 hj ⟨qs, v5, rfl, s2, eD2, t2, eE2, u2⟩
    rw [List.getElem?_map] at hj
    cases ep : ps[j]? with
    | none => rw [ep] at hj; cases hj
    | some p =>
     rw [ep] at hj
     have ey : y = .ref p := (Option.some.inj hj).symm
     subst ey
     obtain ⟨l, el, hl⟩ := t2.get ep
     have jlt : j < ps.length := (List.getElem?_eq_some_iff.mp ep).1
     refine ⟨_, rfl, .inl ⟨rfl, _, .of eE2⟩, _, rfl, b, rfl, by omega, by omega, fun C hC => ?_⟩
     have nEC : E ≠ C := ne_of_none eE2 hC
     have nDC : D ≠ C := ne_of_none eD2 hC
     refine comp_range (fun f σ H' => ∃ (rs : List Addr) (v : Option V), σ = [v, some (.ref p)] ∧ Same H2 H' ∧ H' C = some (.lst (rs.map V.ref)) ∧ Tups H' rs ((List.range f).map fun (f : Nat) => l ++ [(f : Int)]))
      ⟨[], none, rfl, Same.new hC, upd_same, .nil⟩ ?_ ?_
     ·rintro f σ H3 hf ⟨rs, v, rfl, s3, eC3, t3⟩
      refine ⟨_, rfl, _, rfl, by show 1 ≤ sizeLine; decide, fun q hq => ?_⟩
      have lrs : rs.length = f := by rw [Paired.length t3]; simp
      have nCq : C ≠ q := ne_of_none eC3 hq
      have ll : l.length = i := lets_mem b i l (List.mem_of_getElem? el)
      have e0 : (0 : Int) + (f : Int) = (f : Int) := by omega
      have hq2 : H2 q = none := s3.free hq
      have szf : (rs.map V.ref).length < sizeLine := by rw [List.length_map, lrs]; exact Nat.lt_of_lt_of_le (show f < 10 by omega) (by decide)
      have s4 : Same H2 (upd H3 q (.tup [.int (0 + (f : Int))])) := s3.trans (Same.new hq)
      have t4 := t3.keep (Same.new (o := .tup [.int (0 + (f : Int))]) hq).kt
      refine ⟨p, q, l.map V.int, [.int (0 + (f : Int))], rfl, rfl, .of (s4 _ _ hl), .of upd_same, by simp, ?_, fun hl0 => ?_, fun hl0 r hr => ?_⟩
      ·rw [List.length_map, ll]; exact Nat.le_trans (show i + 1 ≤ 10 by omega) (by decide)
      ·have hl1 : l = [] := by cases l with | nil => rfl | cons _ _ => cases hl0
       subst hl1
       have eC4 : (upd H3 q (.tup [.int (0 + (f : Int))])) C = some (.lst (rs.map V.ref)) := by rw [upd_ne nCq]; exact eC3
       refine ⟨rs.map V.ref, eC4, szf, rs ++ [q], _, rfl, ?_, by rw [upd_same, List.map_append]; rfl, ?_⟩
       ·exact s4.kbn hC KB.write
       ·rw [List.range_succ, List.map_append]
        refine paired_append (t4.keep (KTu.lst eC4)) (.cons (KTu.lst eC4 _ _ ?_) .nil)
        rw [upd_same]
        simp
      ·have nCr : C ≠ r := ne_of_none (by rw [upd_ne nCq]; exact eC3) hr
       have eC4 : (upd (upd H3 q (.tup [.int (0 + (f : Int))])) r (.tup (l.map V.int ++ [.int (0 + (f : Int))]))) C = some (.lst (rs.map V.ref)) := by rw [upd_ne nCr, upd_ne nCq]; exact eC3
       refine ⟨rs.map V.ref, eC4, szf, rs ++ [r], _, rfl, ?_, by rw [upd_same, List.map_append]; rfl, ?_⟩
       ·exact (s4.trans (Same.new hr)).kbn hC KB.write
       ·rw [List.range_succ, List.map_append]
        refine paired_append ((t4.keep (Same.new hr).kt).keep (KTu.lst eC4)) (.cons (KTu.lst eC4 _ _ ?_) .nil)
        rw [upd_same]
        simp
     ·rintro σ H3 ⟨rs, v, rfl, s3, eC3, t3⟩
      have lrs : rs.length = b := by rw [Paired.length t3]; simp
      have lqs : qs.length ≤ 1024 := by
       rw [Paired.length u2, flat_len, List.length_take]
       have := Nat.mul_le_mul (show min j (lets b i).length ≤ 256 by rw [lets_len]; omega) hb
       omega
      have eE3 := s3 _ _ eE2
      refine ⟨E, C, qs.map V.ref, rs.map V.ref, rfl, rfl, eE3, eC3, ?_, ?_⟩
      ·rw [List.length_map, List.length_map, lrs]; exact Nat.le_trans (show qs.length + b ≤ 2000 by omega) (by decide)
      ·have kt := KTu.lst (o := .lst (qs.map V.ref ++ rs.map V.ref)) eE3
       refine ⟨qs ++ rs, _, rfl, (s2.trans s3).kbn hE0 KB.write, ?_, (t2.keep s3.kt).keep kt, ?_, ?_⟩
       ·rw [upd_ne nDE]; exact s3 _ _ eD2
       ·rw [upd_same, List.map_append]
       ·have e1 : (lets b i).take (j + 1) = (lets b i).take j ++ [l] := by rw [List.take_add_one, el]; rfl
        rw [e1, List.flatMap_append]
        refine paired_append ((u2.keep s3.kt).keep kt) ?_
        rw [List.flatMap_singleton]
        have := t3.keep kt
        rwa [show ((b : Nat) : Int).toNat = b from Int.toNat_natCast b] at this
   ·rintro σ H2 ⟨qs, v5, rfl, s2, eD2, t2, eE2, u2⟩
    refine ⟨_, rfl, E, qs, _, _, _, rfl, hE0, s2, eE2, ?_⟩
    have e1 : (lets b i).take (ps.map V.ref).length = lets b i := by rw [List.length_map, Paired.length t2]; exact List.take_length ..
    rw [e1] at u2
    exact u2
  ·rintro σ H1 ⟨D, ps, v3, v4, v5, rfl, hD, s1, eD, t1⟩
   exact ⟨_, rfl, k D ps H1 hD s1 eD (by rwa [Int.toNat_natCast] at t1)⟩
def fl (b : Nat) : Nat → Nat → List Nat
 | 0, _ => []
 | n + 1, L => fl b n (L / b) ++ [L % b]
theorem fl_len (b : Nat) : ∀ n L, (fl b n L).length = n
 | 0, _ => rfl
 | n + 1, L => by rw [fl, List.length_append, fl_len b n]; rfl
theorem fl_lt {b : Nat} (hb : 0 < b) : ∀ n L, ∀ d ∈ fl b n L, d < b
 | 0, _, d, h => by cases h
 | n + 1, L, d, h => by
  rw [fl] at h
  rcases List.mem_append.mp h with h | h
  ·exact fl_lt hb n _ d h
  ·have : d = L % b := by simpa using h
   rw [this]; exact Nat.mod_lt _ hb
def lst (b : Nat) (acc : Nat) (ds : List Nat) : Nat := ds.foldl (fun l d => l * b + d) acc
theorem lst_cons (b acc d : Nat) (ds : List Nat) : lst b acc (d :: ds) = lst b (acc * b + d) ds := rfl
theorem lst_lt {b : Nat} : ∀ (ds : List Nat) (k acc : Nat), (∀ d ∈ ds, d < b) → acc < b ^ k → lst b acc ds < b ^ (k + ds.length)
 | [], k, acc, _, h => h
 | d :: t, k, acc, h, ha => by
  have hd : d < b := h d List.mem_cons_self
  rw [lst_cons, List.length_cons, show k + (t.length + 1) = (k + 1) + t.length by omega]
  refine lst_lt t (k + 1) _ (fun x hx => h x (List.mem_cons_of_mem _ hx)) ?_
  rw [Nat.pow_succ]
  have := Nat.mul_le_mul_right b (show acc + 1 ≤ b ^ k from ha)
  rw [Nat.add_mul, Nat.one_mul] at this
  omega
theorem flat_at {b : Nat} (hb : 0 < b) (g : List Int → Nat → List Int) : ∀ (ls : List (List Int)) (i : Nat), (ls.flatMap fun l => (List.range b).map (g l))[i]? = ls[i / b]?.map fun l => g l (i % b)
 | [], i => by simp
 | l :: ls, i => by
  rw [List.flatMap_cons]
  by_cases h : i < b
  ·rw [List.getElem?_append_left (by simpa using h), Nat.div_eq_of_lt h, Nat.mod_eq_of_lt h]
   simp [h]
  ·have e1 : i / b = (i - b) / b + 1 := by
    have := Nat.sub_add_cancel (Nat.not_lt.mp h)
    conv => lhs; rw [← this]
    exact Nat.add_div_right _ hb
   have e2 : i % b = (i - b) % b := Nat.mod_eq_sub_mod (Nat.not_lt.mp h)
   rw [List.getElem?_append_right (by simpa using Nat.not_lt.mp h), e1, e2]
   have := flat_at hb g ls (i - b)
   simpa using this
theorem lets_at {b : Nat} (hb : 0 < b) : ∀ (n L : Nat), L < b ^ n → (lets b n)[L]? = some (castI (fl b n L))
 | 0, L, h => by
  have : L = 0 := by simpa using h
  subst this; rfl
 | n + 1, L, h => by
  show ((lets b n).flatMap fun l => (List.range b).map fun (f : Nat) => l ++ [(f : Int)])[L]? = _
  rw [flat_at hb (fun l f => l ++ [(f : Int)])]
  have h1 : L / b < b ^ n := by
   rw [Nat.div_lt_iff_lt_mul hb]
   rw [Nat.pow_succ] at h
   exact h
  rw [lets_at hb n (L / b) h1]
  simp [castI, fl]
structure GRow {α : Type} (x0 : α) (on : α → Nat → α) (m : Nat) (xs : List α) (x : α) (leads : List Nat) (ys : List α) : Prop where
 once : ys.Nodup
 pre : ∃ more, ys = xs ++ more
 reach : ∀ y ∈ ys, ∃ w, Word m w ∧ y = runA on x0 w
 at' : ∀ (c t : Nat), leads[c]? = some t → ys[t]? = some (on x c)
 go : rowGo leads xs.length = some ys.length
theorem rowGo_up : ∀ (l : List Nat) (s s' : Nat), rowGo l s = some s' → s' ≤ s + l.length
 | [], s, s', h => by cases h; exact Nat.le_refl _
 | t :: l, s, s', h => by
  rw [rowGo] at h
  rw [List.length_cons]
  split at h
  ·have := rowGo_up l s s' h; omega
  ·split at h
   ·have := rowGo_up l (s + 1) s' h; omega
   ·cases h
theorem get_app {α : Type} {xs more : List α} {i : Nat} {x : α} (h : xs[i]? = some x) : (xs ++ more)[i]? = some x := by
 rw [List.getElem?_append_left (List.getElem?_eq_some_iff.mp h).1]; exact h
section
variable {α : Type} {x0 : α} {on : α → Nat → α} {m : Nat} {xs ys : List α} {mv : List (List Nat)} {x : α} {leads : List Nat}
theorem Grown.begin : Grown x0 on m [x0] [] := ⟨by simp, rfl, fun x hx => ⟨[], .nil m, by rw [List.mem_singleton.mp hx]; rfl⟩, fun i r h => by simp at h, rfl⟩
theorem GRow.start (g : Grown x0 on m xs mv) : GRow x0 on m xs x [] xs := ⟨g.once, ⟨[], by simp⟩, g.reach, fun c t h => by simp at h, rfl⟩
theorem GRow.old (g : GRow x0 on m xs x leads ys) {t : Nat} (h : ys[t]? = some (on x leads.length)) : GRow x0 on m xs x (leads ++ [t]) ys := by
 have ht := (List.getElem?_eq_some_iff.mp h).1
 refine ⟨g.once, g.pre, g.reach, fun c u hu => ?_, ?_⟩
 ·by_cases hc : c < leads.length
  ·rw [List.getElem?_append_left hc] at hu; exact g.at' c u hu
  ·have hb := (List.getElem?_eq_some_iff.mp hu).1
   rw [List.length_append] at hb
   have e : c = leads.length := by simp at hb; omega
   subst e
   rw [List.getElem?_append_right (Nat.le_refl _), Nat.sub_self] at hu
   have := Option.some.inj hu
   subst this
   exact h
 ·rw [rowGo_app, g.go]
  show rowGo [t] ys.length = _
  simp only [rowGo]
  rw [if_pos ht]
theorem GRow.new (g : GRow x0 on m xs x leads ys) (hm : leads.length < m) (hx : ∃ w, Word m w ∧ x = runA on x0 w) (h : on x leads.length ∉ ys) : GRow x0 on m xs x (leads ++ [ys.length]) (ys ++ [on x leads.length]) := by
 obtain ⟨more, e⟩ := g.pre
 refine ⟨?_, ⟨more ++ [on x leads.length], by rw [e, List.append_assoc]⟩, fun y hy => ?_, fun c u hu => ?_, ?_⟩
 ·rw [List.nodup_append]
  exact ⟨g.once, by simp, fun a ha b hb z => h (by rw [← List.mem_singleton.mp hb, ← z]; exact ha)⟩
 ·rcases List.mem_append.mp hy with z | z
  ·exact g.reach y z
  ·rw [List.mem_singleton.mp z]
   obtain ⟨w, hw, ex⟩ := hx
   exact ⟨w ++ [leads.length], hw.app (.cons hm (.nil m)), by rw [runA_app, ← ex]; rfl⟩
 ·by_cases hc : c < leads.length
  ·rw [List.getElem?_append_left hc] at hu; exact get_app (g.at' c u hu)
  ·have hb := (List.getElem?_eq_some_iff.mp hu).1
   rw [List.length_append] at hb
   have e : c = leads.length := by simp at hb; omega
   subst e
   rw [List.getElem?_append_right (Nat.le_refl _), Nat.sub_self] at hu
   have := Option.some.inj hu
   subst this
   rw [List.getElem?_append_right (Nat.le_refl _), Nat.sub_self]; rfl
 ·rw [rowGo_app, g.go, List.length_append]
  show rowGo [ys.length] ys.length = _
  simp only [rowGo]
  rw [if_neg (Nat.lt_irrefl _)]
  simp
theorem Grown.next (g : Grown x0 on m xs mv) (hx : xs[mv.length]? = some x) (r : GRow x0 on m xs x leads ys) (hl : leads.length = m) : Grown x0 on m ys (mv ++ [leads]) := by
 obtain ⟨more, e⟩ := r.pre
 have hlt := (List.getElem?_eq_some_iff.mp hx).1
 refine ⟨r.once, by rw [e]; exact get_app g.first, r.reach, fun i row hr => ?_, ?_⟩
 ·by_cases hi : i < mv.length
  ·rw [List.getElem?_append_left hi] at hr
   obtain ⟨h1, y, h2, h3⟩ := g.row i row hr
   exact ⟨h1, y, by rw [e]; exact get_app h2, fun c t ht => by rw [e]; exact get_app (h3 c t ht)⟩
  ·have hb := (List.getElem?_eq_some_iff.mp hr).1
   rw [List.length_append] at hb
   have ei : i = mv.length := by simp at hb; omega
   subst ei
   rw [List.getElem?_append_right (Nat.le_refl _), Nat.sub_self] at hr
   have := Option.some.inj hr
   subst this
   exact ⟨hl, x, by rw [e]; exact get_app hx, r.at'⟩
 ·rw [rowsGo_app, g.go]
  show (if 0 + mv.length < xs.length then rowGo leads xs.length else none) = _
  rw [if_pos (by omega)]; exact r.go
end
def Reps {α : Type} (R : DictRep α) (H : Hp) (vs : List V) (xs : List α) : Prop := Paired (fun v x => R.Rep x v H) vs xs
section
variable {α : Type} (R : DictRep α) (many : Nat) (on : α → Nat → α) (yes : α → Bool) (Ok : α → Prop) (Ev : Hp → Prop)
def spOn : Sp := fun vs H Q _ => ∃ (x : α) (v : V) (a : Nat), vs = [v, .int a] ∧ R.Rep x v H ∧ Ok x ∧ a < many ∧ Ev H ∧ ∀ v' H', Same H H' → R.Rep (on x a) v' H' → Q v' H'
def spYs : Sp := fun vs H Q _ => ∃ (x : α) (v : V), vs = [v] ∧ R.Rep x v H ∧ Ok x ∧ Ev H ∧ ∀ H', Same H H' → Q (.bl (yes x)) H'
def spGrown (f1 f2 : Addr) : Sp := fun vs H Q _ => ∃ (x0 : α) (v0 : V) (most : Nat), vs = [v0, .int many, .ref f1, .ref f2, .int most] ∧ R.Rep x0 v0 H ∧ Ok x0 ∧ Ev H ∧ most ≤ 10000 ∧ many ≤ 1000 ∧
 (∀ (xs : List α) (H' : Hp), Same H H' → xs.Nodup → (∀ x ∈ xs, ∃ w, Word many w ∧ x = runA on x0 w) → most < xs.length → Q .non H') ∧
 ∀ (xs : List α) (mv : List (List Nat)) (vs : List V) (p Rr ya va : Addr) (ps : List Addr) (H' : Hp), Same H H' → H Rr = none → mv.length = xs.length → xs.length ≤ most → Grown x0 on many xs mv → H' p = some (.tup [.ref Rr, .ref ya, .ref va]) → H' Rr = some (.lst vs) → Reps R H' vs xs → H' ya = some (.tup ((xs.map yes).map V.bl)) → H' va = some (.tup (ps.map V.ref)) → Tups H' ps (mv.map castI) → Q (.ref p) H'
end
theorem ktu_upd {H : Hp} {a : Addr} {o o' : HO} (h : H a = some o) (hn : ∀ l, o ≠ .tup l) : KTu H (upd H a o') := fun b xs e => by
 rw [upd_ne (ne_of e h fun z => hn xs z.symm)]; exact e
theorem ktu_kb {H H' : Hp} {a : Addr} {o : HO} (h : H a = some o) (hn : ∀ l, o ≠ .tup l) (k : KB a H H') : KTu H H' := fun b xs e => k _ _ e (ne_of e h fun z => hn xs z.symm)
theorem Reps.keep {α : Type} {R : DictRep α} {H H' : Hp} {vs : List V} {xs : List α} (h : Reps R H vs xs) (k : KTu H H') : Reps R H' vs xs := Paired.mapP h fun _ _ z => R.same z k
theorem Reps.at {α : Type} {R : DictRep α} {H : Hp} : ∀ {vs : List V} {xs : List α} {i : Nat} {x : α}, Reps R H vs xs → xs[i]? = some x → ∃ v, vs[i]? = some v ∧ R.Rep x v H
 | _, _, _, _, .nil, e => by simp at e
 | _, _, 0, _, .cons r _, e => by simp at e; subst e; exact ⟨_, rfl, r⟩
 | _, _, i + 1, _, .cons _ t, e => by
  simp only [List.getElem?_cons_succ] at e ⊢
  exact Reps.at t e
theorem sc_grown_from : FnScope ["first", "many", "onward", "is_yes", "most", "rooms", "numbers", "moves", "room", "leads", "letter", "to", "yes"] ["first", "many", "onward", "is_yes", "most"] (defScope s_grown_from) := ⟨rfl, rfl, rfl, by decide +kernel, rfl, by decide +kernel, by decide +kernel⟩
set_option maxHeartbeats 16000000 in
theorem ok_grown_from {a : Adr} (T : Txt K mg a) {α : Type} (R : DictRep α) {many : Nat} {on : α → Nat → α} {yes : α → Bool} {Ok : α → Prop} {Ev : Hp → Prop} {f1 f2 : Addr} {k : Nat}
  (F1 : FnAt P w K mg base k f1 2 (spOn R many on Ok Ev)) (F2 : FnAt P w K mg base k f2 1 (spYs R yes Ok Ev)) (okS : ∀ x a, Ok x → a < many → Ok (on x a)) (evS : ∀ H H', Ev H → Same H H' → Ev H') :
  FnOk P w K mg base CX0 (k + 1) a.f_grown_from a.fd_grown_from ["first", "many", "onward", "is_yes", "most"] (spGrown R many on yes Ok Ev f1 f2) := by
 obtain ⟨o1, fd1, ps1, ho1, hf1, hl1, hb1, G1⟩ := F1
 obtain ⟨o2, fd2, ps2, ho2, hf2, hl2, hb2, G2⟩ := F2
 refine T.F_grown_from.ok sc_grown_from (fun vs H Q E h => ?_) (fun Ar outer sh H vs Q E hr h => ?_)
 ·obtain ⟨x0, v0, most, rfl, _⟩ := h
  rfl
 ·obtain ⟨x0, v0, most, rfl, r0, k0, ev0, hbm, hmany, q0, q⟩ := h
  refine ⟨_, (pss_cons (ps_set (i := 5) sc_grown_from.nd rfl (Or.inl rfl) (pe_lst (pa_cons (pv 0) pa_nil)))
  (pss_cons (ps_set (i := 6) sc_grown_from.nd rfl (Or.inl rfl) (R.disp (hu_of hr) (pv 0) pe_int))
  (pss_cons (ps_set (i := 7) sc_grown_from.nd rfl (Or.inl rfl) (pe_lst pa_nil))
  (pss_cons (ps_while PassesOwn.never (pt_chain op_lt op_le (pe_callB (call_lenK K) (by rfl) T.z_len bt_len (pa_cons (pv 7) pa_nil)) (pe_callB (call_lenK K) (by rfl) T.z_len bt_len (pa_cons (pv 5) pa_nil)) (pv 4))
   (pss_cons (ps_set (i := 8) sc_grown_from.nd rfl (Or.inl rfl) (pe_ix (ix_listK K) (pv 5) (pe_callB (call_lenK K) (by rfl) T.z_len bt_len (pa_cons (pv 7) pa_nil)) (fun _ _ => rfl)))
   (pss_cons (ps_set (i := 9) sc_grown_from.nd rfl (Or.inl rfl) (pe_lst pa_nil))
   (pss_cons (ps_for PassesOwn.never rfl (pi_range1 rfl T.z_range (pa_cons (pv 1) pa_nil)) (pg_name (i := 10) sc_grown_from.nd rfl (Or.inl rfl))
    (pss_cons (ps_set (i := 11) sc_grown_from.nd rfl (Or.inl rfl) (pe_callV (i := 2) G1 ho1 hf1 hr hb1 rfl (Or.inl rfl) (pa_cons (pv 8) (pa_cons (pv 10) pa_nil))))
    (pss_cons (ps_if (pt_cmp (pc_dnotin (hu_of hr) (pv 11) (pv 6)) (by with_unfolding_all rfl))
     (pss_cons (ps_dput (hu_of hr) (pv 6) (pv 11) (pe_callB (call_lenK K) (by rfl) T.z_len bt_len (pa_cons (pv 5) pa_nil)) rfl)
     (pss_one (ps_expr (pe_bm PySem.F.plainAttrs_list PySem.F.slot_list_append PySem.F.type_list_append mt_append (pv 5) (pa_cons (pv 11) pa_nil)))))
     pss_nil)
    (pss_one (ps_expr (pe_bm PySem.F.plainAttrs_list PySem.F.slot_list_append PySem.F.type_list_append mt_append (pv 9) (pa_cons (pe_dget (hu_of hr) (pv 6) (pv 11) (fun _ _ => rfl)) pa_nil)))))))
   (pss_one (ps_expr (pe_bm PySem.F.plainAttrs_list PySem.F.slot_list_append PySem.F.type_list_append mt_append (pv 7) (pa_cons (pe_callTy (call_tupleK K) (by rfl) T.z_tuple bt_tuple (pa_cons (pv 9) pa_nil)) pa_nil))))))))
  (pss_cons (ps_if (pt_cmpR op_gt (pe_callB (call_lenK K) (by rfl) T.z_len bt_len (pa_cons (pv 5) pa_nil)) (pv 4) (nomark _))
   (pss_one (ps_ret pe_non))
   pss_nil)
  (pss_cons (ps_set (i := 12) sc_grown_from.nd rfl (Or.inl rfl) (pe_callTy (call_tupleK K) (by rfl) T.z_tuple bt_tuple (pa_cons (pe_comp (CompScope.mk' (esc := defScope s_grown_from) (N := ["first", "many", "onward", "is_yes", "most", "rooms", "numbers", "moves", "room", "leads", "letter", "to", "yes"]) (own := ["room"]) (frn := ["is_yes"]) (frj := [3]) rfl rfl (by decide +kernel)) rfl (pi_list (pv 5)) (fun _ _ _ _ => (pg_name (i := 0) (show List.Nodup (["room", "is_yes"] : List Str) by decide +kernel) rfl (Or.inl rfl))) (fun _ _ _ _ => pifs_nil) (fun _ _ _ _ => (pe_callTy call_bool1 (by rfl) T.z_bool bt_bool (pa_cons (pe_callV (i := 1) G2 ho2 hf2 hr hb2 (by rfl) (by first | exact Or.inl rfl | exact Or.inr (Or.inl rfl) | exact Or.inr (Or.inr rfl)) (pa_cons (pv 0) pa_nil)) pa_nil)))) pa_nil)))
  (pss_one (ps_ret (pe_tup (pa_cons (pv 5) (pa_cons (pv 12) (pa_cons (pe_callTy (call_tupleK K) (by rfl) T.z_tuple bt_tuple (pa_cons (pv 7) pa_nil)) pa_nil)))))))))))), ?_⟩
  have big : (100000 : Nat) ≤ sizeLine := by decide
  have okRun : ∀ (w : List Nat) (x : α), Ok x → Word many w → Ok (runA on x w) := by
   intro w
   induction w with
   | nil => intro x hx _; exact hx
   | cons c w ih => intro x hx hw; exact ih _ (okS x c hx (hw c List.mem_cons_self)) fun z hz => hw z (List.mem_cons_of_mem _ hz)
  refine hideS fun Y hY => ?_
  refine ⟨_, rfl, by show 1 ≤ sizeLine; omega, fun Rr hR => ?_⟩
  have sR := Same.new (o := .lst [v0]) hR
  dsimp only [gName]
  subst hY
  refine hideS fun Y hY => ?_
  refine ⟨x0, v0, rfl, R.same r0 sR.kt, fun D H2 hD s2 num => ?_⟩
  have eR2 : H2 Rr = some (.lst [v0]) := s2 _ _ upd_same
  have hD0 : H D = none := sR.free hD
  have DR : Rr ≠ D := ne_of_none (show (upd H Rr (.lst [v0])) Rr = some (.lst [v0]) from upd_same) hD
  dsimp only [gName]
  subst hY
  refine hideS fun Y hY => ?_
  refine ⟨by show 0 ≤ sizeLine; omega, fun M hM => ?_⟩
  have sM := Same.new (o := .lst []) hM
  have hM0 : H M = none := sR.free (s2.free hM)
  have MR : M ≠ Rr := (ne_of_none eR2 hM).symm
  obtain ⟨oD, eoD, _, _⟩ := R.isD num
  have MD : M ≠ D := (ne_of_none eoD hM).symm
  have sH3 := (sR.trans s2).trans sM
  dsimp only [gName]
  subst hY
  refine seq_restN (t := tWhile _ _) (u := tSeq _ _) (fun σ H' => ∃ (xs : List α) (mv : List (List Nat)) (vs : List V) (ps : List Addr) (v8 v9 v10 v11 : Option V), σ = [some v0, some (.int (many : Nat)), some (.ref f1), some (.ref f2), some (.int (most : Nat)), some (.ref Rr), some (.ref D), some (.ref M), v8, v9, v10, v11, none] ∧ Same H H' ∧
   H' Rr = some (.lst vs) ∧ Reps R H' vs xs ∧ H' M = some (.lst (ps.map V.ref)) ∧ Tups H' ps (mv.map castI) ∧ Grown x0 on many xs mv ∧ xs.length ≤ 20000 ∧ (xs.length ≤ most → mv.length = xs.length)) ?re (fun Y rest => ?_)
  case re =>
   rintro σ H' ⟨xs, mv, vs, ps, v8, v9, v10, v11, rfl, s', eR, rp, eM, tp, g, lx, hl⟩
   have lvs : vs.length = xs.length := Paired.length rp
   have lps : ps.length = mv.length := by rw [Paired.length tp, List.length_map]
   refine hideS fun Y hY => ?_
   refine ⟨_, rfl, _, vs.length, rfl, .inl ⟨_, .of eR, rfl⟩, _, rfl, _, _, rfl, rfl, _, rfl, ?_⟩
   by_cases hc : xs.length ≤ most
   rotate_left
   ·rw [show decide ((most : Int) < ((vs.length : Nat) : Int)) = true from decide_eq_true (by omega)]
    exact iteT (q0 xs H' s' g.once g.reach (by omega))
   have hl := hl hc
   rw [show decide ((most : Int) < ((vs.length : Nat) : Int)) = false from decide_eq_false (by omega)]
   refine iteF ?_
   subst hY
   dsimp only [tNext]
   refine hideS fun Y hY => ?_
   refine ⟨_, rfl, Rr, rfl, ⟨_, .of eR⟩, fun C hC => ?_⟩
   refine comp_list (xs := vs) (fun j σ H2 => ∃ v : Option V, σ = [v, some (.ref f2)] ∧ Same H' H2 ∧ H2 C = some (.lst (((xs.take j).map yes).map V.bl)))
    ⟨none, ?sg, Same.new hC, upd_same⟩ (by rintro j σ H2 _ ⟨_, _, s2, _⟩; exact .of (s2 _ _ eR)) ?_ ?_
   case sg => rfl
   ·rintro j y σ H2 hy ⟨v, rfl, s2, c2⟩
    have hj : j < xs.length := by rw [← lvs]; exact (List.getElem?_eq_some_iff.mp hy).1
    have ex : xs[j]? = some xs[j] := List.getElem?_eq_getElem hj
    obtain ⟨v', hv', rv⟩ := rp.at ex
    rw [hy] at hv'
    have hv2 := Option.some.inj hv'
    subst hv2
    obtain ⟨w, hw, ew⟩ := g.reach xs[j] (List.getElem_mem ..)
    have okx : Ok xs[j] := by rw [ew]; exact okRun w x0 k0 hw
    refine ⟨rfl, _, rfl, xs[j], y, rfl, R.same rv s2.kt, okx, evS _ _ ev0 (s'.trans s2), fun H3 s3 => ?_⟩
    refine .inr ⟨_, rfl, _, s3 _ _ c2, by rw [List.length_map, List.length_map, List.length_take]; omega, _, rfl, (s2.trans s3).kbn hC KB.write, ?_⟩
    rw [upd_same, take_snoc ex, List.map_append, List.map_append]; rfl
   rintro σ H2 ⟨v, rfl, s2, c2⟩
   rw [lvs, List.take_length] at c2
   refine ⟨C, _, rfl, .inl ⟨.of c2, fun Ya hYa => ?_⟩⟩
   have sY := Same.new (o := .tup ((xs.map yes).map V.bl)) hYa
   dsimp only [gName]
   subst hY
   refine ⟨_, rfl, _, rfl, _, rfl, M, _, rfl, .inl ⟨.of (sY _ _ (s2 _ _ eM)), fun Va hVa => ⟨by show 3 ≤ sizeLine; omega, fun p hp => ?_⟩⟩⟩
   have sV := Same.new (o := .tup (ps.map V.ref)) hVa
   have sP := Same.new (o := .tup [.ref Rr, .ref Ya, .ref Va]) hp
   have sAll := ((s2.trans sY).trans sV).trans sP
   exact q xs mv vs p Rr Ya Va ps _ (s'.trans sAll) hR hl hc g upd_same (sAll _ _ eR) (rp.keep sAll.kt) (sP _ _ (sV _ _ upd_same)) (sP _ _ upd_same) (tp.keep sAll.kt)
  refine whileMN (fun m σ H' => ∃ (xs : List α) (mv : List (List Nat)) (vs : List V) (ps : List Addr) (v8 v9 v10 v11 : Option V), m = most + 1 - mv.length ∧ σ = [some v0, some (.int (many : Nat)), some (.ref f1), some (.ref f2), some (.int (most : Nat)), some (.ref Rr), some (.ref D), some (.ref M), v8, v9, v10, v11, none] ∧ Same H H' ∧
    H' Rr = some (.lst vs) ∧ Reps R H' vs xs ∧ R.Num H' D xs ∧ H' M = some (.lst (ps.map V.ref)) ∧ Tups H' ps (mv.map castI) ∧ Grown x0 on many xs mv ∧ mv.length ≤ xs.length ∧ xs.length ≤ 20000)
   ⟨_, [x0], [], [v0], [], none, none, none, none, rfl, rfl, sH3, sM _ _ eR2, .cons (R.same r0 sH3.kt) .nil, R.keep num (upd_ne MD.symm), upd_same, .nil, Grown.begin, by simp, by simp⟩ ?_ ?_
  ·rintro m σ H4 N hN ⟨xs, mv, vs, ps, v8, v9, v10, v11, rfl, rfl, s4, eR, rp, nm, eM, tp, g, hl, lx⟩
   have lvs : vs.length = xs.length := Paired.length rp
   have lps : ps.length = mv.length := by rw [Paired.length tp, List.length_map]
   refine ⟨_, rfl, _, ps.length, rfl, .inl ⟨_, .of eM, by rw [List.length_map]⟩, _, rfl, _, vs.length, rfl, .inl ⟨_, .of eR, rfl⟩, _, _, rfl, rfl, _, rfl, ?_⟩
   by_cases hlt : mv.length < xs.length
   ·rw [show decide (((ps.length : Nat) : Int) < ((vs.length : Nat) : Int)) = true from decide_eq_true (by omega)]
    refine iteT ⟨_, rfl, _, _, rfl, rfl, _, rfl, ?_⟩
    by_cases hc : xs.length ≤ most
    rotate_left
    ·rw [show decide (((vs.length : Nat) : Int) ≤ ((most : Nat) : Int)) = false from decide_eq_false (by omega)]
     refine iteF ?_
     exact rest _ _ ⟨xs, mv, vs, ps, v8, v9, v10, v11, rfl, s4, eR, rp, eM, tp, g, lx, fun z => absurd z hc⟩
    rw [show decide (((vs.length : Nat) : Int) ≤ ((most : Nat) : Int)) = true from decide_eq_true (by omega)]
    refine iteT ?_
    refine hideS fun Y hY => ?_
    obtain ⟨x, ex⟩ : ∃ x, xs[mv.length]? = some x := ⟨_, List.getElem?_eq_getElem hlt⟩
    obtain ⟨vx, hvx, rx⟩ := rp.at ex
    have rchx := g.reach x (List.mem_of_getElem? ex)
    have okx : Ok x := by obtain ⟨w, hw, ew⟩ := rchx; rw [ew]; exact okRun w x0 k0 hw
    refine ⟨_, rfl, _, rfl, _, ps.length, rfl, .inl ⟨_, .of eM, by rw [List.length_map]⟩, Rr, _, _, vx, rfl, rfl, .of eR, atI_nat (by rw [lps]; exact hvx), ?_⟩
    dsimp only [gName]
    subst hY
    refine hideS fun Y hY => ?_
    refine ⟨by show 0 ≤ sizeLine; omega, fun L hL => ?_⟩
    have sL := Same.new (o := .lst []) hL
    have hL0 : H L = none := s4.free hL
    have LR : L ≠ Rr := (ne_of_none eR hL).symm
    have LM : L ≠ M := (ne_of_none eM hL).symm
    obtain ⟨oD4, eoD4, _, _⟩ := R.isD nm
    have LD : L ≠ D := (ne_of_none eoD4 hL).symm
    dsimp only [gName]
    subst hY
    refine hideS fun Y hY => ?_
    refine ⟨_, rfl, _, rfl, by omega, by omega, for_rangeN (n := (many : Int).toNat) (fun j σ H' => ∃ (ys : List α) (us : List V) (leads : List Nat) (v10 v11 : Option V), σ = [some v0, some (.int (many : Nat)), some (.ref f1), some (.ref f2), some (.int (most : Nat)), some (.ref Rr), some (.ref D), some (.ref M), some vx, some (.ref L), v10, v11, none] ∧ Same H H' ∧ KTu H4 H' ∧
      H' Rr = some (.lst us) ∧ Reps R H' us ys ∧ R.Num H' D ys ∧ H' M = some (.lst (ps.map V.ref)) ∧ H' L = some (.lst ((castI leads).map V.int)) ∧ leads.length = j ∧ GRow x0 on many xs x leads ys)
     ⟨xs, vs, [], v10, v11, rfl, s4.trans sL, sL.kt, sL _ _ eR, rp.keep sL.kt, R.keep nm (upd_ne LD.symm), sL _ _ eM, upd_same, rfl, GRow.start g⟩ ?_ ?_⟩
    ·rintro j σ H5 N2 hN2 hj ⟨ys, us, leads, v10, v11, rfl, s5, kt5, eR5, rp5, nm5, eM5, eL5, ll, gr⟩
     have ej : (0 : Int) + (j : Int) = ((j : Nat) : Int) := by omega
     rw [ej]
     have hjm : j < many := by omega
     have ly := rowGo_up _ _ _ gr.go
     have lus : us.length = ys.length := Paired.length rp5
     dsimp only [gName]
     refine hideS fun Y hY => ?_
     refine ⟨rfl, _, rfl, _, rfl, x, vx, j, rfl, R.same rx kt5, okx, hjm, evS _ _ ev0 s5, fun to H6 s6 rto => ?_⟩
     have eR6 := s6 _ _ eR5
     have eM6 := s6 _ _ eM5
     have eL6 := s6 _ _ eL5
     have rp6 := rp5.keep s6.kt
     obtain ⟨oD5, eoD5, nD1, nD2⟩ := R.isD nm5
     have nm6 := R.keep nm5 ((s6 _ _ eoD5).trans eoD5.symm)
     have eoD6 := s6 _ _ eoD5
     have kt6 : KTu H4 H6 := fun b l z => s6 _ _ (kt5 _ _ z)
     have sH6 := s5.trans s6
     dsimp only [gName]
     subst hY
     refine seq_restN (t := tIfS _ _ _) (u := tDrop _) (fun σ H' => ∃ (zs : List α) (ws : List V) (t : Nat), σ = [some v0, some (.int (many : Nat)), some (.ref f1), some (.ref f2), some (.int (most : Nat)), some (.ref Rr), some (.ref D), some (.ref M), some vx, some (.ref L), some (.int (j : Nat)), some to, none] ∧ Same H H' ∧ KTu H6 H' ∧
      H' Rr = some (.lst ws) ∧ Reps R H' ws zs ∧ R.Num H' D zs ∧ H' M = some (.lst (ps.map V.ref)) ∧ H' L = some (.lst ((castI leads).map V.int)) ∧ zs[t]? = some (on x j) ∧ GRow x0 on many xs x (leads ++ [t]) zs) ?re2 (fun Y rest2 => ?_)
     case re2 =>
      rintro σ H7 ⟨zs, ws, t, rfl, s7, kt7, eR7, rp7, nm7, eM7, eL7, hz, gr7⟩
      refine ⟨_, rfl, Or.inl ⟨rfl, _, .of eL7⟩, _, rfl, _, rfl, D, _, rfl, R.there nm7 (R.same rto kt7) gr7.once hz, L, _, _, rfl, rfl, eL7, by rw [List.length_map, castI_len]; omega, ?_⟩
      have kL : KTu H7 (upd H7 L (.lst ((castI leads).map V.int ++ [.int (t : Nat)]))) := ktu_upd eL7 (fun l z => nomatch z)
      refine hN2 _ _ ⟨zs, ws, leads ++ [t], _, _, rfl, s7.kbn hL0 KB.write, fun b l z => kL _ _ (kt7 _ _ (kt6 _ _ z)), by rw [upd_ne LR.symm]; exact eR7, rp7.keep kL, R.keep nm7 (upd_ne LD.symm), by rw [upd_ne LM.symm]; exact eM7, ?_, by rw [List.length_append, ll]; rfl, gr7⟩
      rw [upd_same, castI_app, List.map_append]; rfl
     by_cases hm : on x j ∈ ys
     ·obtain ⟨i, hi⟩ := List.getElem?_of_mem hm
      refine ⟨_, rfl, _, rfl, D, _, rfl, R.there nm6 rto gr.once hi, _, rfl, ?_⟩
      refine iteF ?_
      exact rest2 _ _ ⟨ys, us, i, rfl, sH6, fun _ _ z => z, eR6, rp6, nm6, eM6, eL6, hi, gr.old (by rw [ll]; exact hi)⟩
     ·refine ⟨_, rfl, _, rfl, D, _, rfl, R.miss nm6 rto hm, _, rfl, ?_⟩
      refine iteT ?_
      obtain ⟨H7, hput, kb7, nm7⟩ := R.put nm6 rto hm (by omega)
      have gr' := gr.new (by omega) rchx (by rw [ll]; exact hm)
      rw [ll] at gr'
      have eR7 := kb7 _ _ eR6 DR
      refine ⟨_, rfl, _, us.length, rfl, .inl ⟨_, .of eR6, rfl⟩, _, rfl, _, rfl, D, H7, rfl, by rw [lus]; exact hput, ?_⟩
      refine ⟨_, rfl, Or.inl ⟨rfl, _, .of eR7⟩, _, rfl, Rr, _, _, rfl, rfl, eR7, by omega, ?_⟩
      have kt7 : KTu H6 H7 := ktu_kb eoD6 nD2 kb7
      have kR : KTu H7 (upd H7 Rr (.lst (us ++ [to]))) := ktu_upd eR7 (fun l z => nomatch z)
      have kt8 : KTu H6 (upd H7 Rr (.lst (us ++ [to]))) := fun b l z => kR _ _ (kt7 _ _ z)
      refine rest2 _ _ ⟨ys ++ [on x j], us ++ [to], ys.length, rfl, (sH6.kbn hD0 kb7).kbn hR KB.write, kt8, upd_same, ?_, R.keep nm7 (upd_ne DR.symm), by rw [upd_ne MR]; exact kb7 _ _ eM6 MD, by rw [upd_ne LR]; exact kb7 _ _ eL6 LD, by rw [List.getElem?_append_right (Nat.le_refl _), Nat.sub_self]; rfl, gr'⟩
      exact paired_snoc (rp6.keep kt8) (R.same rto kt8)
    ·rintro σ H5 ⟨ys, us, leads, v10, v11, rfl, s5, kt5, eR5, rp5, nm5, eM5, eL5, ll, gr⟩
     subst hY
     have ll2 : leads.length = many := by rw [ll]; omega
     have g2 := g.next ex gr ll2
     have ly := rowGo_up _ _ _ gr.go
     obtain ⟨more, emore⟩ := gr.pre
     have lxy : xs.length ≤ ys.length := by rw [emore, List.length_append]; omega
     refine ⟨_, rfl, Or.inl ⟨rfl, _, .of eM5⟩, _, rfl, L, _, rfl, .inl ⟨.of eL5, fun t ht => ?_⟩⟩
     have sT := Same.new (o := .tup ((castI leads).map V.int)) ht
     have nMt : M ≠ t := ne_of_none eM5 ht
     have nRt : Rr ≠ t := ne_of_none eR5 ht
     obtain ⟨oD5, eoD5, nD1, nD2⟩ := R.isD nm5
     have nDt : D ≠ t := ne_of_none eoD5 ht
     have eM6 := sT _ _ eM5
     refine ⟨M, _, _, rfl, rfl, eM6, by rw [List.length_map]; omega, ?_⟩
     have kM : KTu (upd H5 t (.tup ((castI leads).map V.int))) (upd (upd H5 t (.tup ((castI leads).map V.int))) M (.lst (ps.map V.ref ++ [.ref t]))) := ktu_upd eM6 (fun l z => nomatch z)
     have kA : KTu H5 (upd (upd H5 t (.tup ((castI leads).map V.int))) M (.lst (ps.map V.ref ++ [.ref t]))) := fun b l z => kM _ _ (sT.kt _ _ z)
     refine hN _ _ _ ?_ ⟨ys, mv ++ [leads], us, ps ++ [t], _, _, _, _, rfl, rfl, (s5.trans sT).kbn hM0 KB.write, by rw [upd_ne MR.symm]; exact sT _ _ eR5, rp5.keep kA, R.keep nm5 (by rw [upd_ne MD.symm, upd_ne nDt]), by rw [upd_same, List.map_append]; rfl, ?_, g2, by rw [List.length_append]; simp; omega, by omega⟩
     ·rw [List.length_append]; simp; omega
     ·rw [List.map_append]
      exact paired_snoc ((tp.keep kt5).keep kA) (by rw [upd_ne nMt.symm, upd_same])
   ·have e : mv.length = xs.length := by omega
    rw [show decide (((ps.length : Nat) : Int) < ((vs.length : Nat) : Int)) = false from decide_eq_false (by omega)]
    refine iteF ⟨_, rfl, iteF ?_⟩
    exact rest _ _ ⟨xs, mv, vs, ps, v8, v9, v10, v11, rfl, s4, eR, rp, eM, tp, g, lx, fun _ => e⟩
  ·rintro σ H Q Q' h ⟨v, e1, v2, n1, e2, l1, v3, e3, v4, n2, e4, l2, i, j, e5, e6, k, e7, z⟩
   refine ⟨v, e1, v2, n1, e2, l1, v3, e3, v4, n2, e4, l2, i, j, e5, e6, k, e7, ?_⟩
   cases k with
   | false =>
    rw [if_neg Bool.false_ne_true] at z ⊢
    obtain ⟨k', e8, q⟩ := z
    exact ⟨k', e8, h _ _ q⟩
   | true =>
    rw [if_pos rfl] at z ⊢
    obtain ⟨v5, e9, i2, j2, e10, e11, k2, e12, q⟩ := z
    exact ⟨v5, e9, i2, j2, e10, e11, k2, e12, h _ _ q⟩
inductive spMachOfI (P : Program) (w : World) (K : PySem.W.Frag) (mg : Str → Option Value) (base : Heap) (k : Nat) (vs : List V) (H : Hp) (Q : VK) (E_3 : XK) : Prop where
 | mk (b most : Nat) (nm g : Addr) (ss : List Str) (α : Type) (R : DictRep α) (on : α → Nat → α) (yes : α → Bool) (Ok : α → Prop) (Ev : Hp → Prop) (x0 : α) (v0 : V) (f1 f2 : Addr) (D : List Addr) (h0_ : vs = [.int b, .ref nm, .ref g, .int most]) (h1_ : b ≤ 4) (h2_ : ss.length ≤ 4) (h3_ : H nm = some (.tup (ss.map V.str))) (h4_ : H g = some (.tup [v0, .ref f1, .ref f2])) (h5_ : (∀ a ∈ D, ∃ φ, H a = some (.ext φ))) (h6_ : FnIn P w K mg base H D k f1 2 (spOn R (b ^ ss.length) on Ok Ev)) (h7_ : FnIn P w K mg base H D k f2 1 (spYs R yes Ok Ev)) (h8_ : (∀ x a, Ok x → a < b ^ ss.length → Ok (on x a))) (h9_ : (∀ H H', Ev H → Same H H' → Ev H')) (h10_ : (∀ D H, (∀ a ∈ D, ∃ φ, H a = some (.ext φ)) → Ev H → Ev (untr D H))) (h11_ : R.Rep x0 v0 H) (h12_ : Ok x0) (h13_ : Ev H) (h14_ : most ≤ 10000) (h15_ : (∀ (xs : List α) (H' : Hp), Same H H' → xs.Nodup → (∀ x ∈ xs, ∃ w, Word (b ^ ss.length) w ∧ x = runA on x0 w) → most < xs.length → Q .non H')) (h16_ : ∀ (xs : List α) (mv : List (List Nat)) (p : Addr) (H' : Hp), Same H H' → mv.length = xs.length → xs.length ≤ most → Grown x0 on (b ^ ss.length) xs mv → MachAt H' p nm (xs.map yes) mv → Q (.ref p) H')
def spMachOf (P : Program) (w : World) (K : PySem.W.Frag) (mg : Str → Option Value) (base : Heap) (k : Nat) : Sp := fun vs H Q E_3 => spMachOfI P w K mg base k vs H Q E_3
theorem sc_machine_of : FnScope ["base", "names", "growth", "most", "many", "grown"] ["base", "names", "growth", "most"] (defScope s_machine_of) := ⟨rfl, rfl, rfl, by decide +kernel, rfl, by decide +kernel, by decide +kernel⟩
theorem ok_machine_of {a : Adr} (T : Txt K mg a) (k : Nat) : FnOk P w K mg base CX0 (k + 2) a.f_machine_of a.fd_machine_of ["base", "names", "growth", "most"] (spMachOf P w K mg base k) := by
 have G_all_letters := ok_all_letters (P := P) (w := w) (base := base) T
 refine T.F_machine_of.ok sc_machine_of (fun vs H Q E h => ?_) (fun cdv A outer s H vs Q E hr h => ?_)
 ·obtain ⟨b, most, nm, g, ss, α, R, on, yes, Ok, Ev, x0, v0, f1, f2, D, rfl, _⟩ := h
  rfl
 ·obtain ⟨b, most, nm, g, ss, α, R, on, yes, Ok, Ev, x0, v0, f1, f2, D, rfl, hb4, hs4, enm, eg, hD, F1, F2, okS, evS, evU, r0, ok0, ev0, hbm, q0, q⟩ := h
  have hr_all_letters : Room 1 _ := hr.mono (by omega)
  have hr_grown : Room (k + 1) _ := hr
  refine ⟨_, (pss_cons (ps_set (i := 4) sc_machine_of.nd rfl (Or.inl rfl) (pe_callB (call_lenK K) (by rfl) T.z_len bt_len (pa_cons (pe_call G_all_letters hr_all_letters rfl T.m_all_letters T.k_all_letters T.b_all_letters .nil pass0 (pa_cons (pv 0) (pa_cons (pe_callB (call_lenK K) (by rfl) T.z_len bt_len (pa_cons (pv 1) pa_nil)) pa_nil))) pa_nil)))
  (pss_cons (ps_set (i := 5) sc_machine_of.nd rfl (Or.inl rfl) (pe_callW (fun _ => rfl) hr_grown rfl T.m_grown_from T.k_grown_from T.b_grown_from (pa_cons (pe_ix (ix_tupK K) (pv 2) pe_int (fun _ _ => rfl)) (pa_cons (pv 4) (pa_cons (pe_ix (ix_tupK K) (pv 2) pe_int (fun _ _ => rfl)) (pa_cons (pe_ix (ix_tupK K) (pv 2) pe_int (fun _ _ => rfl)) (pa_cons (pv 3) pa_nil)))))))
  (pss_cons (ps_if (pt_cmpR op_isN (pv 5) pe_non (nomark _))
   (pss_one (ps_ret pe_non))
   pss_nil)
  (pss_one (ps_ret (pe_tup (pa_cons (pv 1) (pa_cons (pe_ix (ix_tupK K) (pv 5) pe_int (fun _ _ => rfl)) (pa_cons (pe_ix (ix_tupK K) (pv 5) pe_int (fun _ _ => rfl)) pa_nil))))))))), ?_⟩
  have big : (10000 : Nat) ≤ sizeLine := by decide
  have hB : b ^ ss.length ≤ 256 := small_pow hb4 hs4
  refine ⟨_, rfl, _, rfl, _, ss.length, rfl, .inr ⟨_, .of enm, by rw [List.length_map]⟩, b, ss.length, rfl, hb4, hs4, fun D0 ps0 H1 hD0 s1 e1 t1 => ?_⟩
  refine ⟨_, b ^ ss.length, rfl, .inl ⟨_, .of e1, by rw [List.length_map, Paired.length t1, lets_len]⟩, ?_⟩
  dsimp only [gName]
  have eg1 := s1 _ _ eg
  refine ⟨_, rfl, g, _, _, v0, rfl, rfl, .of eg1, atI_nat (j := 0) rfl, _, rfl, _, rfl, g, _, _, .ref f1, rfl, rfl, .of eg1, atI_nat (j := 1) rfl, _, rfl, g, _, _, .ref f2, rfl, rfl, .of eg1, atI_nat (j := 2) rfl, _, rfl, ?_⟩
  have hD1 : ∀ a ∈ D, ∃ φ, H1 a = some (.ext φ) := fun a ha => let ⟨φ, e⟩ := hD a ha; ⟨φ, s1 _ _ e⟩
  refine ⟨D, hD1, fun base' W => ?_⟩
  have F1' := (F1.same fun b φ _ e => s1 _ _ e) base' W.b
  have F2' := (F2.same fun b φ _ e => s1 _ _ e) base' W.b
  refine ⟨_, ok_grown_from (k := k) T R F1' F2' okS evS, ?_⟩
  have ktu : KTu H1 (untr D H1) := fun b xs z => untr_get hD1 z (fun _ y => nomatch y)
  refine ⟨x0, v0, most, rfl, R.same (R.same r0 s1.kt) ktu, ok0, evU D H1 hD1 (evS _ _ ev0 s1), hbm, by omega, fun xs H2 s2 nd rc lt n2 => ?_, fun xs mv vs p Rr ya va ps H2 s2 hRr hl hlm gr ep _ _ ey ev tp n2 => ?_⟩
  ·have sAll := s1.trans (retr_same s2)
   generalize retr D H1 H2 = H3 at sAll ⊢
   dsimp only [gName]
   refine ⟨_, rfl, rfl, _, rfl, ?_⟩
   exact ite2 (fun _ => q0 xs H3 sAll nd rc lt) (fun z => absurd rfl z)
  have s3 := retr_same s2
  have o2 : ∀ {b : Addr} {o : HO}, H2 b = some o → retr D H1 H2 b = some o := fun {b o} e => by
   rw [retr_out fun z => ?_]
   ·exact e
   ·rw [n2 b z] at e; cases e
  have ep3 := o2 ep
  have ey3 := o2 ey
  have ev3 := o2 ev
  have tp3 := tp.keep (show KTu H2 (retr D H1 H2) from fun b xs z => o2 z)
  have sAll := s1.trans s3
  generalize retr D H1 H2 = H3 at s3 ep3 ey3 ev3 tp3 sAll ⊢
  dsimp only [gName]
  refine ⟨_, rfl, rfl, _, rfl, ?_⟩
  refine ite2 (fun z => absurd z (by simp)) (fun _ => ?_)
  refine ⟨_, rfl, _, rfl, p, _, _, .ref ya, rfl, rfl, .of ep3, atI_nat (j := 1) rfl, _, rfl, p, _, _, .ref va, rfl, rfl, .of ep3, atI_nat (j := 2) rfl, by show 3 ≤ sizeLine; decide, fun m hm => ?_⟩
  have sm := Same.new (o := .tup [.ref nm, .ref ya, .ref va]) hm
  exact q xs mv m _ (sAll.trans sm) hl hlm gr ⟨ya, va, ps, upd_same, sm _ _ ey3, sm _ _ ev3, tp3.keep sm.kt⟩
theorem sc_l_letters : FnScope ["_law_base", "_law_many", "_law_found", "_law_turn", "_law_more", "_law_letter"] ["_law_base", "_law_many"] (defScope s_l_letters) := ⟨rfl, rfl, rfl, by decide +kernel, rfl, by decide +kernel, by decide +kernel⟩
theorem ok_l_letters {a : Adr} (T : Txt K mg a) : FnOk P w K mg base CX0 1 a.f_l_letters a.fd_l_letters ["_law_base", "_law_many"] spLetters := by
 refine T.F_l_letters.ok sc_l_letters (fun vs H Q E h => ?_) (fun cdv A outer s H vs Q E hr h => ?_)
 ·obtain ⟨b, n, rfl, _⟩ := h
  rfl
 ·obtain ⟨b, n, rfl, hb, hn, k⟩ := h
  refine ⟨_, (pss_cons (ps_set (i := 2) sc_l_letters.nd rfl (Or.inl rfl) (pe_lst (pa_cons (pe_tup pa_nil) pa_nil)))
  (pss_cons (ps_for PassesOwn.never rfl (pi_range1 rfl T.z_range (pa_cons (pv 1) pa_nil)) (pg_name (i := 3) sc_l_letters.nd rfl (Or.inl rfl))
   (pss_cons (ps_set (i := 4) sc_l_letters.nd rfl (Or.inl rfl) (pe_lst pa_nil))
   (pss_cons (ps_for PassesOwn.never rfl (pi_list (pv 2)) (pg_name (i := 5) sc_l_letters.nd rfl (Or.inr rfl))
    (pss_one (ps_expr (pe_bm PySem.F.plainAttrs_list PySem.F.slot_list_extend PySem.F.type_list_extend mt_extend (pv 4) (pa_cons (pe_comp (CompScope.mk' (esc := defScope s_l_letters) (N := ["_law_base", "_law_many", "_law_found", "_law_turn", "_law_more", "_law_letter"]) (own := ["_law_figure"]) (frn := ["_law_letter"]) (frj := [5]) rfl rfl (by decide +kernel)) rfl (pi_range1 rfl T.z_range (pa_cons (pv 0) pa_nil)) (fun _ _ _ _ => (pg_name (i := 0) (show List.Nodup (["_law_figure", "_law_letter"] : List Str) by decide +kernel) rfl (Or.inl rfl))) (fun _ _ _ _ => pifs_nil) (fun _ _ _ _ => (pe_op (op_catNK K) (pv 1) (pe_tup (pa_cons (pv 0) pa_nil))))) pa_nil)))))
   (pss_one (ps_set (i := 2) sc_l_letters.nd rfl (Or.inl rfl) (pv 4))))))
  (pss_one (ps_ret (pv 2))))), ?_⟩
  refine ⟨by decide, fun p hp => ⟨by show 1 ≤ sizeLine; decide, fun D hD => ?_⟩⟩
  have hD0 : H D = none := (Same.new hp).free hD
  refine ⟨_, rfl, n, rfl, by omega, by omega, for_range (lo := 0) (n := (n : Int).toNat) (fun i σ H' => ∃ (D : Addr) (ps : List Addr) (v3 v4 v5 : Option V), σ = [some (.int b), some (.int n), some (.ref D), v3, v4, v5] ∧ H D = none ∧ Same H H' ∧ H' D = some (.lst (ps.map V.ref)) ∧ Tups H' ps (lets b i))
   ⟨D, [p], none, none, none, rfl, hD0, (Same.new hp).trans (Same.new hD), upd_same, .cons (by rw [upd_ne (ne_of_none (o := .tup []) upd_same hD)]; exact upd_same) .nil⟩ ?_ ?_⟩
  ·rintro i σ H1 hi ⟨D, ps, v3, v4, v5, rfl, hD, s1, eD, t1⟩
   rw [Int.toNat_natCast] at hi
   have lps : ps.length = b ^ i := by rw [Paired.length t1, lets_len]
   have bi : b ^ i ≤ 256 := small_pow hb (by omega)
   have bi1 : b ^ (i + 1) ≤ 256 := small_pow hb (by omega)
   refine ⟨by decide, fun E hE => ?_⟩
   have hE0 : H E = none := s1.free hE
   have nDE : D ≠ E := ne_of_none eD hE
   refine ⟨_, rfl, D, rfl, ⟨ps.map V.ref, .of (by rw [upd_ne nDE]; exact eD)⟩, for_list (xs := ps.map V.ref) (fun j σ H' => ∃ (qs : List Addr) (v5 : Option V), σ = [some (.int b), some (.int n), some (.ref D), some (.int (0 + (i : Int))), some (.ref E), v5] ∧
     Same H H' ∧ H' D = some (.lst (ps.map V.ref)) ∧ Tups H' ps (lets b i) ∧ H' E = some (.lst (qs.map V.ref)) ∧ Tups H' qs (((lets b i).take j).flatMap fun l => (List.range b).map fun (f : Nat) => l ++ [(f : Int)]))
    ⟨[], v5, rfl, s1.trans (Same.new hE), by rw [upd_ne nDE]; exact eD, t1.keep (Same.new hE).kt, upd_same, .nil⟩ (by rintro j σ H' _ ⟨_, _, _, _, h, _⟩; exact .of h) ?_ ?_⟩
   ·rintro j y σ H2 hj ⟨qs, v5, rfl, s2, eD2, t2, eE2, u2⟩
    rw [List.getElem?_map] at hj
    cases ep : ps[j]? with
    | none => rw [ep] at hj; cases hj
    | some p =>
     rw [ep] at hj
     have ey : y = .ref p := (Option.some.inj hj).symm
     subst ey
     obtain ⟨l, el, hl⟩ := t2.get ep
     have jlt : j < ps.length := (List.getElem?_eq_some_iff.mp ep).1
     refine ⟨_, rfl, .inl ⟨rfl, _, .of eE2⟩, _, rfl, b, rfl, by omega, by omega, fun C hC => ?_⟩
     have nEC : E ≠ C := ne_of_none eE2 hC
     have nDC : D ≠ C := ne_of_none eD2 hC
     refine comp_range (fun f σ H' => ∃ (rs : List Addr) (v : Option V), σ = [v, some (.ref p)] ∧ Same H2 H' ∧ H' C = some (.lst (rs.map V.ref)) ∧ Tups H' rs ((List.range f).map fun (f : Nat) => l ++ [(f : Int)]))
      ⟨[], none, rfl, Same.new hC, upd_same, .nil⟩ ?_ ?_
     ·rintro f σ H3 hf ⟨rs, v, rfl, s3, eC3, t3⟩
      refine ⟨_, rfl, _, rfl, by show 1 ≤ sizeLine; decide, fun q hq => ?_⟩
      have lrs : rs.length = f := by rw [Paired.length t3]; simp
      have nCq : C ≠ q := ne_of_none eC3 hq
      have ll : l.length = i := lets_mem b i l (List.mem_of_getElem? el)
      have e0 : (0 : Int) + (f : Int) = (f : Int) := by omega
      have hq2 : H2 q = none := s3.free hq
      have szf : (rs.map V.ref).length < sizeLine := by rw [List.length_map, lrs]; exact Nat.lt_of_lt_of_le (show f < 10 by omega) (by decide)
      have s4 : Same H2 (upd H3 q (.tup [.int (0 + (f : Int))])) := s3.trans (Same.new hq)
      have t4 := t3.keep (Same.new (o := .tup [.int (0 + (f : Int))]) hq).kt
      refine ⟨p, q, l.map V.int, [.int (0 + (f : Int))], rfl, rfl, .of (s4 _ _ hl), .of upd_same, by simp, ?_, fun hl0 => ?_, fun hl0 r hr => ?_⟩
      ·rw [List.length_map, ll]; exact Nat.le_trans (show i + 1 ≤ 10 by omega) (by decide)
      ·have hl1 : l = [] := by cases l with | nil => rfl | cons _ _ => cases hl0
       subst hl1
       have eC4 : (upd H3 q (.tup [.int (0 + (f : Int))])) C = some (.lst (rs.map V.ref)) := by rw [upd_ne nCq]; exact eC3
       refine ⟨rs.map V.ref, eC4, szf, rs ++ [q], _, rfl, ?_, by rw [upd_same, List.map_append]; rfl, ?_⟩
       ·exact s4.kbn hC KB.write
       ·rw [List.range_succ, List.map_append]
        refine paired_append (t4.keep (KTu.lst eC4)) (.cons (KTu.lst eC4 _ _ ?_) .nil)
        rw [upd_same]
        simp
      ·have nCr : C ≠ r := ne_of_none (by rw [upd_ne nCq]; exact eC3) hr
       have eC4 : (upd (upd H3 q (.tup [.int (0 + (f : Int))])) r (.tup (l.map V.int ++ [.int (0 + (f : Int))]))) C = some (.lst (rs.map V.ref)) := by rw [upd_ne nCr, upd_ne nCq]; exact eC3
       refine ⟨rs.map V.ref, eC4, szf, rs ++ [r], _, rfl, ?_, by rw [upd_same, List.map_append]; rfl, ?_⟩
       ·exact (s4.trans (Same.new hr)).kbn hC KB.write
       ·rw [List.range_succ, List.map_append]
        refine paired_append ((t4.keep (Same.new hr).kt).keep (KTu.lst eC4)) (.cons (KTu.lst eC4 _ _ ?_) .nil)
        rw [upd_same]
        simp
     ·rintro σ H3 ⟨rs, v, rfl, s3, eC3, t3⟩
      have lrs : rs.length = b := by rw [Paired.length t3]; simp
      have lqs : qs.length ≤ 1024 := by
       rw [Paired.length u2, flat_len, List.length_take]
       have := Nat.mul_le_mul (show min j (lets b i).length ≤ 256 by rw [lets_len]; omega) hb
       omega
      have eE3 := s3 _ _ eE2
      refine ⟨E, C, qs.map V.ref, rs.map V.ref, rfl, rfl, eE3, eC3, ?_, ?_⟩
      ·rw [List.length_map, List.length_map, lrs]; exact Nat.le_trans (show qs.length + b ≤ 2000 by omega) (by decide)
      ·have kt := KTu.lst (o := .lst (qs.map V.ref ++ rs.map V.ref)) eE3
       refine ⟨qs ++ rs, _, rfl, (s2.trans s3).kbn hE0 KB.write, ?_, (t2.keep s3.kt).keep kt, ?_, ?_⟩
       ·rw [upd_ne nDE]; exact s3 _ _ eD2
       ·rw [upd_same, List.map_append]
       ·have e1 : (lets b i).take (j + 1) = (lets b i).take j ++ [l] := by rw [List.take_add_one, el]; rfl
        rw [e1, List.flatMap_append]
        refine paired_append ((u2.keep s3.kt).keep kt) ?_
        rw [List.flatMap_singleton]
        have := t3.keep kt
        rwa [show ((b : Nat) : Int).toNat = b from Int.toNat_natCast b] at this
   ·rintro σ H2 ⟨qs, v5, rfl, s2, eD2, t2, eE2, u2⟩
    refine ⟨_, rfl, E, qs, _, _, _, rfl, hE0, s2, eE2, ?_⟩
    have e1 : (lets b i).take (ps.map V.ref).length = lets b i := by rw [List.length_map, Paired.length t2]; exact List.take_length ..
    rw [e1] at u2
    exact u2
  ·rintro σ H1 ⟨D, ps, v3, v4, v5, rfl, hD, s1, eD, t1⟩
   exact ⟨_, rfl, k D ps H1 hD s1 eD (by rwa [Int.toNat_natCast] at t1)⟩
inductive spLGrownI {α : Type} (R : DictRep α) (many : Nat) (on : α → Nat → α) (Ok : α → Prop) (Ev : Hp → Prop) (f1 : Addr) (vs : List V) (H : Hp) (Q : VK) (E_3 : XK) : Prop where
 | mk (x0 : α) (v0 : V) (most bd : Nat) (h0_ : vs = [v0, .int many, .ref f1, .int most]) (h1_ : R.Rep x0 v0 H) (h2_ : Ok x0) (h3_ : Ev H) (h4_ : (∀ l : List α, l.Nodup → (∀ x ∈ l, ∃ w, Word many w ∧ x = runA on x0 w) → l.length ≤ bd)) (h5_ : bd ≤ most) (h6_ : bd ≤ 10000) (h7_ : many ≤ 1000) (h8_ : ∀ (xs : List α) (mv : List (List Nat)) (vs : List V) (p Rr va : Addr) (ps : List Addr) (H' : Hp), Same H H' → mv.length = xs.length → Grown x0 on many xs mv → H' p = some (.tup [.ref Rr, .ref va]) → H' Rr = some (.lst vs) → Reps R H' vs xs → H' va = some (.tup (ps.map V.ref)) → Tups H' ps (mv.map castI) → Q (.ref p) H')
def spLGrown {α : Type} (R : DictRep α) (many : Nat) (on : α → Nat → α) (Ok : α → Prop) (Ev : Hp → Prop) (f1 : Addr) : Sp := fun vs H Q E_3 => spLGrownI R many on Ok Ev f1 vs H Q E_3
theorem sc_l_grown : FnScope ["_law_first", "_law_many", "_law_onward", "_law_most", "_law_came", "_law_numbers_here", "_law_moves", "_law_found", "_law_k", "_law_room"] ["_law_first", "_law_many", "_law_onward", "_law_most"] (defScope s_l_grown) := ⟨rfl, rfl, rfl, by decide +kernel, rfl, by decide +kernel, by decide +kernel⟩
set_option maxHeartbeats 16000000 in
theorem ok_l_grown {a : Adr} (T : Txt K mg a) {α : Type} (R : DictRep α) {many : Nat} {on : α → Nat → α} {Ok : α → Prop} {Ev : Hp → Prop} {f1 : Addr} {k : Nat}
  (F1 : FnAt P w K mg base k f1 2 (spOn R many on Ok Ev)) (okS : ∀ x a, Ok x → a < many → Ok (on x a)) (evS : ∀ H H', Ev H → Same H H' → Ev H') :
  FnOk P w K mg base CX0 (k + 1) a.f_l_grown a.fd_l_grown ["_law_first", "_law_many", "_law_onward", "_law_most"] (spLGrown R many on Ok Ev f1) := by
 obtain ⟨o1, fd1, ps1, ho1, hf1, hl1, hb1, G1⟩ := F1
 refine T.F_l_grown.ok sc_l_grown (fun vs H Q E h => ?_) (fun cdv Ar outer sh H vs Q E hr h => ?_)
 ·obtain ⟨x0, v0, most, bd, rfl, _⟩ := h
  rfl
 ·obtain ⟨x0, v0, most, bd, rfl, r0, k0, ev0, hbd, hbm, hb1', hmany, q⟩ := h
  refine ⟨_, (pss_cons (ps_set (i := 4) sc_l_grown.nd rfl (Or.inl rfl) (pe_lst (pa_cons (pv 0) pa_nil)))
  (pss_cons (ps_set (i := 5) sc_l_grown.nd rfl (Or.inl rfl) (R.disp (hu_of hr) (pv 0) pe_int))
  (pss_cons (ps_set (i := 6) sc_l_grown.nd rfl (Or.inl rfl) (pe_lst pa_nil))
  (pss_cons (ps_while PassesOwn.never (pt_cmpR op_lt (pe_callB (call_lenK K) (by rfl) T.z_len bt_len (pa_cons (pv 6) pa_nil)) (pe_callB (call_lenK K) (by rfl) T.z_len bt_len (pa_cons (pv 4) pa_nil)) (nomark _))
   (pss_cons (ps_set (i := 7) sc_l_grown.nd rfl (Or.inl rfl) (pe_lst pa_nil))
   (pss_cons (ps_for PassesOwn.never rfl (pi_range1 rfl T.z_range (pa_cons (pv 1) pa_nil)) (pg_name (i := 8) sc_l_grown.nd rfl (Or.inl rfl))
    (pss_cons (ps_set (i := 9) sc_l_grown.nd rfl (Or.inl rfl) (pe_callV (i := 2) G1 ho1 hf1 hr hb1 rfl (Or.inl rfl) (pa_cons (pe_ix (ix_listK K) (pv 4) (pe_callB (call_lenK K) (by rfl) T.z_len bt_len (pa_cons (pv 6) pa_nil)) (fun _ _ => rfl)) (pa_cons (pv 8) pa_nil))))
    (pss_cons (ps_if (pt_cmp (pc_dnotin (hu_of hr) (pv 9) (pv 5)) (by with_unfolding_all rfl))
     (pss_cons (ps_dput (hu_of hr) (pv 5) (pv 9) (pe_callB (call_lenK K) (by rfl) T.z_len bt_len (pa_cons (pv 4) pa_nil)) rfl)
     (pss_one (ps_expr (pe_bm PySem.F.plainAttrs_list PySem.F.slot_list_append PySem.F.type_list_append mt_append (pv 4) (pa_cons (pv 9) pa_nil)))))
     pss_nil)
    (pss_one (ps_expr (pe_bm PySem.F.plainAttrs_list PySem.F.slot_list_append PySem.F.type_list_append mt_append (pv 7) (pa_cons (pe_dget (hu_of hr) (pv 5) (pv 9) (fun _ _ => rfl)) pa_nil)))))))
   (pss_cons (ps_expr (pe_bm PySem.F.plainAttrs_list PySem.F.slot_list_append PySem.F.type_list_append mt_append (pv 6) (pa_cons (pe_callTy (call_tupleK K) (by rfl) T.z_tuple bt_tuple (pa_cons (pv 7) pa_nil)) pa_nil)))
   (pss_one (ps_if (pt_cmpR op_gt (pe_callB (call_lenK K) (by rfl) T.z_len bt_len (pa_cons (pv 4) pa_nil)) (pv 3) (nomark _))
    (pss_one (ps_ret pe_non))
    pss_nil))))))
  (pss_one (ps_ret (pe_tup (pa_cons (pv 4) (pa_cons (pe_callTy (call_tupleK K) (by rfl) T.z_tuple bt_tuple (pa_cons (pv 6) pa_nil)) pa_nil))))))))), ?_⟩
  have big : (100000 : Nat) ≤ sizeLine := by decide
  have okRun : ∀ (w : List Nat) (x : α), Ok x → Word many w → Ok (runA on x w) := by
   intro w
   induction w with
   | nil => intro x hx _; exact hx
   | cons c w ih => intro x hx hw; exact ih _ (okS x c hx (hw c List.mem_cons_self)) fun z hz => hw z (List.mem_cons_of_mem _ hz)
  refine hideS fun Y hY => ?_
  refine ⟨_, rfl, by show 1 ≤ sizeLine; omega, fun Rr hR => ?_⟩
  have sR := Same.new (o := .lst [v0]) hR
  dsimp only [gName]
  subst hY
  refine hideS fun Y hY => ?_
  refine ⟨x0, v0, rfl, R.same r0 sR.kt, fun D H2 hD s2 num => ?_⟩
  have eR2 : H2 Rr = some (.lst [v0]) := s2 _ _ upd_same
  have hD0 : H D = none := sR.free hD
  have DR : Rr ≠ D := ne_of_none (show (upd H Rr (.lst [v0])) Rr = some (.lst [v0]) from upd_same) hD
  dsimp only [gName]
  subst hY
  refine hideS fun Y hY => ?_
  refine ⟨by show 0 ≤ sizeLine; omega, fun M hM => ?_⟩
  have sM := Same.new (o := .lst []) hM
  have hM0 : H M = none := sR.free (s2.free hM)
  have MR : M ≠ Rr := (ne_of_none eR2 hM).symm
  obtain ⟨oD, eoD, _, _⟩ := R.isD num
  have MD : M ≠ D := (ne_of_none eoD hM).symm
  have sH3 := (sR.trans s2).trans sM
  dsimp only [gName]
  subst hY
  refine hideS fun Y hY => ?_
  refine whileMN (fun m σ H' => ∃ (xs : List α) (mv : List (List Nat)) (vs : List V) (ps : List Addr) (v7 v8 v9 : Option V), m = bd + 1 - mv.length ∧ σ = [some v0, some (.int (many : Nat)), some (.ref f1), some (.int (most : Nat)), some (.ref Rr), some (.ref D), some (.ref M), v7, v8, v9] ∧ Same H H' ∧
    H' Rr = some (.lst vs) ∧ Reps R H' vs xs ∧ R.Num H' D xs ∧ H' M = some (.lst (ps.map V.ref)) ∧ Tups H' ps (mv.map castI) ∧ Grown x0 on many xs mv ∧ mv.length ≤ xs.length)
   ⟨_, [x0], [], [v0], [], none, none, none, rfl, rfl, sH3, sM _ _ eR2, .cons (R.same r0 sH3.kt) .nil, R.keep num (upd_ne MD.symm), upd_same, .nil, Grown.begin, by simp⟩ ?_ ?_
  ·rintro m σ H4 N hN ⟨xs, mv, vs, ps, v7, v8, v9, rfl, rfl, s4, eR, rp, nm, eM, tp, g, hl⟩
   have lx := hbd xs g.once g.reach
   have lvs : vs.length = xs.length := Paired.length rp
   have lps : ps.length = mv.length := by rw [Paired.length tp, List.length_map]
   refine ⟨_, rfl, _, ps.length, rfl, .inl ⟨_, .of eM, by rw [List.length_map]⟩, _, rfl, _, vs.length, rfl, .inl ⟨_, .of eR, rfl⟩, _, _, rfl, rfl, _, rfl, ?_⟩
   by_cases hlt : mv.length < xs.length
   ·rw [show decide (((ps.length : Nat) : Int) < ((vs.length : Nat) : Int)) = true from decide_eq_true (by omega)]
    refine iteT ?_
    refine hideS fun Y2 hY2 => ?_
    obtain ⟨x, ex⟩ : ∃ x, xs[mv.length]? = some x := ⟨_, List.getElem?_eq_getElem hlt⟩
    have rchx := g.reach x (List.mem_of_getElem? ex)
    have okx : Ok x := by obtain ⟨w, hw, ew⟩ := rchx; rw [ew]; exact okRun w x0 k0 hw
    refine ⟨by show 0 ≤ sizeLine; omega, fun L hL => ?_⟩
    have sL := Same.new (o := .lst []) hL
    have hL0 : H L = none := s4.free hL
    have LR : L ≠ Rr := (ne_of_none eR hL).symm
    have LM : L ≠ M := (ne_of_none eM hL).symm
    obtain ⟨oD4, eoD4, _, _⟩ := R.isD nm
    have LD : L ≠ D := (ne_of_none eoD4 hL).symm
    dsimp only [gName]
    subst hY2
    refine hideS fun Y2 hY2 => ?_
    refine ⟨_, rfl, _, rfl, by omega, by omega, for_rangeN (n := (many : Int).toNat) (fun j σ H' => ∃ (ys : List α) (us : List V) (leads : List Nat) (v8 v9 : Option V), σ = [some v0, some (.int (many : Nat)), some (.ref f1), some (.int (most : Nat)), some (.ref Rr), some (.ref D), some (.ref M), some (.ref L), v8, v9] ∧ Same H H' ∧ KTu H4 H' ∧
      H' Rr = some (.lst us) ∧ Reps R H' us ys ∧ R.Num H' D ys ∧ H' M = some (.lst (ps.map V.ref)) ∧ H' L = some (.lst ((castI leads).map V.int)) ∧ leads.length = j ∧ GRow x0 on many xs x leads ys)
     ⟨xs, vs, [], v8, v9, rfl, s4.trans sL, sL.kt, sL _ _ eR, rp.keep sL.kt, R.keep nm (upd_ne LD.symm), sL _ _ eM, upd_same, rfl, GRow.start g⟩ ?_ ?_⟩
    ·rintro j σ H5 N2 hN2 hj ⟨ys, us, leads, v8, v9, rfl, s5, kt5, eR5, rp5, nm5, eM5, eL5, ll, gr⟩
     have ej : (0 : Int) + (j : Int) = ((j : Nat) : Int) := by omega
     rw [ej]
     have hjm : j < many := by omega
     have ly := hbd ys gr.once gr.reach
     have lus : us.length = ys.length := Paired.length rp5
     obtain ⟨more, emore⟩ := gr.pre
     obtain ⟨vx, hvx, rx⟩ := rp5.at (show ys[mv.length]? = some x by rw [emore]; exact get_app ex)
     dsimp only [gName]
     refine hideS fun Y3 hY3 => ?_
     refine ⟨rfl, _, rfl, _, rfl, _, ps.length, rfl, .inl ⟨_, .of eM5, by rw [List.length_map]⟩, Rr, _, _, vx, rfl, rfl, .of eR5, atI_nat (by rw [lps]; exact hvx), _, rfl, x, vx, j, rfl, rx, okx, hjm, evS _ _ ev0 s5, fun to H6 s6 rto => ?_⟩
     have eR6 := s6 _ _ eR5
     have eM6 := s6 _ _ eM5
     have eL6 := s6 _ _ eL5
     have rp6 := rp5.keep s6.kt
     obtain ⟨oD5, eoD5, nD1, nD2⟩ := R.isD nm5
     have nm6 := R.keep nm5 ((s6 _ _ eoD5).trans eoD5.symm)
     have eoD6 := s6 _ _ eoD5
     have kt6 : KTu H4 H6 := fun b l z => s6 _ _ (kt5 _ _ z)
     have sH6 := s5.trans s6
     dsimp only [gName]
     subst hY3
     refine seq_restN (t := tIfS _ _ _) (u := tDrop _) (fun σ H' => ∃ (zs : List α) (ws : List V) (t : Nat), σ = [some v0, some (.int (many : Nat)), some (.ref f1), some (.int (most : Nat)), some (.ref Rr), some (.ref D), some (.ref M), some (.ref L), some (.int (j : Nat)), some to] ∧ Same H H' ∧ KTu H6 H' ∧
      H' Rr = some (.lst ws) ∧ Reps R H' ws zs ∧ R.Num H' D zs ∧ H' M = some (.lst (ps.map V.ref)) ∧ H' L = some (.lst ((castI leads).map V.int)) ∧ zs[t]? = some (on x j) ∧ GRow x0 on many xs x (leads ++ [t]) zs) ?re2 (fun Y3 rest2 => ?_)
     case re2 =>
      rintro σ H7 ⟨zs, ws, t, rfl, s7, kt7, eR7, rp7, nm7, eM7, eL7, hz, gr7⟩
      refine ⟨_, rfl, Or.inl ⟨rfl, _, .of eL7⟩, _, rfl, _, rfl, D, _, rfl, R.there nm7 (R.same rto kt7) gr7.once hz, L, _, _, rfl, rfl, eL7, by rw [List.length_map, castI_len]; omega, ?_⟩
      have kL : KTu H7 (upd H7 L (.lst ((castI leads).map V.int ++ [.int (t : Nat)]))) := ktu_upd eL7 (fun l z => nomatch z)
      refine hN2 _ _ ⟨zs, ws, leads ++ [t], _, _, rfl, s7.kbn hL0 KB.write, fun b l z => kL _ _ (kt7 _ _ (kt6 _ _ z)), by rw [upd_ne LR.symm]; exact eR7, rp7.keep kL, R.keep nm7 (upd_ne LD.symm), by rw [upd_ne LM.symm]; exact eM7, ?_, by rw [List.length_append, ll]; rfl, gr7⟩
      rw [upd_same, castI_app, List.map_append]; rfl
     by_cases hm : on x j ∈ ys
     ·obtain ⟨i, hi⟩ := List.getElem?_of_mem hm
      refine ⟨_, rfl, _, rfl, D, _, rfl, R.there nm6 rto gr.once hi, _, rfl, ?_⟩
      refine iteF ?_
      exact rest2 _ _ ⟨ys, us, i, rfl, sH6, fun _ _ z => z, eR6, rp6, nm6, eM6, eL6, hi, gr.old (by rw [ll]; exact hi)⟩
     ·refine ⟨_, rfl, _, rfl, D, _, rfl, R.miss nm6 rto hm, _, rfl, ?_⟩
      refine iteT ?_
      obtain ⟨H7, hput, kb7, nm7⟩ := R.put nm6 rto hm (by omega)
      have gr' := gr.new (by omega) rchx (by rw [ll]; exact hm)
      rw [ll] at gr'
      have eR7 := kb7 _ _ eR6 DR
      refine ⟨_, rfl, _, us.length, rfl, .inl ⟨_, .of eR6, rfl⟩, _, rfl, _, rfl, D, H7, rfl, by rw [lus]; exact hput, ?_⟩
      refine ⟨_, rfl, Or.inl ⟨rfl, _, .of eR7⟩, _, rfl, Rr, _, _, rfl, rfl, eR7, by omega, ?_⟩
      have kt7 : KTu H6 H7 := ktu_kb eoD6 nD2 kb7
      have kR : KTu H7 (upd H7 Rr (.lst (us ++ [to]))) := ktu_upd eR7 (fun l z => nomatch z)
      have kt8 : KTu H6 (upd H7 Rr (.lst (us ++ [to]))) := fun b l z => kR _ _ (kt7 _ _ z)
      refine rest2 _ _ ⟨ys ++ [on x j], us ++ [to], ys.length, rfl, (sH6.kbn hD0 kb7).kbn hR KB.write, kt8, upd_same, ?_, R.keep nm7 (upd_ne DR.symm), by rw [upd_ne MR]; exact kb7 _ _ eM6 MD, by rw [upd_ne LR]; exact kb7 _ _ eL6 LD, by rw [List.getElem?_append_right (Nat.le_refl _), Nat.sub_self]; rfl, gr'⟩
      exact paired_snoc (rp6.keep kt8) (R.same rto kt8)
    ·rintro σ H5 ⟨ys, us, leads, v8, v9, rfl, s5, kt5, eR5, rp5, nm5, eM5, eL5, ll, gr⟩
     subst hY2
     dsimp only
     refine hideS fun Y2 hY2 => ?_
     have ll2 : leads.length = many := by rw [ll]; omega
     have g2 := g.next ex gr ll2
     have ly := hbd ys gr.once gr.reach
     obtain ⟨more, emore⟩ := gr.pre
     have lxy : xs.length ≤ ys.length := by rw [emore, List.length_append]; omega
     have lus : us.length = ys.length := Paired.length rp5
     refine ⟨_, rfl, Or.inl ⟨rfl, _, .of eM5⟩, _, rfl, L, _, rfl, .inl ⟨.of eL5, fun t ht => ?_⟩⟩
     have sT := Same.new (o := .tup ((castI leads).map V.int)) ht
     have nMt : M ≠ t := ne_of_none eM5 ht
     have nRt : Rr ≠ t := ne_of_none eR5 ht
     obtain ⟨oD5, eoD5, nD1, nD2⟩ := R.isD nm5
     have nDt : D ≠ t := ne_of_none eoD5 ht
     have eM6 := sT _ _ eM5
     refine ⟨M, _, _, rfl, rfl, eM6, by rw [List.length_map]; omega, ?_⟩
     have kM : KTu (upd H5 t (.tup ((castI leads).map V.int))) (upd (upd H5 t (.tup ((castI leads).map V.int))) M (.lst (ps.map V.ref ++ [.ref t]))) := ktu_upd eM6 (fun l z => nomatch z)
     have kA : KTu H5 (upd (upd H5 t (.tup ((castI leads).map V.int))) M (.lst (ps.map V.ref ++ [.ref t]))) := fun b l z => kM _ _ (sT.kt _ _ z)
     have eR7 : (upd (upd H5 t (.tup ((castI leads).map V.int))) M (.lst (ps.map V.ref ++ [.ref t]))) Rr = some (.lst us) := by rw [upd_ne MR.symm]; exact sT _ _ eR5
     subst hY2
     dsimp only
     refine ⟨_, rfl, _, us.length, rfl, .inl ⟨_, .of eR7, rfl⟩, _, rfl, _, _, rfl, rfl, _, rfl, ?_⟩
     rw [show decide ((most : Int) < ((us.length : Nat) : Int)) = false from decide_eq_false (by omega)]
     refine iteF ?_
     refine hN _ _ _ ?_ ⟨ys, mv ++ [leads], us, ps ++ [t], _, _, _, rfl, rfl, (s5.trans sT).kbn hM0 KB.write, eR7, rp5.keep kA, R.keep nm5 (by rw [upd_ne MD.symm, upd_ne nDt]), by rw [upd_same, List.map_append]; rfl, ?_, g2, by rw [List.length_append]; simp; omega⟩
     ·rw [List.length_append]; simp; omega
     ·rw [List.map_append]
      exact paired_snoc ((tp.keep kt5).keep kA) (by rw [upd_ne nMt.symm, upd_same])
   ·have e : mv.length = xs.length := by omega
    rw [show decide (((ps.length : Nat) : Int) < ((vs.length : Nat) : Int)) = false from decide_eq_false (by omega)]
    refine iteF ?_
    subst hY
    dsimp only
    refine ⟨_, rfl, _, rfl, M, _, rfl, .inl ⟨.of eM, fun Va hVa => ⟨by show 2 ≤ sizeLine; omega, fun p hp => ?_⟩⟩⟩
    have sV := Same.new (o := .tup (ps.map V.ref)) hVa
    have sP := Same.new (o := .tup [.ref Rr, .ref Va]) hp
    have sAll := sV.trans sP
    exact q xs mv vs p Rr Va ps _ (s4.trans sAll) e g upd_same (sAll _ _ eR) (rp.keep sAll.kt) (sP _ _ upd_same) (tp.keep sAll.kt)
  ·rintro σ H Q Q' h ⟨v, e1, v2, n1, e2, l1, v3, e3, v4, n2, e4, l2, i, j, e5, e6, k, e7, z⟩
   exact ⟨v, e1, v2, n1, e2, l1, v3, e3, v4, n2, e4, l2, i, j, e5, e6, k, e7, h _ _ z⟩
def idx : List Str → Str → Nat
 | [], _ => 0
 | s :: ss, t => if s = t then 0 else idx ss t + 1
theorem idx_at : ∀ {ss : List Str} {t : Str}, t ∈ ss → ss[idx ss t]? = some t ∧ idx ss t < ss.length ∧ ∀ i, i < idx ss t → ss[i]? ≠ some t
 | [], _, h => by cases h
 | s :: ss, t, h => by
  unfold idx
  by_cases e : s = t
  ·rw [if_pos e]
   exact ⟨by rw [e]; rfl, by rw [List.length_cons]; omega, fun i hi => absurd hi (Nat.not_lt_zero _)⟩
  ·rw [if_neg e]
   obtain ⟨h1, h2, h3⟩ := idx_at (ss := ss) ((List.mem_cons.mp h).resolve_left fun z => e z.symm)
   refine ⟨h1, by rw [List.length_cons]; omega, fun i hi z => ?_⟩
   cases i with
   | zero => exact e (Option.some.inj z)
   | succ i => exact h3 i (by omega) z
def pk (b m : Nat) (sp : List Nat) (L : Nat) : Nat := lst b 0 (sp.map fun s => (fl b m L).getD s 0)
theorem lst_app (b acc : Nat) (ds : List Nat) (d : Nat) : lst b acc (ds ++ [d]) = lst b acc ds * b + d := by simp [lst, List.foldl_append]
theorem pk_lt {b m : Nat} (hb : 0 < b) (sp : List Nat) (L : Nat) : pk b m sp L < b ^ sp.length := by
 have := lst_lt (b := b) (sp.map fun s => (fl b m L).getD s 0) 0 0 (fun d hd => by
  obtain ⟨s, _, rfl⟩ := List.mem_map.mp hd
  by_cases h : s < (fl b m L).length
  ·exact fl_lt hb m L _ (List.mem_of_getElem? (item_at 0 h))
  ·rw [List.getD_eq_getElem?_getD, List.getElem?_eq_none (by omega)]; exact hb) (by rw [Nat.pow_zero]; decide)
 rw [List.length_map, Nat.zero_add] at this
 exact this
def ownL (b : Nat) (ss ts : List Str) : List Nat := (List.range (b ^ ss.length)).map (pk b ss.length (ts.map (idx ss)))
theorem ownL_len (b : Nat) (ss ts : List Str) : (ownL b ss ts).length = b ^ ss.length := by rw [ownL, List.length_map, List.length_range]
theorem ownL_at (b : Nat) (ss ts : List Str) {L : Nat} (h : L < b ^ ss.length) : (ownL b ss ts).getD L 0 = pk b ss.length (ts.map (idx ss)) L := by
 rw [ownL, List.getD_eq_getElem?_getD, List.getElem?_map, List.getElem?_range h]; rfl
inductive spOwnI (vs : List V) (H : Hp) (Q : VK) (E_3 : XK) : Prop where
 | mk (b : Nat) (na oa : Addr) (ss ts : List Str) (h0_ : vs = [.int b, .ref na, .ref oa]) (h1_ : 0 < b) (h2_ : b ≤ 4) (h3_ : ss.length ≤ 4) (h4_ : H na = some (.tup (ss.map V.str))) (h5_ : H oa = some (.tup (ts.map V.str))) (h6_ : ts.length ≤ 8) (h7_ : (∀ t ∈ ts, t ∈ ss)) (h8_ : ∀ (D : Addr) (H' : Hp), H D = none → Same H H' → H' D = some (.lst ((castI (ownL b ss ts)).map V.int)) → Q (.ref D) H')
def spOwn : Sp := fun vs H Q E_3 => spOwnI vs H Q E_3
theorem strItem {rs : List Str} {i : Nat} {x : V} (h : (rs.map V.str)[i]? = some x) : ∃ r, x = .str r ∧ rs[i]? = some r := by
 rw [List.getElem?_map] at h
 cases e : rs[i]? with
 | none => rw [e] at h; cases h
 | some r => rw [e] at h; exact ⟨r, (Option.some.inj h).symm, rfl⟩
theorem sc_own_letters : FnScope ["base", "names", "own", "spots", "numbers", "letter", "number", "spot"] ["base", "names", "own"] (defScope s_own_letters) := ⟨rfl, rfl, rfl, by decide +kernel, rfl, by decide +kernel, by decide +kernel⟩
theorem ok_own_letters {a : Adr} (T : Txt K mg a) : FnOk P w K mg base CX0 2 a.f_own_letters a.fd_own_letters ["base", "names", "own"] spOwn := by
 have G_all_letters := ok_all_letters (P := P) (w := w) (base := base) T
 refine T.F_own_letters.ok sc_own_letters (fun vs H Q E h => ?_) (fun cdv A outer s H vs Q E hr h => ?_)
 ·obtain ⟨b, na, oa, ss, ts, rfl, _⟩ := h
  rfl
 ·obtain ⟨b, na, oa, ss, ts, rfl, hb0, hb4, hs4, en, eo, lt8, hsub, k⟩ := h
  have hr_all_letters : Room 1 _ := hr
  refine ⟨_, (pss_cons (ps_setComp (i := 3) (CompScope.mk' (esc := defScope s_own_letters) (N := ["base", "names", "own", "spots", "numbers", "letter", "number", "spot"]) (own := ["name"]) (frn := ["names"]) (frj := [1]) rfl rfl (by decide +kernel)) rfl (pi_tup (pv 2)) (fun _ _ _ _ => (pg_name (i := 0) (show List.Nodup (["name", "names"] : List Str) by decide +kernel) rfl (Or.inl rfl))) (fun _ _ _ _ => pifs_nil) (fun _ _ _ _ => (pe_bmT PySem.F.plainAttrs_tuple PySem.F.slot_tuple_index PySem.F.type_tuple_index (mt_tindex K) (pv 1) (pa_cons (pv 0) pa_nil))) sc_own_letters.nd rfl rfl)
  (pss_cons (ps_set (i := 4) sc_own_letters.nd rfl (Or.inl rfl) (pe_lst pa_nil))
  (pss_cons (ps_for PassesOwn.never rfl (pi_list (pe_call G_all_letters hr_all_letters rfl T.m_all_letters T.k_all_letters T.b_all_letters .nil pass0 (pa_cons (pv 0) (pa_cons (pe_callB (call_lenK K) (by rfl) T.z_len bt_len (pa_cons (pv 1) pa_nil)) pa_nil)))) (pg_name (i := 5) sc_own_letters.nd rfl (Or.inl rfl))
   (pss_cons (ps_set (i := 6) sc_own_letters.nd rfl (Or.inl rfl) pe_int)
   (pss_cons (ps_for PassesOwn.never rfl (pi_list (pv 3)) (pg_name (i := 7) sc_own_letters.nd rfl (Or.inl rfl))
    (pss_one (ps_set (i := 6) sc_own_letters.nd rfl (Or.inl rfl) (pe_op op_add (pe_op op_mul (pv 6) (pv 0)) (pe_ix (ix_tupK K) (pv 5) (pv 7) (fun _ _ => rfl))))))
   (pss_one (ps_expr (pe_bm PySem.F.plainAttrs_list PySem.F.slot_list_append PySem.F.type_list_append mt_append (pv 4) (pa_cons (pv 6) pa_nil)))))))
  (pss_one (ps_ret (pv 4)))))), ?_⟩
  have big : (10000 : Nat) ≤ sizeLine := by decide
  have hB : b ^ ss.length ≤ 256 := small_pow hb4 hs4
  refine hideS fun Y hY => ?_
  refine ⟨_, rfl, oa, rfl, ⟨_, .of eo⟩, fun C hC => ?_⟩
  refine comp_tup (xs := ts.map V.str) (fun j σ H' => ∃ v : Option V, σ = [v, some (.ref na)] ∧ Same H H' ∧ H' C = some (.lst ((castI ((ts.take j).map (idx ss))).map V.int)))
   ⟨none, ?sg, Same.new hC, upd_same⟩ (by rintro j σ H' _ ⟨_, _, s, _⟩; exact .of (s _ _ eo)) ?_ ?_
  case sg => rfl
  ·rintro j x σ H' hx ⟨v, rfl, s', c'⟩
   obtain ⟨t, rfl, et⟩ := strItem hx
   have hj := (List.getElem?_eq_some_iff.mp et).1
   obtain ⟨i1, i2, i3⟩ := idx_at (hsub t (List.mem_of_getElem? et))
   refine ⟨_, rfl, ⟨na, _, rfl, s' _ _ en⟩, _, rfl, na, ss, t, idx ss t, rfl, rfl, .of (s' _ _ en), i1, i3, _, c', ?_, _, rfl, s'.kbn hC KB.write, ?_⟩
   ·rw [List.length_map, castI_len, List.length_map, List.length_take]; omega
   ·rw [upd_same, take_snoc et, List.map_append, castI_app, List.map_append]; rfl
  rintro σ H1 ⟨v, rfl, s1, c1⟩
  rw [List.length_map, List.take_length] at c1
  dsimp only [gName]
  subst hY
  refine hideS fun Y hY => ?_
  refine ⟨by decide, fun N hN => ?_⟩
  have sN := Same.new (o := .lst []) hN
  have hN0 : H N = none := s1.free hN
  have nCN : C ≠ N := ne_of_none c1 hN
  dsimp only [gName]
  subst hY
  refine hideS fun Y hY => ?_
  have s2 := s1.trans sN
  refine ⟨_, rfl, _, rfl, _, ss.length, rfl, .inr ⟨_, .of (s2 _ _ en), by rw [List.length_map]⟩, b, ss.length, rfl, hb4, hs4, fun Da pa H3 hDa s3 e3 t3 => ?_⟩
  have lpa : pa.length = b ^ ss.length := by rw [Paired.length t3, lets_len]
  have nDN : Da ≠ N := fun y => by rw [y] at hDa; rw [upd_same] at hDa; cases hDa
  refine ⟨Da, rfl, ⟨_, .of e3⟩, for_listN (xs := pa.map V.ref) (fun i σ H' => ∃ (v5 v6 v7 : Option V), σ = [some (.int (b : Nat)), some (.ref na), some (.ref oa), some (.ref C), some (.ref N), v5, v6, v7] ∧ Same H H' ∧ KTu H3 H' ∧ H' Da = some (.lst (pa.map V.ref)) ∧ H' C = some (.lst ((castI (ts.map (idx ss))).map V.int)) ∧ H' N = some (.lst ((castI ((List.range i).map (pk b ss.length (ts.map (idx ss))))).map V.int)))
   ⟨none, none, none, rfl, s2.trans s3, (Same.refl _).kt, e3, s3 _ _ (sN _ _ c1), s3 _ _ upd_same⟩ (by rintro i σ H' _ ⟨_, _, _, _, _, _, e, _⟩; exact .of e) ?_ ?_⟩
  ·rintro i x σ H4 M1 hM1 hx ⟨v5, v6, v7, rfl, s4, t4, e4, c4, n4⟩
   obtain ⟨p, rfl, ep⟩ := refItem hx
   have hi : i < b ^ ss.length := by rw [← lpa]; exact (List.getElem?_eq_some_iff.mp ep).1
   obtain ⟨l', hl', el⟩ := t3.get ep
   rw [lets_at hb0 _ _ hi] at hl'
   have := Option.some.inj hl'
   subst this
   have el4 := t4 _ _ el
   dsimp only [gName]
   refine hideS fun Y2 hY2 => ?_
   dsimp only [tAsg, tC, gName]
   subst hY2
   refine hideS fun Y2 hY2 => ?_
   refine ⟨_, rfl, C, rfl, ⟨_, .of c4⟩, for_listN (xs := (castI (ts.map (idx ss))).map V.int) (fun j σ H' => ∃ v7 : Option V, σ = [some (.int (b : Nat)), some (.ref na), some (.ref oa), some (.ref C), some (.ref N), some (.ref p), some (.int (lst b 0 (((ts.map (idx ss)).take j).map fun s => (fl b ss.length i).getD s 0) : Nat)), v7] ∧ H' = H4)
    ⟨v7, rfl, rfl⟩ (fun j σ H' _ ⟨_, _, e⟩ => e ▸ .of c4) ?_ ?_⟩
   ·rintro j y σ H5 M2 hM2 hy ⟨v7, rfl, rfl⟩
    obtain ⟨sp, rfl, es⟩ := natItem hy
    have hsp : sp < ss.length := by
     obtain ⟨t, ht, rfl⟩ := List.mem_map.mp (List.mem_of_getElem? es)
     exact (idx_at (hsub t ht)).2.1
    refine ⟨_, rfl, _, rfl, _, _, rfl, rfl, .inr (by constructor <;> omega), _, rfl, _, rfl, p, _, _, .int ((fl b ss.length i).getD sp 0 : Nat), rfl, rfl, .of el4, atI_nat (castI_item (by rw [fl_len]; exact hsp)), _, _, rfl, rfl, hM2 _ _ ⟨some (.int (sp : Nat)), ?_, rfl⟩⟩
    rw [take_snoc es, List.map_append, List.map_cons, List.map_nil, lst_app, Int.natCast_add, Int.natCast_mul]
    rfl
   ·rintro σ H5 ⟨v7, rfl, rfl⟩
    rw [List.length_map, castI_len, List.take_length]
    subst hY2
    refine ⟨_, rfl, .inl ⟨rfl, _, .of n4⟩, _, rfl, N, _, _, rfl, rfl, n4, ?_, hM1 _ _ ⟨_, _, _, rfl, s4.kbn hN0 KB.write, t4.trans (KTu.lst n4), by rw [upd_ne nDN]; exact e4, by rw [upd_ne nCN]; exact c4, ?_⟩⟩
    ·rw [List.length_map, castI_len, List.length_map, List.length_range]; omega
    ·rw [upd_same, List.range_succ, List.map_append, castI_app, List.map_append]; rfl
  ·rintro σ H4 ⟨v5, v6, v7, rfl, s4, t4, e4, c4, n4⟩
   rw [List.length_map, lpa] at n4
   subst hY
   exact ⟨_, rfl, k N H4 hN0 s4 n4⟩
def ownF (ss ts : List Str) : List Str := ss.filter fun s => decide (s ∈ ts)
theorem ownF_in {l ts : List Str} {t : Str} (h : t ∈ ts) : ownF (l ++ [t]) ts = ownF l ts ++ [t] := by rw [ownF, List.filter_append, List.filter_cons, if_pos (decide_eq_true h), List.filter_nil]; rfl
theorem ownF_out {l ts : List Str} {t : Str} (h : t ∉ ts) : ownF (l ++ [t]) ts = ownF l ts := by rw [ownF, List.filter_append, List.filter_cons, if_neg (by rw [decide_eq_false h]; decide), List.filter_nil, List.append_nil]; rfl
inductive spNumsI (vs : List V) (H : Hp) (Q : VK) (E_3 : XK) : Prop where
 | mk (b : Nat) (na oa : Addr) (ss ts : List Str) (h0_ : vs = [.int b, .ref na, .ref oa]) (h1_ : 0 < b) (h2_ : b ≤ 4) (h3_ : ss.length ≤ 4) (h4_ : ss.Nodup) (h5_ : H na = some (.tup (ss.map V.str))) (h6_ : H oa = some (.tup (ts.map V.str))) (h7_ : ∀ (D : Addr) (H' : Hp), H D = none → Same H H' → H' D = some (.lst ((castI (ownL b ss (ownF ss ts))).map V.int)) → Q (.ref D) H')
def spNums : Sp := fun vs H Q E_3 => spNumsI vs H Q E_3
theorem strflat (l : List Str) : (l.map V.str).all flatV = true := by rw [List.all_map]; exact List.all_eq_true.mpr fun _ _ => rfl
theorem idx_of {ss : List Str} (nd : ss.Nodup) {j : Nat} {t : Str} (h : ss[j]? = some t) : idx ss t = j := by
 obtain ⟨h1, h2, h3⟩ := idx_at (List.mem_of_getElem? h)
 by_cases z : j < idx ss t
 ·exact absurd h (h3 j z)
 ·obtain ⟨hj, e⟩ := List.getElem?_eq_some_iff.mp h
  obtain ⟨_, e'⟩ := List.getElem?_eq_some_iff.mp h1
  have q := List.pairwise_iff_getElem.mp nd
  rcases Nat.lt_trichotomy (idx ss t) j with z' | z' | z'
  ·exact absurd (e'.trans e.symm) (q _ _ h2 hj z')
  ·exact z'
  ·exact absurd z' z
theorem sc_l_numbers : FnScope ["_law_base", "_law_names_here", "_law_own", "_law_found", "_law_letter", "_law_number", "_law_name", "_law_figure"] ["_law_base", "_law_names_here", "_law_own"] (defScope s_l_numbers) := ⟨rfl, rfl, rfl, by decide +kernel, rfl, by decide +kernel, by decide +kernel⟩
theorem ok_l_numbers {a : Adr} (T : Txt K mg a) : FnOk P w K mg base CX0 2 a.f_l_numbers a.fd_l_numbers ["_law_base", "_law_names_here", "_law_own"] spNums := by
 have G_l_letters := ok_l_letters (P := P) (w := w) (base := base) T
 refine T.F_l_numbers.ok sc_l_numbers (fun vs H Q E h => ?_) (fun cdv A outer s H vs Q E hr h => ?_)
 ·obtain ⟨b, na, oa, ss, ts, rfl, _⟩ := h
  rfl
 ·obtain ⟨b, na, oa, ss, ts, rfl, hb0, hb4, hs4, nd, en, eo, k⟩ := h
  have hr_l_letters : Room 1 _ := hr
  refine ⟨_, (pss_cons (ps_set (i := 3) sc_l_numbers.nd rfl (Or.inl rfl) (pe_lst pa_nil))
  (pss_cons (ps_for PassesOwn.never rfl (pi_list (pe_call G_l_letters hr_l_letters rfl T.m_l_letters T.k_l_letters T.b_l_letters .nil pass0 (pa_cons (pv 0) (pa_cons (pe_callB (call_lenK K) (by rfl) T.z_len bt_len (pa_cons (pv 1) pa_nil)) pa_nil)))) (pg_name (i := 4) sc_l_numbers.nd rfl (Or.inl rfl))
   (pss_cons (ps_set (i := 5) sc_l_numbers.nd rfl (Or.inl rfl) pe_int)
   (pss_cons (ps_for PassesOwn.never rfl (pi_zipP rfl T.z_zip (pa_cons (pv 1) (pa_cons (pv 4) pa_nil))) (pg_tup rfl (pgs_cons (pg_name (i := 6) sc_l_numbers.nd rfl (Or.inl rfl)) (pgs_cons (pg_name (i := 7) sc_l_numbers.nd rfl (Or.inl rfl)) pgs_nil)))
    (pss_one (ps_if (pt_cmpR (op_inK K) (pv 6) (pv 2) (by with_unfolding_all rfl))
     (pss_one (ps_set (i := 5) sc_l_numbers.nd rfl (Or.inl rfl) (pe_op op_add (pe_op op_mul (pv 5) (pv 0)) (pv 7))))
     pss_nil)))
   (pss_one (ps_expr (pe_bm PySem.F.plainAttrs_list PySem.F.slot_list_append PySem.F.type_list_append mt_append (pv 3) (pa_cons (pv 5) pa_nil)))))))
  (pss_one (ps_ret (pv 3))))), ?_⟩
  have big : (10000 : Nat) ≤ sizeLine := by decide
  have hB : b ^ ss.length ≤ 256 := small_pow hb4 hs4
  refine hideS fun Y hY => ?_
  refine ⟨by decide, fun N hN => ?_⟩
  have sN := Same.new (o := .lst []) hN
  dsimp only [gName]
  subst hY
  refine hideS fun Y hY => ?_
  refine ⟨_, rfl, _, rfl, _, ss.length, rfl, .inr ⟨_, .of (sN _ _ en), by rw [List.length_map]⟩, b, ss.length, rfl, hb4, hs4, fun Da pa H3 hDa s3 e3 t3 => ?_⟩
  have lpa : pa.length = b ^ ss.length := by rw [Paired.length t3, lets_len]
  have nDN : Da ≠ N := fun y => by rw [y] at hDa; rw [upd_same] at hDa; cases hDa
  refine ⟨Da, rfl, ⟨_, .of e3⟩, for_listN (xs := pa.map V.ref) (fun i σ H' => ∃ (v4 v5 v6 v7 : Option V), σ = [some (.int (b : Nat)), some (.ref na), some (.ref oa), some (.ref N), v4, v5, v6, v7] ∧ Same H H' ∧ KTu H3 H' ∧ H' Da = some (.lst (pa.map V.ref)) ∧ H' N = some (.lst ((castI ((List.range i).map (pk b ss.length ((ownF ss ts).map (idx ss))))).map V.int)))
   ⟨none, none, none, none, rfl, sN.trans s3, (Same.refl _).kt, e3, s3 _ _ upd_same⟩ (by rintro i σ H' _ ⟨_, _, _, _, _, _, _, e, _⟩; exact .of e) ?_ ?_⟩
  ·rintro i x σ H4 M1 hM1 hx ⟨v4, v5, v6, v7, rfl, s4, t4, e4, n4⟩
   obtain ⟨p, rfl, ep⟩ := refItem hx
   have hi : i < b ^ ss.length := by rw [← lpa]; exact (List.getElem?_eq_some_iff.mp ep).1
   obtain ⟨l', hl', el⟩ := t3.get ep
   rw [lets_at hb0 _ _ hi] at hl'
   have := Option.some.inj hl'
   subst this
   have el4 := t4 _ _ el
   dsimp only [gName]
   refine hideS fun Y2 hY2 => ?_
   dsimp only [tAsg, tC, gName]
   subst hY2
   refine hideS fun Y2 hY2 => ?_
   refine ⟨_, rfl, _, rfl, na, p, rfl, ⟨_, .of (s4 _ _ en)⟩, ⟨_, .of el4⟩, ?_⟩
   refine for_zipN (xs := ss.map V.str) (ys := (castI (fl b ss.length i)).map V.int) (fun j σ H' => ∃ v6 v7 : Option V, σ = [some (.int (b : Nat)), some (.ref na), some (.ref oa), some (.ref N), some (.ref p), some (.int (lst b 0 ((ownF (ss.take j) ts).map fun s => (fl b ss.length i).getD (idx ss s) 0) : Nat)), v6, v7] ∧ Same H4 H') (by rw [List.length_map, List.length_map, castI_len, fl_len])
    ⟨v6, v7, rfl, Same.refl _⟩ (by rintro j σ H' _ ⟨_, _, _, s5⟩; exact ⟨.of (s5 _ _ (s4 _ _ en)), .of (s5 _ _ el4)⟩) ?_ ?_
   ·rintro j x y r σ H5 hx hy ⟨v6, v7, rfl, s5⟩ hr'
    obtain ⟨t, rfl, et⟩ := strItem hx
    obtain ⟨d, rfl, ed⟩ := natItem hy
    have sp := Same.new (o := .tup [V.str t, V.int (d : Nat)]) hr'
    have s6 := s5.trans sp
    have ix := idx_of nd et
    have ed' : (fl b ss.length i).getD (idx ss t) 0 = d := by rw [ix, List.getD_eq_getElem?_getD, ed]; rfl
    refine ⟨r, _, rfl, .of upd_same, rfl, _, _, rfl, _, _, rfl, rfl, ?_⟩
    dsimp only [gName]
    refine ⟨_, rfl, _, rfl, oa, _, rfl, .inr (.of (s6 _ _ (s4 _ _ eo))), rfl, strflat _, _, rfl, ?_⟩
    rw [if_neg Bool.false_ne_true, inV_strs]
    by_cases hm : t ∈ ts
    ·rw [decide_eq_true hm]
     refine iteT ?_
     refine ⟨_, rfl, _, rfl, _, _, rfl, rfl, .inr (by constructor <;> omega), _, rfl, _, _, rfl, rfl, ?_⟩
     refine ⟨some (.str t), some (.int (d : Nat)), ?_, s6⟩
     rw [take_snoc et, ownF_in hm, List.map_append, List.map_cons, List.map_nil, lst_app, Int.natCast_add, Int.natCast_mul, ed']
     rfl
    ·rw [decide_eq_false hm]
     refine iteF ?_
     refine ⟨some (.str t), some (.int (d : Nat)), ?_, s6⟩
     rw [take_snoc et, ownF_out hm]
     rfl
   ·rintro σ H5 ⟨v6, v7, rfl, s5⟩
    rw [List.length_map, List.take_length]
    subst hY2
    have n5 := s5 _ _ n4
    refine ⟨_, rfl, .inl ⟨rfl, _, .of n5⟩, _, rfl, N, _, _, rfl, rfl, n5, ?_, hM1 _ _ ⟨_, _, _, _, rfl, (s4.trans s5).kbn hN KB.write, (t4.trans s5.kt).trans (KTu.lst n5), by rw [upd_ne nDN]; exact s5 _ _ e4, ?_⟩⟩
    ·rw [List.length_map, castI_len, List.length_map, List.length_range]; omega
    ·rw [upd_same, List.range_succ, List.map_append, castI_app, List.map_append]
     show _ = some (HO.lst (_ ++ [V.int (pk b ss.length ((ownF ss ts).map (idx ss)) i : Nat)]))
     rw [pk, List.map_map]
     rfl
  ·rintro σ H4 ⟨v4, v5, v6, v7, rfl, s4, t4, e4, n4⟩
   rw [List.length_map, lpa] at n4
   subst hY
   exact ⟨_, rfl, k N H4 hN s4 n4⟩
section
variable {X : Cx}
def rCatA (K : PySem.W.Frag) : R2 := fun x y H Q => ∃ (a b : Addr) (xs ys : List V), x = .ref a ∧ y = .ref b ∧ H a = some (.tup xs) ∧ H b = some (.tup ys) ∧ xs.length + ys.length ≤ sizeLine ∧ ∀ u H', Same H H' → H' u = some (.tup (xs ++ ys)) → Q (.ref u) H'
theorem op_catA (K : PySem.W.Frag) (hK : X.K = K := by rfl) : OpR X (binaryOp .Add) (rCatA K) := by
 subst hK
 intro pins s σ H x y v u Q I rx ry h
 obtain ⟨a, b, xs, ys, rfl, rfl, ha, hb, hz, q⟩ := h
 by_cases hx : xs = []
 ·subst hx
  exact op_cat0 pins s σ H _ _ v u Q I rx ry ⟨a, b, ys, rfl, rfl, .of ha, .of hb, q b H (.refl _) hb⟩
 ·exact op_catT pins s σ H _ _ v u Q I rx ry ⟨a, b, xs, ys, rfl, rfl, .of ha, .of hb, hx, hz, fun z => q a H (.refl _) (by rw [z, List.append_nil]; exact ha), fun _ p hp => q p _ (Same.new hp) upd_same⟩
end
inductive spNoI (vs : List V) (H : Hp) (Q : VK) (E_3 : XK) : Prop where
 | mk (ma nm : Addr) (bs : List Bool) (mv : List (List Nat)) (h0_ : vs = [.ref ma]) (h1_ : MachAt H ma nm bs mv) (h2_ : bs.length ≤ 5000) (h3_ : ∀ (p : Addr) (H' : Hp), Same H H' → MachAt H' p nm (bs.map (!·)) mv → Q (.ref p) H')
def spNo : Sp := fun vs H Q E_3 => spNoI vs H Q E_3
theorem sc_turned_no : FnScope ["machine"] ["machine"] (defScope s_turned_no) := ⟨rfl, rfl, rfl, by decide +kernel, rfl, by decide +kernel, by decide +kernel⟩
theorem ok_turned_no {a : Adr} (T : Txt K mg a) : FnOk P w K mg base CX0 1 a.f_turned_no a.fd_turned_no ["machine"] spNo := by
 refine T.F_turned_no.ok sc_turned_no (fun vs H Q E h => ?_) (fun cdv A outer s H vs Q E hr h => ?_)
 ·obtain ⟨ma, nm, bs, mv, rfl, _⟩ := h
  rfl
 ·obtain ⟨ma, nm, bs, mv, rfl, ⟨ya, va, ps, e1, e2, e3, tp⟩, hn, k⟩ := h
  refine ⟨_, (pss_one (ps_ret (pe_tup (pa_cons (pe_ix (ix_tupK K) (pv 0) pe_int (fun _ _ => rfl)) (pa_cons (pe_callTy (call_tupleK K) (by rfl) T.z_tuple bt_tuple (pa_cons (pe_comp (CompScope.mk' (esc := defScope s_turned_no) (N := ["machine"]) (own := ["yes"]) (frn := []) (frj := []) rfl rfl (by decide +kernel)) rfl (pi_tup (pe_ix (ix_tupK K) (pv 0) pe_int (fun _ _ => rfl))) (fun _ _ _ _ => (pg_name (i := 0) (show List.Nodup (["yes"] : List Str) by decide +kernel) rfl (Or.inl rfl))) (fun _ _ _ _ => pifs_nil) (fun _ _ _ _ => (pe_not (pv 0)))) pa_nil)) (pa_cons (pe_ix (ix_tupK K) (pv 0) pe_int (fun _ _ => rfl)) pa_nil)))))), ?_⟩
  have big : (10000 : Nat) ≤ sizeLine := by decide
  refine ⟨_, rfl, ma, _, _, .ref nm, rfl, rfl, .of e1, atI_nat (j := 0) rfl, _, rfl, ma, _, _, .ref ya, rfl, rfl, .of e1, atI_nat (j := 1) rfl, ya, rfl, ⟨_, .of e2⟩, fun C hC => ?_⟩
  refine comp_tup (xs := bs.map V.bl) (fun i σ H' => ∃ v : Option V, σ = [v] ∧ Same H H' ∧ H' C = some (.lst (((bs.take i).map (!·)).map V.bl)))
   ⟨none, ?sg, Same.new hC, upd_same⟩ (by rintro i σ H' _ ⟨_, _, s, _⟩; exact .of (s _ _ e2)) ?_ ?_
  case sg => rfl
  ·rintro i x σ H' hx ⟨v, rfl, s', c'⟩
   obtain ⟨t, rfl, et⟩ := boolItem hx
   have hi := (List.getElem?_eq_some_iff.mp et).1
   refine ⟨_, rfl, _, rfl, _, c', ?_, _, rfl, s'.kbn hC KB.write, ?_⟩
   ·rw [List.length_map, List.length_map, List.length_take]; omega
   ·rw [upd_same, take_snoc et, List.map_append, List.map_append]; rfl
  rintro σ H1 ⟨v, rfl, s1, c1⟩
  rw [List.length_map, List.take_length] at c1
  refine ⟨C, _, rfl, .inl ⟨.of c1, fun Y hY => ?_⟩⟩
  have sY := Same.new (o := .tup ((bs.map (!·)).map V.bl)) hY
  have s2 := s1.trans sY
  refine ⟨_, rfl, ma, _, _, .ref va, rfl, rfl, .of (s2 _ _ e1), atI_nat (j := 2) rfl, by show 3 ≤ sizeLine; decide, fun p hp => ?_⟩
  have sp := Same.new (o := .tup [.ref nm, .ref Y, .ref va]) hp
  exact k p _ (s2.trans sp) ⟨Y, va, ps, upd_same, sp _ _ upd_same, (s2.trans sp) _ _ e3, tp.keep (s2.trans sp).kt⟩
inductive spBothNI (vs : List V) (H : Hp) (Q : VK) (E_3 : XK) : Prop where
 | mk (m1 m2 n1 n2 y1 y2 v1 v2 : Addr) (ss ts : List Str) (h0_ : vs = [.ref m1, .ref m2]) (h1_ : H m1 = some (.tup [.ref n1, .ref y1, .ref v1])) (h2_ : H m2 = some (.tup [.ref n2, .ref y2, .ref v2])) (h3_ : H n1 = some (.tup (ss.map V.str))) (h4_ : H n2 = some (.tup (ts.map V.str))) (h5_ : ss.length ≤ 4) (h6_ : ts.length ≤ 4) (h7_ : ∀ (N : Addr) (us : List Str) (H' : Hp), Same H H' → H' N = some (.tup (us.map V.str)) → us.Nodup → (∀ y, y ∈ us ↔ y ∈ ss ∨ y ∈ ts) → PyProof.Rows.sortedS us = true → Q (.ref N) H')
def spBothN : Sp := fun vs H Q E_3 => spBothNI vs H Q E_3
theorem sc_names_of_both : FnScope ["one", "other"] ["one", "other"] (defScope s_names_of_both) := ⟨rfl, rfl, rfl, by decide +kernel, rfl, by decide +kernel, by decide +kernel⟩
theorem ok_names_of_both {a : Adr} (T : Txt K mg a) : FnOk P w K mg base CX0 1 a.f_names_of_both a.fd_names_of_both ["one", "other"] spBothN := by
 refine T.F_names_of_both.ok sc_names_of_both (fun vs H Q E h => ?_) (fun cdv A outer s H vs Q E hr h => ?_)
 ·obtain ⟨m1, m2, n1, n2, y1, y2, v1, v2, ss, ts, rfl, _⟩ := h
  rfl
 ·obtain ⟨m1, m2, n1, n2, y1, y2, v1, v2, ss, ts, rfl, e1, e2, en1, en2, ls, lt, k⟩ := h
  refine ⟨_, (pss_one (ps_ret (pe_callTy (call_tupleK K) (by rfl) T.z_tuple bt_tuple (pa_cons (pe_callB (call_sortSet rfl) (by rfl) T.z_sorted bt_sorted (pa_cons (pe_callTy (call_setTT rfl) (by rfl) T.z_set bt_set (pa_cons (pe_op (op_catA K) (pe_ix (ix_tupK K) (pv 0) pe_int (fun _ _ => rfl)) (pe_ix (ix_tupK K) (pv 1) pe_int (fun _ _ => rfl))) pa_nil)) pa_nil)) pa_nil)))), ?_⟩
  have big : (10000 : Nat) ≤ sizeLine := by decide
  have bigS : (100 : Nat) < scanBound := by decide
  refine ⟨_, rfl, m1, _, _, .ref n1, rfl, rfl, .of e1, atI_nat (j := 0) rfl, _, rfl, m2, _, _, .ref n2, rfl, rfl, .of e2, atI_nat (j := 0) rfl, n1, n2, ss.map V.str, ts.map V.str, rfl, rfl, en1, en2, by rw [List.length_map, List.length_map]; omega, fun p Hp sp ep => ?_⟩
  rw [← List.map_append] at ep
  refine ⟨p, ss ++ ts, rfl, .of ep, by rw [List.length_append]; omega, fun S ks hS nd mem lk => ?_⟩
  have sS := Same.new (o := SetO P w S ks) hS
  refine ⟨S, ks, rfl, upd_same, by rw [List.length_append] at lk; omega, fun L us hL perm srt => ?_⟩
  have sL := Same.new (o := .lst (us.map V.str)) hL
  refine ⟨L, _, rfl, .inl ⟨.of upd_same, fun N hN => ?_⟩⟩
  have sN := Same.new (o := .tup (us.map V.str)) hN
  exact k N us _ (((sp.trans sS).trans sL).trans sN) upd_same (perm.nodup_iff.mpr nd) (fun y => by rw [perm.mem_iff, mem, List.mem_append]) srt
def onB (mv1 mv2 : List (List Nat)) (LL RR : List Nat) (x : List Nat) (l : Nat) : List Nat := [stp mv1 (x.getD 0 0) (LL.getD l 0), stp mv2 (x.getD 1 0) (RR.getD l 0)]
def OkB (n1 n2 : Nat) (x : List Nat) : Prop := ∃ i j, x = [i, j] ∧ i < n1 ∧ j < n2
structure EvB (m1 y1 v1 m2 y2 v2 : Addr) (ps1 ps2 : List Addr) (n1 n2 : Addr) (bs1 bs2 : List Bool) (mv1 mv2 : List (List Nat)) (lf rt : Addr) (LL RR : List Nat) (H : Hp) : Prop where
 a1 : H m1 = some (.tup [.ref n1, .ref y1, .ref v1])
 a2 : H y1 = some (.tup (bs1.map V.bl))
 a3 : H v1 = some (.tup (ps1.map V.ref))
 a4 : Tups H ps1 (mv1.map castI)
 b1 : H m2 = some (.tup [.ref n2, .ref y2, .ref v2])
 b2 : H y2 = some (.tup (bs2.map V.bl))
 b3 : H v2 = some (.tup (ps2.map V.ref))
 b4 : Tups H ps2 (mv2.map castI)
 l : H lf = some (.lst ((castI LL).map V.int))
 r : H rt = some (.lst ((castI RR).map V.int))
section
variable {m1 y1 v1 m2 y2 v2 : Addr} {ps1 ps2 : List Addr} {n1 n2 : Addr} {bs1 bs2 : List Bool} {mv1 mv2 : List (List Nat)} {lf rt : Addr} {LL RR : List Nat} {H H' : Hp}
theorem EvB.keep (e : EvB m1 y1 v1 m2 y2 v2 ps1 ps2 n1 n2 bs1 bs2 mv1 mv2 lf rt LL RR H) (k : KTu H H') (kl : ∀ b xs, H b = some (.lst xs) → b = lf ∨ b = rt → H' b = some (.lst xs)) : EvB m1 y1 v1 m2 y2 v2 ps1 ps2 n1 n2 bs1 bs2 mv1 mv2 lf rt LL RR H' :=
 ⟨k _ _ e.a1, k _ _ e.a2, k _ _ e.a3, e.a4.keep k, k _ _ e.b1, k _ _ e.b2, k _ _ e.b3, e.b4.keep k, kl _ _ e.l (.inl rfl), kl _ _ e.r (.inr rfl)⟩
theorem EvB.same (e : EvB m1 y1 v1 m2 y2 v2 ps1 ps2 n1 n2 bs1 bs2 mv1 mv2 lf rt LL RR H) (s : Same H H') : EvB m1 y1 v1 m2 y2 v2 ps1 ps2 n1 n2 bs1 bs2 mv1 mv2 lf rt LL RR H' := e.keep s.kt fun b xs h _ => s _ _ h
theorem EvB.untr {D : List Addr} (hD : ∀ a ∈ D, ∃ φ, H a = some (.ext φ)) (e : EvB m1 y1 v1 m2 y2 v2 ps1 ps2 n1 n2 bs1 bs2 mv1 mv2 lf rt LL RR H) : EvB m1 y1 v1 m2 y2 v2 ps1 ps2 n1 n2 bs1 bs2 mv1 mv2 lf rt LL RR (L2.untr D H) :=
 e.keep (fun b xs z => untr_get hD z (fun _ y => nomatch y)) fun b xs h _ => untr_get hD h (fun _ y => nomatch y)
end
structure Two (b : Nat) (n1 n2 : Addr) (ss ts : List Str) (bs1 bs2 : List Bool) (mv1 mv2 : List (List Nat)) (H : Hp) : Prop where
 hb : 2 ≤ b
 hb4 : b ≤ 4
 e1 : H n1 = some (.tup (ss.map V.str))
 e2 : H n2 = some (.tup (ts.map V.str))
 sl : ss.length ≤ 2
 tl : ts.length ≤ 2
 m1 : Moves bs1.length (b ^ ss.length) mv1
 m2 : Moves bs2.length (b ^ ts.length) mv2
theorem Two.keep {b : Nat} {n1 n2 : Addr} {ss ts : List Str} {bs1 bs2 : List Bool} {mv1 mv2 : List (List Nat)} {H H' : Hp} (t : Two b n1 n2 ss ts bs1 bs2 mv1 mv2 H) (k : KTu H H') : Two b n1 n2 ss ts bs1 bs2 mv1 mv2 H' := ⟨t.hb, t.hb4, k _ _ t.e1, k _ _ t.e2, t.sl, t.tl, t.m1, t.m2⟩
def Lpo : List (Pos × Str) := [(⟨53, 11, 53, 97⟩, (("pairs_onward" : Str) ++ ".<locals>.") ++ "<lambda>")]
def Lbg : List (Pos × Str) := [(⟨55, 52, 55, 102⟩, (("both_growth" : Str) ++ ".<locals>.") ++ "<lambda>")]
def Leg : List (Pos × Str) := [(⟨57, 52, 57, 101⟩, (("either_growth" : Str) ++ ".<locals>.") ++ "<lambda>")]
theorem union_len {ss ts us : List Str} (nd : us.Nodup) (h : ∀ y, y ∈ us ↔ y ∈ ss ∨ y ∈ ts) : us.length ≤ ss.length + ts.length := by
 rw [← List.length_append]
 exact List.Nodup.length_le_of_subset nd fun y hy => List.mem_append.mpr ((h y).mp hy)
inductive spPairsOnI (P : Program) (w : World) (K : PySem.W.Frag) (mg : Str → Option Value) (base : Heap) (Tb : Addr) (vs : List V) (H : Hp) (Q : VK) (E_3 : XK) : Prop where
 | mk (b : Nat) (m1 m2 n1 n2 y1 y2 v1 v2 : Addr) (ps1 ps2 : List Addr) (ss ts : List Str) (bs1 bs2 : List Bool) (mv1 mv2 : List (List Nat)) (h0_ : vs = [.int b, .ref m1, .ref m2]) (h1_ : Two b n1 n2 ss ts bs1 bs2 mv1 mv2 H) (h2_ : H m1 = some (.tup [.ref n1, .ref y1, .ref v1])) (h3_ : H y1 = some (.tup (bs1.map V.bl))) (h4_ : H v1 = some (.tup (ps1.map V.ref))) (h5_ : Tups H ps1 (mv1.map castI)) (h6_ : H m2 = some (.tup [.ref n2, .ref y2, .ref v2])) (h7_ : H y2 = some (.tup (bs2.map V.bl))) (h8_ : H v2 = some (.tup (ps2.map V.ref))) (h9_ : Tups H ps2 (mv2.map castI)) (h10_ : Tab H Tb Lpo) (h11_ : ∀ (f lf rt : Addr) (D : List Addr) (us : List Str) (H' : Hp), KB Tb H H' → Tab H' Tb Lpo → (∀ a ∈ D, ∃ φ, H' a = some (.ext φ)) → us.Nodup → (∀ y, y ∈ us ↔ y ∈ ss ∨ y ∈ ts) → PyProof.Rows.sortedS us = true → EvB m1 y1 v1 m2 y2 v2 ps1 ps2 n1 n2 bs1 bs2 mv1 mv2 lf rt (ownL b us ss) (ownL b us ts) H' → FnIn P w K mg base H' D 1 f 2 (spOn repT (b ^ us.length) (onB mv1 mv2 (ownL b us ss) (ownL b us ts)) (OkB bs1.length bs2.length) (EvB m1 y1 v1 m2 y2 v2 ps1 ps2 n1 n2 bs1 bs2 mv1 mv2 lf rt (ownL b us ss) (ownL b us ts))) → Q (.ref f) H')
def spPairsOn (P : Program) (w : World) (K : PySem.W.Frag) (mg : Str → Option Value) (base : Heap) (Tb : Addr) : Sp := fun vs H Q E_3 => spPairsOnI P w K mg base Tb vs H Q E_3
theorem sc_pairs_onward : FnScope ["base", "one", "other", "names", "left", "right"] ["base", "one", "other"] (defScope s_pairs_onward) := ⟨rfl, rfl, rfl, by decide +kernel, rfl, by decide +kernel, by decide +kernel⟩
set_option maxHeartbeats 16000000 in
theorem ok_pairs_onward {a : Adr} (T : Txt K mg a) (hB : BltAt mg base) : FnOk P w K mg base CX0 3 a.f_pairs_onward a.fd_pairs_onward ["base", "one", "other"] (spPairsOn P w K mg base a.t_pairs_onward) := by
 have G_names_of_both := ok_names_of_both (P := P) (w := w) (base := base) T
 have G_own_letters := ok_own_letters (P := P) (w := w) (base := base) T
 refine T.F_pairs_onward.okR sc_pairs_onward (fun vs H Q E h => ?_) (fun Ar outer sh H vs Q E inj hr h => ?_)
 ·obtain ⟨b, m1, m2, n1, n2, y1, y2, v1, v2, ps1, ps2, ss, ts, bs1, bs2, mv1, mv2, rfl, _⟩ := h
  rfl
 ·obtain ⟨b, m1, m2, n1, n2, y1, y2, v1, v2, ps1, ps2, ss, ts, bs1, bs2, mv1, mv2, rfl, tw, a1, a2, a3, a4, b1, b2, b3, b4, tab, q⟩ := h
  have hr_names_of_both : Room 1 _ := hr.mono (by decide)
  have hr_own_letters : Room 2 _ := hr
  refine ⟨_, pb_cons (ps_set (i := 3) sc_pairs_onward.nd rfl (Or.inl rfl) (pe_call G_names_of_both hr_names_of_both rfl T.m_names_of_both T.k_names_of_both T.b_names_of_both .nil pass0 (pa_cons (pv 1) (pa_cons (pv 2) pa_nil))))
   (pb_cons (ps_set (i := 4) sc_pairs_onward.nd rfl (Or.inr rfl) (pe_call G_own_letters hr_own_letters rfl T.m_own_letters T.k_own_letters T.b_own_letters .nil pass0 (pa_cons (pv 0) (pa_cons (pv 3) (pa_cons (pe_ix (ix_tupK K) (pv 1) pe_int (fun _ _ => rfl)) pa_nil)))))
   (pb_cons (ps_set (i := 5) sc_pairs_onward.nd rfl (Or.inr rfl) (pe_call G_own_letters hr_own_letters rfl T.m_own_letters T.k_own_letters T.b_own_letters .nil pass0 (pa_cons (pv 0) (pa_cons (pv 3) (pa_cons (pe_ix (ix_tupK K) (pv 2) pe_int (fun _ _ => rfl)) pa_nil)))))
   (pb_ret (pe_lamK (T := a.t_pairs_onward) (L := Lpo) rfl T.h_pairs_onward hB rfl rfl (List.mem_cons_self) (apart1 _) rfl)))), ?_⟩
  have big : (10000 : Nat) ≤ sizeLine := by decide
  have l1 := tw.sl
  have l2 := tw.tl
  refine ⟨_, rfl, _, rfl, m1, m2, n1, n2, y1, y2, v1, v2, ss, ts, rfl, a1, b1, tw.e1, tw.e2, by omega, by omega, fun N us H1 s1 eN nd mem srt => ?_⟩
  have lu := union_len nd mem
  dsimp only [gName]
  refine ⟨_, rfl, _, rfl, _, rfl, m1, _, _, .ref n1, rfl, rfl, .of (s1 _ _ a1), atI_nat (j := 0) rfl, b, N, n1, us, ss, rfl, by have := tw.hb; omega, tw.hb4, by omega, eN, s1 _ _ tw.e1, by omega, fun t ht => (mem t).mpr (.inl ht), fun lf H2 hlf s2 elf => ?_⟩
  dsimp only [gName]
  have s12 := s1.trans s2
  refine ⟨_, rfl, _, rfl, _, rfl, m2, _, _, .ref n2, rfl, rfl, .of (s12 _ _ b1), atI_nat (j := 0) rfl, b, N, n2, us, ts, rfl, by have := tw.hb; omega, tw.hb4, by omega, s2 _ _ eN, s12 _ _ tw.e2, by omega, fun t ht => (mem t).mpr (.inr ht), fun rt H3 hrt s3 ert => ?_⟩
  have s13 := s12.trans s3
  have ev3 : EvB m1 y1 v1 m2 y2 v2 ps1 ps2 n1 n2 bs1 bs2 mv1 mv2 lf rt (ownL b us ss) (ownL b us ts) H3 := ⟨s13 _ _ a1, s13 _ _ a2, s13 _ _ a3, a4.keep s13.kt, s13 _ _ b1, s13 _ _ b2, s13 _ _ b3, b4.keep s13.kt, s3 _ _ elf, ert⟩
  dsimp only [gName]
  refine ⟨tab.same s13, fun f c' ctv H4 hf ef ec tab4 kb4 => ?_⟩
  obtain ⟨c1, h1⟩ : ∃ c, (PyProof.Rows.envOfC "pairs_onward" (defScope s_pairs_onward) sh.heap.objs.size a.f_pairs_onward (.ref a.c_pairs_onward)).cells.lookup ("one" : Str) = some c := cell_has rfl
  obtain ⟨c2, h2⟩ : ∃ c, (PyProof.Rows.envOfC "pairs_onward" (defScope s_pairs_onward) sh.heap.objs.size a.f_pairs_onward (.ref a.c_pairs_onward)).cells.lookup ("other" : Str) = some c := cell_has rfl
  obtain ⟨c3, h3⟩ : ∃ c, (PyProof.Rows.envOfC "pairs_onward" (defScope s_pairs_onward) sh.heap.objs.size a.f_pairs_onward (.ref a.c_pairs_onward)).cells.lookup ("left" : Str) = some c := cell_has rfl
  obtain ⟨c4, h4⟩ : ∃ c, (PyProof.Rows.envOfC "pairs_onward" (defScope s_pairs_onward) sh.heap.objs.size a.f_pairs_onward (.ref a.c_pairs_onward)).cells.lookup ("right" : Str) = some c := cell_has rfl
  let l : List (Nat × Str × Addr × V) := [(1, "one", c1, .ref m1), (2, "other", c2, .ref m2), (4, "left", c3, .ref lf), (5, "right", c4, .ref rt)]
  have C : Cap (cxOf CX0 P w K mg base ["base", "one", "other", "names", "left", "right"] "pairs_onward" (defScope s_pairs_onward) a.f_pairs_onward (.ref a.c_pairs_onward) Ar outer sh H E) [some (.int (b : Nat)), some (.ref m1), some (.ref m2), some (.ref N), some (.ref lf), some (.ref rt)] l :=
   ⟨List.forall_mem_cons.mpr ⟨⟨rfl, rfl, rfl, h1⟩, List.forall_mem_cons.mpr ⟨⟨rfl, rfl, rfl, h2⟩, List.forall_mem_cons.mpr ⟨⟨rfl, rfl, rfl, h3⟩, List.forall_mem_cons.mpr ⟨⟨rfl, rfl, rfl, h4⟩, fun _ h => nomatch h⟩⟩⟩⟩, show (["one", "other", "left", "right"] : List Str).Nodup by decide +kernel⟩
  refine ⟨capC l, C.cells, fun fr => ?_⟩
  have sm := addC_same fr
  have g1 := C.got inj H4 (q := (1, "one", c1, .ref m1)) (by simp [l])
  have g2 := C.got inj H4 (q := (2, "other", c2, .ref m2)) (by simp [l])
  have g3 := C.got inj H4 (q := (4, "left", c3, .ref lf)) (by simp [l])
  have g4 := C.got inj H4 (q := (5, "right", c4, .ref rt)) (by simp [l])
  have T3 : ∃ qs, H3 a.t_pairs_onward = some (.tbl qs) := let ⟨qs, z, _⟩ := tab.same s13; ⟨qs, z⟩
  have nT : ∀ {b : Addr} {o : HO}, H3 b = some o → (∀ qs, o ≠ .tbl qs) → b ≠ a.t_pairs_onward := fun e hn y => by obtain ⟨qs, z⟩ := T3; rw [y, z] at e; exact hn qs (Option.some.inj e).symm
  have kt5 : KTu H3 (addC (capC l) H4) := fun b xs z => sm _ _ (kb4 _ _ z (nT z (fun _ y => nomatch y)))
  have ev5 := ev3.keep kt5 fun b xs z _ => sm _ _ (kb4 _ _ z (nT z (fun _ y => nomatch y)))
  refine q f lf rt [f, c', c1, c2, c3, c4] us _ (fun b o e n => sm _ _ (kb4 _ _ (s13 _ _ e) n)) (tab4.same sm) (fun x hx => ?_) nd mem srt ev5 ?_
  ·simp only [List.mem_cons, List.not_mem_nil, or_false] at hx
   rcases hx with z | z | z | z | z | z <;> subst z
   ·exact ⟨_, sm _ _ ef⟩
   ·exact ⟨_, sm _ _ ec⟩
   ·exact ⟨_, g1⟩
   ·exact ⟨_, g2⟩
   ·exact ⟨_, g3⟩
   ·exact ⟨_, g4⟩
  ·refine FnIn.lam (sm _ _ ef) (by simp) (sm _ _ ec) (by simp) (ps := ["pair", "letter"]) (frn := ["left", "one", "other", "right"]) (fvs := [.ref lf, .ref m1, .ref m2, .ref rt]) (LamScope.mk' rfl rfl rfl (by decide +kernel) (by decide +kernel) (by decide +kernel) (by decide +kernel) (by decide +kernel)) inj (List.forall_mem_cons.mpr ⟨⟨rfl, List.mem_of_getElem? (i := 3) rfl⟩, List.forall_mem_cons.mpr ⟨⟨rfl, List.mem_of_getElem? (i := 2) rfl⟩, List.forall_mem_cons.mpr ⟨⟨rfl, List.mem_of_getElem? (i := 1) rfl⟩, List.forall_mem_cons.mpr ⟨⟨rfl, List.mem_of_getElem? (i := 0) rfl⟩, fun _ h => nomatch h⟩⟩⟩⟩)
    (.cons ⟨c3, rfl, h3, by simp, g3⟩ (.cons ⟨c1, rfl, h1, by simp, g1⟩ (.cons ⟨c2, rfl, h2, by simp, g2⟩ (.cons ⟨c4, rfl, h4, by simp, g4⟩ .nil)))) (fun us hl => match us, hl with | [_, _], _ => rfl) (fun vs H Q E h => ?_) (fun base' W A outer s H vs Q E hr h => ?_)
   ·obtain ⟨x, v, c, rfl, _⟩ := h
    rfl
   ·obtain ⟨x, v, c, rfl, ⟨pp, rfl, ep⟩, ⟨i, j, rfl, hi, hj⟩, hc, ev, kk⟩ := h
    have ep' : H pp = some (.tup [.int (i : Nat), .int (j : Nat)]) := ep
    have hb0 : 0 < b := by have := tw.hb; omega
    have hl1 : (ownL b us ss).getD c 0 < b ^ ss.length := by rw [ownL_at b us ss hc]; have := pk_lt (m := us.length) hb0 (ss.map (idx us)) c; rwa [List.length_map] at this
    have hl2 : (ownL b us ts).getD c 0 < b ^ ts.length := by rw [ownL_at b us ts hc]; have := pk_lt (m := us.length) hb0 (ts.map (idx us)) c; rwa [List.length_map] at this
    obtain ⟨r1, r2, r3⟩ := tw.m1.row ev.a4 hi
    obtain ⟨t1, t2, t3⟩ := tw.m2.row ev.b4 hj
    refine ⟨_, pe_tup (pa_cons (pe_ix (ix_tupK K) (pe_ix (ix_tupK K) (pe_ix (ix_tupK K) (pv 3) pe_int (fun _ _ => rfl)) (pe_ix (ix_tupK K) (pv 0) pe_int (fun _ _ => rfl)) (fun _ _ => rfl)) (pe_ix (ix_listK K) (pv 2) (pv 1) (fun _ _ => rfl)) (fun _ _ => rfl)) (pa_cons (pe_ix (ix_tupK K) (pe_ix (ix_tupK K) (pe_ix (ix_tupK K) (pv 4) pe_int (fun _ _ => rfl)) (pe_ix (ix_tupK K) (pv 0) pe_int (fun _ _ => rfl)) (fun _ _ => rfl)) (pe_ix (ix_listK K) (pv 5) (pv 1) (fun _ _ => rfl)) (fun _ _ => rfl)) pa_nil)), ?_⟩
    refine ⟨_, rfl, m1, _, _, .ref v1, rfl, rfl, .of ev.a1, atI_nat (j := 2) rfl, _, rfl, pp, _, _, .int (i : Nat), rfl, rfl, .of ep', atI_nat (j := 0) rfl, v1, _, _, .ref (ps1.getD i 0), rfl, rfl, .of ev.a3, atI_nat (by rw [List.getElem?_map, r1]; rfl), _, rfl, _, rfl, lf, _, _, .int ((ownL b us ss).getD c 0 : Nat), rfl, rfl, .of ev.l, atI_nat (castI_item (by rw [ownL_len]; exact hc)), ps1.getD i 0, _, _, .int (stp mv1 i ((ownL b us ss).getD c 0) : Nat), rfl, rfl, .of r2, atI_nat (castI_item (by rw [r3]; exact hl1)), ?_⟩
    refine ⟨_, rfl, m2, _, _, .ref v2, rfl, rfl, .of ev.b1, atI_nat (j := 2) rfl, _, rfl, pp, _, _, .int (j : Nat), rfl, rfl, .of ep', atI_nat (j := 1) rfl, v2, _, _, .ref (ps2.getD j 0), rfl, rfl, .of ev.b3, atI_nat (by rw [List.getElem?_map, t1]; rfl), _, rfl, _, rfl, rt, _, _, .int ((ownL b us ts).getD c 0 : Nat), rfl, rfl, .of ev.r, atI_nat (castI_item (by rw [ownL_len]; exact hc)), ps2.getD j 0, _, _, .int (stp mv2 j ((ownL b us ts).getD c 0) : Nat), rfl, rfl, .of t2, atI_nat (castI_item (by rw [t3]; exact hl2)), by show 2 ≤ sizeLine; omega, fun t ht => ?_⟩
    exact kk (.ref t) _ (Same.new ht) ⟨t, rfl, upd_same⟩
def Ldu : List (Pos × Str) := [(⟨165, 4, 166, 114⟩, (("_law_due" : Str) ++ ".<locals>.") ++ "_law_onward")]
structure TB (a : Adr) (H : Hp) : Prop where
 po : Tab H a.t_pairs_onward Lpo
 bg : Tab H a.t_both_growth Lbg
 eg : Tab H a.t_either_growth Leg
 du : Tab H a.t_l_due Ldu
def KX (a : Adr) (H H' : Hp) : Prop := ∀ b o, H b = some o → (∀ qs, o ≠ .tbl qs) → H' b = some o
theorem KX.refl {a : Adr} {H : Hp} : KX a H H := fun b o e _ => e
theorem KX.trans {a : Adr} {H H1 H2 : Hp} (x : KX a H H1) (y : KX a H1 H2) : KX a H H2 := fun b o e n => y b o (x b o e n) n
theorem KX.same {a : Adr} {H H' : Hp} (s : Same H H') : KX a H H' := fun b o e _ => s b o e
theorem KX.kt {a : Adr} {H H' : Hp} (x : KX a H H') : KTu H H' := fun b xs e => x b _ e fun _ z => nomatch z
theorem KX.kb {a : Adr} {H H' : Hp} {T : Addr} {L : List (Pos × Str)} (t : Tab H T L) (k : KB T H H') : KX a H H' := fun b o e n => k b o e fun z => by
 obtain ⟨qs, h, _⟩ := t
 rw [z, h] at e
 exact n qs (Option.some.inj e).symm
theorem _root_.L2.Tab.kbT {H H' : Hp} {T d : Addr} {L L' : List (Pos × Str)} (x : Tab H T L) (y : Tab H d L') (s : KB d H H') (hd : T ≠ d) : Tab H' T L := by
 obtain ⟨ps, h1, h2, h3⟩ := x
 obtain ⟨qs, g, _⟩ := y
 refine ⟨ps, s _ _ h1 hd, h2, fun p hp => ?_⟩
 rcases h3 p hp with z | ⟨c, z1, z2⟩
 ·exact .inl z
 ·exact .inr ⟨c, z1, s _ _ z2 fun e => by rw [e, g] at z2; cases z2⟩
theorem TB.same {a : Adr} {H H' : Hp} (t : TB a H) (s : Same H H') : TB a H' := ⟨t.po.same s, t.bg.same s, t.eg.same s, t.du.same s⟩
section
variable {K : PySem.W.Frag} {mg : Str → Option Value} {a : Adr} (T : Txt K mg a)
include T
theorem TB.kpo {H H' : Hp} (t : TB a H) (k : KB a.t_pairs_onward H H') (y : Tab H' a.t_pairs_onward Lpo) : TB a H' := ⟨y, t.bg.kbT t.po k T.tne01.symm, t.eg.kbT t.po k T.tne02.symm, t.du.kbT t.po k T.tne03.symm⟩
theorem TB.kbg {H H' : Hp} (t : TB a H) (k : KB a.t_both_growth H H') (y : Tab H' a.t_both_growth Lbg) : TB a H' := ⟨t.po.kbT t.bg k T.tne01, y, t.eg.kbT t.bg k T.tne12.symm, t.du.kbT t.bg k T.tne13.symm⟩
theorem TB.keg {H H' : Hp} (t : TB a H) (k : KB a.t_either_growth H H') (y : Tab H' a.t_either_growth Leg) : TB a H' := ⟨t.po.kbT t.eg k T.tne02, t.bg.kbT t.eg k T.tne12, y, t.du.kbT t.eg k T.tne23.symm⟩
theorem TB.kdu {H H' : Hp} (t : TB a H) (k : KB a.t_l_due H H') (y : Tab H' a.t_l_due Ldu) : TB a H' := ⟨t.po.kbT t.du k T.tne03, t.bg.kbT t.du k T.tne13, t.eg.kbT t.du k T.tne23, y⟩
end
def yesB (op : Bool → Bool → Bool) (bs1 bs2 : List Bool) (x : List Nat) : Bool := op (bs1.getD (x.getD 0 0) false) (bs2.getD (x.getD 1 0) false)
inductive spGrBI (op : Bool → Bool → Bool) (P : Program) (w : World) (K : PySem.W.Frag) (mg : Str → Option Value) (base : Heap) (a : Adr) (vs : List V) (H : Hp) (Q : VK) (E_3 : XK) : Prop where
 | mk (b : Nat) (m1 m2 n1 n2 y1 y2 v1 v2 : Addr) (ps1 ps2 : List Addr) (ss ts : List Str) (bs1 bs2 : List Bool) (mv1 mv2 : List (List Nat)) (h0_ : vs = [.int b, .ref m1, .ref m2]) (h1_ : Two b n1 n2 ss ts bs1 bs2 mv1 mv2 H) (h2_ : H m1 = some (.tup [.ref n1, .ref y1, .ref v1])) (h3_ : H y1 = some (.tup (bs1.map V.bl))) (h4_ : H v1 = some (.tup (ps1.map V.ref))) (h5_ : Tups H ps1 (mv1.map castI)) (h6_ : H m2 = some (.tup [.ref n2, .ref y2, .ref v2])) (h7_ : H y2 = some (.tup (bs2.map V.bl))) (h8_ : H v2 = some (.tup (ps2.map V.ref))) (h9_ : Tups H ps2 (mv2.map castI)) (h10_ : TB a H) (h11_ : ∀ (g z0 f1 f2 lf rt : Addr) (D : List Addr) (us : List Str) (H' : Hp), KX a H H' → TB a H' → (∀ a ∈ D, ∃ φ, H' a = some (.ext φ)) → us.Nodup → (∀ y, y ∈ us ↔ y ∈ ss ∨ y ∈ ts) → PyProof.Rows.sortedS us = true → EvB m1 y1 v1 m2 y2 v2 ps1 ps2 n1 n2 bs1 bs2 mv1 mv2 lf rt (ownL b us ss) (ownL b us ts) H' → H' z0 = some (.tup [.int ((0 : Nat) : Int), .int ((0 : Nat) : Int)]) → H' g = some (.tup [.ref z0, .ref f1, .ref f2]) → FnIn P w K mg base H' D 1 f1 2 (spOn repT (b ^ us.length) (onB mv1 mv2 (ownL b us ss) (ownL b us ts)) (OkB bs1.length bs2.length) (EvB m1 y1 v1 m2 y2 v2 ps1 ps2 n1 n2 bs1 bs2 mv1 mv2 lf rt (ownL b us ss) (ownL b us ts))) → FnIn P w K mg base H' D 1 f2 1 (spYs repT (yesB op bs1 bs2) (OkB bs1.length bs2.length) (EvB m1 y1 v1 m2 y2 v2 ps1 ps2 n1 n2 bs1 bs2 mv1 mv2 lf rt (ownL b us ss) (ownL b us ts))) → Q (.ref g) H')
def spGrB (op : Bool → Bool → Bool) (P : Program) (w : World) (K : PySem.W.Frag) (mg : Str → Option Value) (base : Heap) (a : Adr) : Sp := fun vs H Q E_3 => spGrBI op P w K mg base a vs H Q E_3
theorem sc_both_growth : FnScope ["base", "one", "other"] ["base", "one", "other"] (defScope s_both_growth) := ⟨rfl, rfl, rfl, by decide +kernel, rfl, by decide +kernel, by decide +kernel⟩
set_option maxHeartbeats 16000000 in
theorem ok_both_growth {a : Adr} (T : Txt K mg a) (hB : BltAt mg base) : FnOk P w K mg base CX0 4 a.f_both_growth a.fd_both_growth ["base", "one", "other"] (spGrB and P w K mg base a) := by
 have G_pairs_onward := ok_pairs_onward (P := P) (w := w) (base := base) T hB
 refine T.F_both_growth.okR sc_both_growth (fun vs H Q E h => ?_) (fun Ar outer sh H vs Q E inj hr h => ?_)
 ·obtain ⟨b, m1, m2, n1, n2, y1, y2, v1, v2, ps1, ps2, ss, ts, bs1, bs2, mv1, mv2, rfl, _⟩ := h
  rfl
 ·obtain ⟨b, m1, m2, n1, n2, y1, y2, v1, v2, ps1, ps2, ss, ts, bs1, bs2, mv1, mv2, rfl, tw, a1, a2, a3, a4, b1, b2, b3, b4, tb, q⟩ := h
  refine ⟨_, pb_ret (pe_tup (pa_cons (pe_tup (pa_cons pe_int (pa_cons pe_int pa_nil))) (pa_cons (pe_call G_pairs_onward hr rfl T.m_pairs_onward T.k_pairs_onward T.b_pairs_onward .nil pass0 (pa_cons (pv 0) (pa_cons (pv 1) (pa_cons (pv 2) pa_nil)))) (pa_cons (pe_lamK (T := a.t_both_growth) (L := Lbg) rfl T.h_both_growth hB rfl rfl (List.mem_cons_self) (apart1 _) rfl) pa_nil)))), ?_⟩
  refine ⟨by show 2 ≤ sizeLine; decide, fun z hz => ?_⟩
  have s1 := Same.new (o := .tup [.int ((0 : Nat) : Int), .int ((0 : Nat) : Int)]) hz
  refine ⟨_, rfl, _, rfl, _, rfl, b, m1, m2, n1, n2, y1, y2, v1, v2, ps1, ps2, ss, ts, bs1, bs2, mv1, mv2, rfl, tw.keep s1.kt, s1 _ _ a1, s1 _ _ a2, s1 _ _ a3, a4.keep s1.kt, s1 _ _ b1, s1 _ _ b2, s1 _ _ b3, b4.keep s1.kt, tb.po.same s1, fun f1 lf rt D us H2 kb2 tpo hD nd mem srt ev2 F1 => ?_⟩
  have tb1 := tb.same s1
  have k2 : KX a H H2 := (KX.same s1).trans (KX.kb tb1.po kb2)
  have tb2 : TB a H2 := tb1.kpo T kb2 tpo
  have ez2 : H2 z = some (.tup [.int ((0 : Nat) : Int), .int ((0 : Nat) : Int)]) := (KX.kb (a := a) tb1.po kb2) _ _ upd_same fun _ y => nomatch y
  refine ⟨tb2.bg, fun f2 c' ctv H3 hf ef ec tab3 kb3 => ?_⟩
  have k3 : KX a H2 H3 := KX.kb tb2.bg kb3
  have tb3 : TB a H3 := tb2.kbg T kb3 tab3
  have ez3 := k3 _ _ ez2 fun _ y => nomatch y
  refine ⟨by show 3 ≤ sizeLine; decide, fun g hg => ?_⟩
  have s4 := Same.new (o := .tup [.ref z, .ref f1, .ref f2]) hg
  obtain ⟨c1, h1⟩ : ∃ c, (PyProof.Rows.envOfC "both_growth" (defScope s_both_growth) sh.heap.objs.size a.f_both_growth (.ref a.c_both_growth)).cells.lookup ("one" : Str) = some c := cell_has rfl
  obtain ⟨c2, h2⟩ : ∃ c, (PyProof.Rows.envOfC "both_growth" (defScope s_both_growth) sh.heap.objs.size a.f_both_growth (.ref a.c_both_growth)).cells.lookup ("other" : Str) = some c := cell_has rfl
  let l : List (Nat × Str × Addr × V) := [(1, "one", c1, .ref m1), (2, "other", c2, .ref m2)]
  have C : Cap (cxOf CX0 P w K mg base ["base", "one", "other"] "both_growth" (defScope s_both_growth) a.f_both_growth (.ref a.c_both_growth) Ar outer sh H E) [some (.int (b : Nat)), some (.ref m1), some (.ref m2)] l :=
   ⟨List.forall_mem_cons.mpr ⟨⟨rfl, rfl, rfl, h1⟩, List.forall_mem_cons.mpr ⟨⟨rfl, rfl, rfl, h2⟩, fun _ h => nomatch h⟩⟩, show (["one", "other"] : List Str).Nodup by decide +kernel⟩
  refine ⟨capC l, C.cells, fun fr => ?_⟩
  have sm := addC_same fr
  have g1 := C.got inj (upd H3 g (.tup [.ref z, .ref f1, .ref f2])) (q := (1, "one", c1, .ref m1)) (by simp [l])
  have g2 := C.got inj (upd H3 g (.tup [.ref z, .ref f1, .ref f2])) (q := (2, "other", c2, .ref m2)) (by simp [l])
  have s5 := s4.trans sm
  have kk := k3.trans (KX.same s5)
  have ev5 := ev2.keep kk.kt fun b xs z _ => kk _ _ z fun _ y => nomatch y
  have hD5 : ∀ x ∈ f2 :: c' :: c1 :: c2 :: D, ∃ φ, addC (capC l) (upd H3 g (.tup [.ref z, .ref f1, .ref f2])) x = some (.ext φ) := fun x hx => by
   simp only [List.mem_cons] at hx
   rcases hx with z | z | z | z | z
   ·rw [z]; exact ⟨_, s5 _ _ ef⟩
   ·rw [z]; exact ⟨_, s5 _ _ ec⟩
   ·rw [z]; exact ⟨_, g1⟩
   ·rw [z]; exact ⟨_, g2⟩
   ·obtain ⟨φ, e⟩ := hD x z
    exact ⟨φ, kk _ _ e fun _ y => nomatch y⟩
  refine q g z f1 f2 lf rt (f2 :: c' :: c1 :: c2 :: D) us _ (k2.trans kk) (tb3.same s5) hD5 nd mem srt ev5 (s5 _ _ ez3) (sm _ _ upd_same) ((F1.same fun b φ _ e => kk _ _ e fun _ y => nomatch y).more fun b hb => by simp [hb]) ?_
  refine FnIn.lam (s5 _ _ ef) (by simp) (s5 _ _ ec) (by simp) (ps := ["pair"]) (frn := ["one", "other"]) (fvs := [.ref m1, .ref m2]) (LamScope.mk' rfl rfl rfl (by decide +kernel) (by decide +kernel) (by decide +kernel) (by decide +kernel) (by decide +kernel)) inj (List.forall_mem_cons.mpr ⟨⟨rfl, List.mem_of_getElem? (i := 1) rfl⟩, List.forall_mem_cons.mpr ⟨⟨rfl, List.mem_of_getElem? (i := 0) rfl⟩, fun _ h => nomatch h⟩⟩)
    (.cons ⟨c1, rfl, h1, by simp, g1⟩ (.cons ⟨c2, rfl, h2, by simp, g2⟩ .nil)) (fun us hl => match us, hl with | [_], _ => rfl) (fun vs H Q E h => ?_) (fun base' W A outer s H vs Q E hr h => ?_)
  ·obtain ⟨x, v, rfl, _⟩ := h
   rfl
  ·obtain ⟨x, v, rfl, ⟨pp, rfl, ep⟩, ⟨i, j, rfl, hi, hj⟩, ev, kk⟩ := h
   have ep' : H pp = some (.tup [.int (i : Nat), .int (j : Nat)]) := ep
   refine ⟨_, pe_and (pe_ix (ix_tupK K) (pe_ix (ix_tupK K) (pv 1) pe_int (fun _ _ => rfl)) (pe_ix (ix_tupK K) (pv 0) pe_int (fun _ _ => rfl)) (fun _ _ => rfl)) (pe_one (pe_ix (ix_tupK K) (pe_ix (ix_tupK K) (pv 2) pe_int (fun _ _ => rfl)) (pe_ix (ix_tupK K) (pv 0) pe_int (fun _ _ => rfl)) (fun _ _ => rfl))), ?_⟩
   refine ⟨_, rfl, m1, _, _, .ref y1, rfl, rfl, .of ev.a1, atI_nat (j := 1) rfl, _, rfl, pp, _, _, .int (i : Nat), rfl, rfl, .of ep', atI_nat (j := 0) rfl, y1, _, _, .bl (bs1.getD i false), rfl, rfl, .of ev.a2, atI_nat (by rw [List.getElem?_map, item_at false hi]; rfl), _, rfl, ?_⟩
   have kq := kk H (Same.refl H)
   have ey : yesB and bs1 bs2 [i, j] = and (bs1.getD i false) (bs2.getD j false) := rfl
   rw [ey] at kq
   cases z : bs1.getD i false with
   | false => rw [z] at kq; exact kq
   | true =>
    rw [z] at kq
    refine ⟨_, rfl, m2, _, _, .ref y2, rfl, rfl, .of ev.b1, atI_nat (j := 1) rfl, _, rfl, pp, _, _, .int (j : Nat), rfl, rfl, .of ep', atI_nat (j := 1) rfl, y2, _, _, .bl (bs2.getD j false), rfl, rfl, .of ev.b2, atI_nat (by rw [List.getElem?_map, item_at false hj]; rfl), ?_⟩
    exact kq
theorem sc_either_growth : FnScope ["base", "one", "other"] ["base", "one", "other"] (defScope s_either_growth) := ⟨rfl, rfl, rfl, by decide +kernel, rfl, by decide +kernel, by decide +kernel⟩
set_option maxHeartbeats 16000000 in
theorem ok_either_growth {a : Adr} (T : Txt K mg a) (hB : BltAt mg base) : FnOk P w K mg base CX0 4 a.f_either_growth a.fd_either_growth ["base", "one", "other"] (spGrB or P w K mg base a) := by
 have G_pairs_onward := ok_pairs_onward (P := P) (w := w) (base := base) T hB
 refine T.F_either_growth.okR sc_either_growth (fun vs H Q E h => ?_) (fun Ar outer sh H vs Q E inj hr h => ?_)
 ·obtain ⟨b, m1, m2, n1, n2, y1, y2, v1, v2, ps1, ps2, ss, ts, bs1, bs2, mv1, mv2, rfl, _⟩ := h
  rfl
 ·obtain ⟨b, m1, m2, n1, n2, y1, y2, v1, v2, ps1, ps2, ss, ts, bs1, bs2, mv1, mv2, rfl, tw, a1, a2, a3, a4, b1, b2, b3, b4, tb, q⟩ := h
  refine ⟨_, pb_ret (pe_tup (pa_cons (pe_tup (pa_cons pe_int (pa_cons pe_int pa_nil))) (pa_cons (pe_call G_pairs_onward hr rfl T.m_pairs_onward T.k_pairs_onward T.b_pairs_onward .nil pass0 (pa_cons (pv 0) (pa_cons (pv 1) (pa_cons (pv 2) pa_nil)))) (pa_cons (pe_lamK (T := a.t_either_growth) (L := Leg) rfl T.h_either_growth hB rfl rfl (List.mem_cons_self) (apart1 _) rfl) pa_nil)))), ?_⟩
  refine ⟨by show 2 ≤ sizeLine; decide, fun z hz => ?_⟩
  have s1 := Same.new (o := .tup [.int ((0 : Nat) : Int), .int ((0 : Nat) : Int)]) hz
  refine ⟨_, rfl, _, rfl, _, rfl, b, m1, m2, n1, n2, y1, y2, v1, v2, ps1, ps2, ss, ts, bs1, bs2, mv1, mv2, rfl, tw.keep s1.kt, s1 _ _ a1, s1 _ _ a2, s1 _ _ a3, a4.keep s1.kt, s1 _ _ b1, s1 _ _ b2, s1 _ _ b3, b4.keep s1.kt, tb.po.same s1, fun f1 lf rt D us H2 kb2 tpo hD nd mem srt ev2 F1 => ?_⟩
  have tb1 := tb.same s1
  have k2 : KX a H H2 := (KX.same s1).trans (KX.kb tb1.po kb2)
  have tb2 : TB a H2 := tb1.kpo T kb2 tpo
  have ez2 : H2 z = some (.tup [.int ((0 : Nat) : Int), .int ((0 : Nat) : Int)]) := (KX.kb (a := a) tb1.po kb2) _ _ upd_same fun _ y => nomatch y
  refine ⟨tb2.eg, fun f2 c' ctv H3 hf ef ec tab3 kb3 => ?_⟩
  have k3 : KX a H2 H3 := KX.kb tb2.eg kb3
  have tb3 : TB a H3 := tb2.keg T kb3 tab3
  have ez3 := k3 _ _ ez2 fun _ y => nomatch y
  refine ⟨by show 3 ≤ sizeLine; decide, fun g hg => ?_⟩
  have s4 := Same.new (o := .tup [.ref z, .ref f1, .ref f2]) hg
  obtain ⟨c1, h1⟩ : ∃ c, (PyProof.Rows.envOfC "either_growth" (defScope s_either_growth) sh.heap.objs.size a.f_either_growth (.ref a.c_either_growth)).cells.lookup ("one" : Str) = some c := cell_has rfl
  obtain ⟨c2, h2⟩ : ∃ c, (PyProof.Rows.envOfC "either_growth" (defScope s_either_growth) sh.heap.objs.size a.f_either_growth (.ref a.c_either_growth)).cells.lookup ("other" : Str) = some c := cell_has rfl
  let l : List (Nat × Str × Addr × V) := [(1, "one", c1, .ref m1), (2, "other", c2, .ref m2)]
  have C : Cap (cxOf CX0 P w K mg base ["base", "one", "other"] "either_growth" (defScope s_either_growth) a.f_either_growth (.ref a.c_either_growth) Ar outer sh H E) [some (.int (b : Nat)), some (.ref m1), some (.ref m2)] l :=
   ⟨List.forall_mem_cons.mpr ⟨⟨rfl, rfl, rfl, h1⟩, List.forall_mem_cons.mpr ⟨⟨rfl, rfl, rfl, h2⟩, fun _ h => nomatch h⟩⟩, show (["one", "other"] : List Str).Nodup by decide +kernel⟩
  refine ⟨capC l, C.cells, fun fr => ?_⟩
  have sm := addC_same fr
  have g1 := C.got inj (upd H3 g (.tup [.ref z, .ref f1, .ref f2])) (q := (1, "one", c1, .ref m1)) (by simp [l])
  have g2 := C.got inj (upd H3 g (.tup [.ref z, .ref f1, .ref f2])) (q := (2, "other", c2, .ref m2)) (by simp [l])
  have s5 := s4.trans sm
  have kk := k3.trans (KX.same s5)
  have ev5 := ev2.keep kk.kt fun b xs z _ => kk _ _ z fun _ y => nomatch y
  have hD5 : ∀ x ∈ f2 :: c' :: c1 :: c2 :: D, ∃ φ, addC (capC l) (upd H3 g (.tup [.ref z, .ref f1, .ref f2])) x = some (.ext φ) := fun x hx => by
   simp only [List.mem_cons] at hx
   rcases hx with z | z | z | z | z
   ·rw [z]; exact ⟨_, s5 _ _ ef⟩
   ·rw [z]; exact ⟨_, s5 _ _ ec⟩
   ·rw [z]; exact ⟨_, g1⟩
   ·rw [z]; exact ⟨_, g2⟩
   ·obtain ⟨φ, e⟩ := hD x z
    exact ⟨φ, kk _ _ e fun _ y => nomatch y⟩
  refine q g z f1 f2 lf rt (f2 :: c' :: c1 :: c2 :: D) us _ (k2.trans kk) (tb3.same s5) hD5 nd mem srt ev5 (s5 _ _ ez3) (sm _ _ upd_same) ((F1.same fun b φ _ e => kk _ _ e fun _ y => nomatch y).more fun b hb => by simp [hb]) ?_
  refine FnIn.lam (s5 _ _ ef) (by simp) (s5 _ _ ec) (by simp) (ps := ["pair"]) (frn := ["one", "other"]) (fvs := [.ref m1, .ref m2]) (LamScope.mk' rfl rfl rfl (by decide +kernel) (by decide +kernel) (by decide +kernel) (by decide +kernel) (by decide +kernel)) inj (List.forall_mem_cons.mpr ⟨⟨rfl, List.mem_of_getElem? (i := 1) rfl⟩, List.forall_mem_cons.mpr ⟨⟨rfl, List.mem_of_getElem? (i := 0) rfl⟩, fun _ h => nomatch h⟩⟩)
    (.cons ⟨c1, rfl, h1, by simp, g1⟩ (.cons ⟨c2, rfl, h2, by simp, g2⟩ .nil)) (fun us hl => match us, hl with | [_], _ => rfl) (fun vs H Q E h => ?_) (fun base' W A outer s H vs Q E hr h => ?_)
  ·obtain ⟨x, v, rfl, _⟩ := h
   rfl
  ·obtain ⟨x, v, rfl, ⟨pp, rfl, ep⟩, ⟨i, j, rfl, hi, hj⟩, ev, kk⟩ := h
   have ep' : H pp = some (.tup [.int (i : Nat), .int (j : Nat)]) := ep
   refine ⟨_, pe_or (pe_ix (ix_tupK K) (pe_ix (ix_tupK K) (pv 1) pe_int (fun _ _ => rfl)) (pe_ix (ix_tupK K) (pv 0) pe_int (fun _ _ => rfl)) (fun _ _ => rfl)) (pe_one (pe_ix (ix_tupK K) (pe_ix (ix_tupK K) (pv 2) pe_int (fun _ _ => rfl)) (pe_ix (ix_tupK K) (pv 0) pe_int (fun _ _ => rfl)) (fun _ _ => rfl))), ?_⟩
   refine ⟨_, rfl, m1, _, _, .ref y1, rfl, rfl, .of ev.a1, atI_nat (j := 1) rfl, _, rfl, pp, _, _, .int (i : Nat), rfl, rfl, .of ep', atI_nat (j := 0) rfl, y1, _, _, .bl (bs1.getD i false), rfl, rfl, .of ev.a2, atI_nat (by rw [List.getElem?_map, item_at false hi]; rfl), _, rfl, ?_⟩
   have kq := kk H (Same.refl H)
   have ey : yesB or bs1 bs2 [i, j] = or (bs1.getD i false) (bs2.getD j false) := rfl
   rw [ey] at kq
   cases z : bs1.getD i false with
   | true => rw [z] at kq; exact kq
   | false =>
    rw [z] at kq
    refine ⟨_, rfl, m2, _, _, .ref y2, rfl, rfl, .of ev.b1, atI_nat (j := 1) rfl, _, rfl, pp, _, _, .int (j : Nat), rfl, rfl, .of ep', atI_nat (j := 1) rfl, y2, _, _, .bl (bs2.getD j false), rfl, rfl, .of ev.b2, atI_nat (by rw [List.getElem?_map, item_at false hj]; rfl), ?_⟩
    exact kq
def Mc (b : Nat) (H : Hp) (m : Addr) (ss : List Str) (bs : List Bool) (mv : List (List Nat)) : Prop := ∃ nm, MachAt H m nm bs mv ∧ H nm = some (.tup (ss.map V.str)) ∧ Moves bs.length (b ^ ss.length) mv ∧ 0 < bs.length
theorem Mc.keep {b : Nat} {H H' : Hp} {m : Addr} {ss : List Str} {bs : List Bool} {mv : List (List Nat)} (h : Mc b H m ss bs mv) (k : KTu H H') : Mc b H' m ss bs mv := by
 obtain ⟨nm, h1, h2, h3, h4⟩ := h
 exact ⟨nm, h1.keep k, k _ _ h2, h3, h4⟩
def own (b : Nat) (us ss : List Str) (c : Nat) : Nat := (ownL b us ss).getD c 0
theorem own_lt {b : Nat} (hb : 0 < b) {us ss : List Str} {c : Nat} (hc : c < b ^ us.length) : own b us ss c < b ^ ss.length := by
 unfold own
 rw [ownL_at b us ss hc]
 have := pk_lt (m := us.length) hb (ss.map (idx us)) c
 rwa [List.length_map] at this
theorem grown_pos {α : Type} {x0 : α} {on : α → Nat → α} {B : Nat} {xs : List α} {mv : List (List Nat)} (g : Grown x0 on B xs mv) : 0 < xs.length := (List.getElem?_eq_some_iff.mp g.first).1
theorem onB_run (mv1 mv2 : List (List Nat)) (LL RR : List Nat) : ∀ (w : List Nat) (i j : Nat), runA (onB mv1 mv2 LL RR) [i, j] w = [run mv1 i (w.map fun c => LL.getD c 0), run mv2 j (w.map fun c => RR.getD c 0)]
 | [], i, j => rfl
 | c :: w, i, j => onB_run mv1 mv2 LL RR w _ _
theorem sum_rep (n k : Nat) : (List.replicate n k).sum = n * k := by
 induction n with
 | zero => simp
 | succ n ih => rw [List.replicate_succ, List.sum_cons, ih, Nat.add_mul, Nat.one_mul, Nat.add_comm]
theorem okB_few {n1 n2 : Nat} {l : List (List Nat)} (nd : l.Nodup) (h : ∀ x ∈ l, OkB n1 n2 x) : l.length ≤ n1 * n2 := by
 have e : ((List.range n1).flatMap fun i => (List.range n2).map fun j => [i, j]).length = n1 * n2 := by
  rw [List.length_flatMap, show (List.map (fun i => ((List.range n2).map fun j => [i, j]).length) (List.range n1)) = List.replicate n1 n2 from ?_, sum_rep]
  ·rw [List.eq_replicate_iff]
   exact ⟨by simp, fun x hx => by obtain ⟨i, _, rfl⟩ := List.mem_map.mp hx; simp⟩
 rw [← e]
 refine List.Nodup.length_le_of_subset nd fun x hx => ?_
 obtain ⟨i, j, rfl, hi, hj⟩ := h x hx
 exact List.mem_flatMap.mpr ⟨i, List.mem_range.mpr hi, List.mem_map.mpr ⟨j, List.mem_range.mpr hj, rfl⟩⟩
theorem okB_run {n1 n2 B : Nat} {on : List Nat → Nat → List Nat} (h : ∀ x a, OkB n1 n2 x → a < B → OkB n1 n2 (on x a)) : ∀ {w : List Nat} {x : List Nat}, OkB n1 n2 x → Word B w → OkB n1 n2 (runA on x w)
 | [], x, hx, _ => hx
 | a :: w, x, hx, hw => okB_run h (w := w) (h x a hx (hw a List.mem_cons_self)) fun y hy => hw y (List.mem_cons_of_mem _ hy)
inductive spJoinOI (op : Bool → Bool → Bool) (a : Adr) (vs : List V) (H : Hp) (Q : VK) (E_3 : XK) : Prop where
 | mk (b most : Nat) (m1 m2 : Addr) (ss ts : List Str) (bs1 bs2 : List Bool) (mv1 mv2 : List (List Nat)) (h0_ : vs = [.int b, .ref m1, .ref m2, .int (most : Nat)]) (h1_ : 2 ≤ b) (h2_ : b ≤ 4) (h3_ : Mc b H m1 ss bs1 mv1) (h4_ : Mc b H m2 ts bs2 mv2) (h5_ : ss.length ≤ 2) (h6_ : ts.length ≤ 2) (h7_ : most ≤ 10000) (h8_ : TB a H) (h9_ : ∀ (us : List Str) (H' : Hp), us.Nodup → (∀ y, y ∈ us ↔ y ∈ ss ∨ y ∈ ts) → PyProof.Rows.sortedS us = true → KX a H H' → TB a H' → (∀ xs : List (List Nat), xs.Nodup → (∀ x ∈ xs, ∃ w, Word (b ^ us.length) w ∧ x = runA (onB mv1 mv2 (ownL b us ss) (ownL b us ts)) [0, 0] w) → most < xs.length → Q .non H') ∧ (∀ (m nm : Addr) (xs : List (List Nat)) (mv : List (List Nat)), MachAt H' m nm (xs.map (yesB op bs1 bs2)) mv → H' nm = some (.tup (us.map V.str)) → mv.length = xs.length → xs.length ≤ most → Grown [0, 0] (onB mv1 mv2 (ownL b us ss) (ownL b us ts)) (b ^ us.length) xs mv → Q (.ref m) H'))
def spJoinO (op : Bool → Bool → Bool) (a : Adr) : Sp := fun vs H Q E_3 => spJoinOI op a vs H Q E_3
theorem sc_both_of : FnScope ["base", "one", "other", "most"] ["base", "one", "other", "most"] (defScope s_both_of) := ⟨rfl, rfl, rfl, by decide +kernel, rfl, by decide +kernel, by decide +kernel⟩
theorem ok_both_of {a : Adr} (T : Txt K mg a) (hB : BltAt mg base) : FnOk P w K mg base CX0 5 a.f_both_of a.fd_both_of ["base", "one", "other", "most"] (spJoinO and a) := by
 have G_growth := ok_both_growth (P := P) (w := w) (base := base) T hB
 have G_names_of_both := ok_names_of_both (P := P) (w := w) (base := base) T
 have G_machine_of := ok_machine_of (P := P) (w := w) (base := base) T 1
 refine T.F_both_of.ok sc_both_of (fun vs H Q E h => ?_) (fun Ar outer s H vs Q E hr h => ?_)
 ·obtain ⟨b, most, m1, m2, ss, ts, bs1, bs2, mv1, mv2, rfl, _⟩ := h
  rfl
 ·obtain ⟨b, most, m1, m2, ss, ts, bs1, bs2, mv1, mv2, rfl, hb2, hb4, ⟨n1, ⟨y1, v1, ps1, a1, a2, a3, a4⟩, en1, mo1, p1⟩, ⟨n2, ⟨y2, v2, ps2, b1, b2, b3, b4⟩, en2, mo2, p2⟩, hs, ht, hmost, tb, q⟩ := h
  have hr_n : Room 1 _ := hr.mono (by decide)
  have hr_m : Room 3 _ := hr.mono (by decide)
  refine ⟨_, pss_one (ps_ret (pe_call G_machine_of hr_m rfl T.m_machine_of T.k_machine_of T.b_machine_of .nil pass0 (pa_cons (pv 0) (pa_cons (pe_call G_names_of_both hr_n rfl T.m_names_of_both T.k_names_of_both T.b_names_of_both .nil pass0 (pa_cons (pv 1) (pa_cons (pv 2) pa_nil))) (pa_cons (pe_call G_growth hr rfl T.m_both_growth T.k_both_growth T.b_both_growth .nil pass0 (pa_cons (pv 0) (pa_cons (pv 1) (pa_cons (pv 2) pa_nil)))) (pa_cons (pv 3) pa_nil)))))), ?_⟩
  refine ⟨_, rfl, _, rfl, _, rfl, m1, m2, n1, n2, y1, y2, v1, v2, ss, ts, rfl, a1, b1, en1, en2, by omega, by omega, fun N us H1 s1 eN nd mem srt => ?_⟩
  have lu := union_len nd mem
  have tw : Two b n1 n2 ss ts bs1 bs2 mv1 mv2 H := ⟨hb2, hb4, en1, en2, hs, ht, mo1, mo2⟩
  refine ⟨_, rfl, _, rfl, _, rfl, b, m1, m2, n1, n2, y1, y2, v1, v2, ps1, ps2, ss, ts, bs1, bs2, mv1, mv2, rfl, tw.keep s1.kt, s1 _ _ a1, s1 _ _ a2, s1 _ _ a3, a4.keep s1.kt, s1 _ _ b1, s1 _ _ b2, s1 _ _ b3, b4.keep s1.kt, tb.same s1, fun g z0 f1 f2 lf rt D us2 H2 k2 tb2 hD nd2 mem2 srt2 ev2 ez eg F1 F2 => ?_⟩
  obtain rfl : us2 = us := sorted_uniq srt2 srt nd2 nd fun y => (mem2 y).trans (mem y).symm
  have hb0 : 0 < b := by omega
  have okS : ∀ x c, OkB bs1.length bs2.length x → c < b ^ us2.length → OkB bs1.length bs2.length (onB mv1 mv2 (ownL b us2 ss) (ownL b us2 ts) x c) := fun x c ⟨i, j, e, hi, hj⟩ hc => by
   subst e
   exact ⟨_, _, rfl, mo1.stp hi (own_lt hb0 hc), mo2.stp hj (own_lt hb0 hc)⟩
  refine ⟨_, rfl, b, most, N, g, us2, List Nat, repT, onB mv1 mv2 (ownL b us2 ss) (ownL b us2 ts), yesB and bs1 bs2, OkB bs1.length bs2.length, EvB m1 y1 v1 m2 y2 v2 ps1 ps2 n1 n2 bs1 bs2 mv1 mv2 lf rt (ownL b us2 ss) (ownL b us2 ts), [0, 0], .ref z0, f1, f2, D, rfl, hb4, by omega, k2.kt _ _ eN, eg, hD, F1, F2, okS, fun H H' e s => e.same s, fun D H hD e => e.untr hD, ⟨z0, rfl, ez⟩, ⟨0, 0, rfl, p1, p2⟩, ev2, hmost, fun xs H3 s3 nd3 rc lt => ?_, fun xs mv p H3 s3 hlen le gr mch => ?_⟩
  ·exact (q us2 H3 nd2 mem2 srt2 ((KX.same s1).trans (k2.trans (KX.same s3))) (tb2.same s3)).1 xs nd3 rc lt
  ·exact (q us2 H3 nd2 mem2 srt2 ((KX.same s1).trans (k2.trans (KX.same s3))) (tb2.same s3)).2 p N xs mv mch (s3 _ _ (k2.kt _ _ eN)) hlen le gr
theorem sc_either_of : FnScope ["base", "one", "other", "most"] ["base", "one", "other", "most"] (defScope s_either_of) := ⟨rfl, rfl, rfl, by decide +kernel, rfl, by decide +kernel, by decide +kernel⟩
theorem ok_either_of {a : Adr} (T : Txt K mg a) (hB : BltAt mg base) : FnOk P w K mg base CX0 5 a.f_either_of a.fd_either_of ["base", "one", "other", "most"] (spJoinO or a) := by
 have G_growth := ok_either_growth (P := P) (w := w) (base := base) T hB
 have G_names_of_both := ok_names_of_both (P := P) (w := w) (base := base) T
 have G_machine_of := ok_machine_of (P := P) (w := w) (base := base) T 1
 refine T.F_either_of.ok sc_either_of (fun vs H Q E h => ?_) (fun Ar outer s H vs Q E hr h => ?_)
 ·obtain ⟨b, most, m1, m2, ss, ts, bs1, bs2, mv1, mv2, rfl, _⟩ := h
  rfl
 ·obtain ⟨b, most, m1, m2, ss, ts, bs1, bs2, mv1, mv2, rfl, hb2, hb4, ⟨n1, ⟨y1, v1, ps1, a1, a2, a3, a4⟩, en1, mo1, p1⟩, ⟨n2, ⟨y2, v2, ps2, b1, b2, b3, b4⟩, en2, mo2, p2⟩, hs, ht, hmost, tb, q⟩ := h
  have hr_n : Room 1 _ := hr.mono (by decide)
  have hr_m : Room 3 _ := hr.mono (by decide)
  refine ⟨_, pss_one (ps_ret (pe_call G_machine_of hr_m rfl T.m_machine_of T.k_machine_of T.b_machine_of .nil pass0 (pa_cons (pv 0) (pa_cons (pe_call G_names_of_both hr_n rfl T.m_names_of_both T.k_names_of_both T.b_names_of_both .nil pass0 (pa_cons (pv 1) (pa_cons (pv 2) pa_nil))) (pa_cons (pe_call G_growth hr rfl T.m_either_growth T.k_either_growth T.b_either_growth .nil pass0 (pa_cons (pv 0) (pa_cons (pv 1) (pa_cons (pv 2) pa_nil)))) (pa_cons (pv 3) pa_nil)))))), ?_⟩
  refine ⟨_, rfl, _, rfl, _, rfl, m1, m2, n1, n2, y1, y2, v1, v2, ss, ts, rfl, a1, b1, en1, en2, by omega, by omega, fun N us H1 s1 eN nd mem srt => ?_⟩
  have lu := union_len nd mem
  have tw : Two b n1 n2 ss ts bs1 bs2 mv1 mv2 H := ⟨hb2, hb4, en1, en2, hs, ht, mo1, mo2⟩
  refine ⟨_, rfl, _, rfl, _, rfl, b, m1, m2, n1, n2, y1, y2, v1, v2, ps1, ps2, ss, ts, bs1, bs2, mv1, mv2, rfl, tw.keep s1.kt, s1 _ _ a1, s1 _ _ a2, s1 _ _ a3, a4.keep s1.kt, s1 _ _ b1, s1 _ _ b2, s1 _ _ b3, b4.keep s1.kt, tb.same s1, fun g z0 f1 f2 lf rt D us2 H2 k2 tb2 hD nd2 mem2 srt2 ev2 ez eg F1 F2 => ?_⟩
  obtain rfl : us2 = us := sorted_uniq srt2 srt nd2 nd fun y => (mem2 y).trans (mem y).symm
  have hb0 : 0 < b := by omega
  have okS : ∀ x c, OkB bs1.length bs2.length x → c < b ^ us2.length → OkB bs1.length bs2.length (onB mv1 mv2 (ownL b us2 ss) (ownL b us2 ts) x c) := fun x c ⟨i, j, e, hi, hj⟩ hc => by
   subst e
   exact ⟨_, _, rfl, mo1.stp hi (own_lt hb0 hc), mo2.stp hj (own_lt hb0 hc)⟩
  refine ⟨_, rfl, b, most, N, g, us2, List Nat, repT, onB mv1 mv2 (ownL b us2 ss) (ownL b us2 ts), yesB or bs1 bs2, OkB bs1.length bs2.length, EvB m1 y1 v1 m2 y2 v2 ps1 ps2 n1 n2 bs1 bs2 mv1 mv2 lf rt (ownL b us2 ss) (ownL b us2 ts), [0, 0], .ref z0, f1, f2, D, rfl, hb4, by omega, k2.kt _ _ eN, eg, hD, F1, F2, okS, fun H H' e s => e.same s, fun D H hD e => e.untr hD, ⟨z0, rfl, ez⟩, ⟨0, 0, rfl, p1, p2⟩, ev2, hmost, fun xs H3 s3 nd3 rc lt => ?_, fun xs mv p H3 s3 hlen le gr mch => ?_⟩
  ·exact (q us2 H3 nd2 mem2 srt2 ((KX.same s1).trans (k2.trans (KX.same s3))) (tb2.same s3)).1 xs nd3 rc lt
  ·exact (q us2 H3 nd2 mem2 srt2 ((KX.same s1).trans (k2.trans (KX.same s3))) (tb2.same s3)).2 p N xs mv mch (s3 _ _ (k2.kt _ _ eN)) hlen le gr
end
end My
namespace My
open PySem L2
open PySem.Spec PyProof.Rows in
theorem sorted_pw : ∀ {l : List Str}, PyProof.Rows.sortedS l = true → l.Pairwise (fun a b => ltCps b.cps.toList a.cps.toList = false)
 | [], _ => .nil
 | x :: l, h => .cons (fun y hy => by
   have := rising_le l x h y hy
   rw [PyProof.Rows.ltCps_eq]
   simpa using List.not_lt.mpr this) (sorted_pw (sorted_tail h))
theorem ownF_eq {us ts : List Str} (su : PyProof.Rows.sortedS us = true) (nu : us.Nodup) (st : PyProof.Rows.sortedS ts = true) (nt : ts.Nodup) (h : ∀ t ∈ ts, t ∈ us) : ownF us ts = ts :=
 sorted_uniq (PyProof.Rows.sortedS_of_pairwise _ ((sorted_pw su).sublist List.filter_sublist)) st (List.Pairwise.sublist List.filter_sublist nu) nt fun y => by
  rw [ownF, List.mem_filter, decide_eq_true_iff]
  exact ⟨fun z => z.2, fun z => ⟨h y z, z⟩⟩
def restN (ss ts : List Str) : List Str := ts.filter fun t => !decide (t ∈ ss)
theorem restN_in {ss l : List Str} {t : Str} (h : t ∈ ss) : restN ss (l ++ [t]) = restN ss l := by rw [restN, List.filter_append, List.filter_cons, if_neg (by rw [decide_eq_true h]; decide), List.filter_nil, List.append_nil]; rfl
theorem restN_out {ss l : List Str} {t : Str} (h : t ∉ ss) : restN ss (l ++ [t]) = restN ss l ++ [t] := by rw [restN, List.filter_append, List.filter_cons, if_pos (by rw [decide_eq_false h]; decide), List.filter_nil]; rfl
theorem restN_len (ss ts : List Str) : (restN ss ts).length ≤ ts.length := List.length_filter_le _ _
theorem mem_restN {ss ts : List Str} {t : Str} : t ∈ restN ss ts ↔ t ∈ ts ∧ t ∉ ss := by rw [restN, List.mem_filter]; simp
section
variable {X : Cx} {pos : Pos} {name : Str} {params : Arguments} {body : List Stmt} {scope : Scope} {c T : Addr} {clos : List (Str × Addr)} {L : List (Pos × Str)}
theorem ps_defK {i : Nat} (hN : X.N.Nodup) (hi : X.N[i]? = some name) (hx : Loc X.env.scope name) (hcode : X.env.code = .ref c) (hC : PySem.W.codeHdIn X.K c T = true) (hB : BltAt X.mg X.base) (hcl : closureFor scope X.env = pure clos) (hd0 : params.defaults = []) (hk0 : params.kw_defaults = []) (ha : annTrees params none X.env = [])
  (hL : (pos, qualnameIn X.env name name) ∈ L) (ap : Apart L) (hf : X.fn name = true ∨ X.env.scope.names.lookup name = some .local := by first | exact .inl rfl | exact .inr rfl | assumption) :
  PS X (.FunctionDef name params body [] none [] scope none name pos) (tDef X name params body scope clos T L i) := fun pins s σ H D I h => ps_def hN hi hx hcode (PySem.W.codeHd_of_K I.ok.mod.kin hC) hB hcl hd0 hk0 ha hL ap hf pins s σ H D I h
end
inductive spDueI (a : Adr) (vs : List V) (H : Hp) (Q : VK) (E_3 : XK) : Prop where
 | mk (b : Nat) (m1 m2 : Addr) (ss ts : List Str) (bs1 bs2 : List Bool) (mv1 mv2 : List (List Nat)) (h0_ : vs = [.int b, .ref m1, .ref m2]) (h1_ : 2 ≤ b) (h2_ : b ≤ 4) (h3_ : Mc b H m1 ss bs1 mv1) (h4_ : Mc b H m2 ts bs2 mv2) (h5_ : ss.length ≤ 2) (h6_ : ts.length ≤ 2) (h7_ : ss.Nodup) (h8_ : ts.Nodup) (h9_ : PyProof.Rows.sortedS ss = true) (h10_ : PyProof.Rows.sortedS ts = true) (h11_ : bs1.length * bs2.length ≤ 2000) (h12_ : TB a H) (h13_ : ∀ (p N Rr va : Addr) (us : List Str) (vs : List V) (ps : List Addr) (xs : List (List Nat)) (mv : List (List Nat)) (H' : Hp), us.Nodup → (∀ y, y ∈ us ↔ y ∈ ss ∨ y ∈ ts) → PyProof.Rows.sortedS us = true → KX a H H' → TB a H' → H' p = some (.tup [.ref N, .ref Rr, .ref va]) → H' N = some (.tup (us.map V.str)) → H' Rr = some (.lst vs) → Reps repT H' vs xs → H' va = some (.tup (ps.map V.ref)) → Tups H' ps (mv.map castI) → mv.length = xs.length → xs.length ≤ bs1.length * bs2.length → Grown [0, 0] (onB mv1 mv2 (ownL b us ss) (ownL b us ts)) (b ^ us.length) xs mv → Q (.ref p) H')
def spDue (a : Adr) : Sp := fun vs H Q E_3 => spDueI a vs H Q E_3
section
variable {P : Program} {w : World} {K : PySem.W.Frag} {mg : Str → Option Value} {base : Heap}
theorem sc_l_due : FnScope ["_law_base", "_law_one", "_law_other", "_law_names_here", "_law_firsts", "_law_seconds", "_law_onward", "_law_pairs", "_law_moves"] ["_law_base", "_law_one", "_law_other"] (defScope s_l_due) := ⟨rfl, rfl, rfl, by decide +kernel, rfl, by decide +kernel, by decide +kernel⟩
set_option maxHeartbeats 16000000 in
theorem ok_l_due {a : Adr} (T : Txt K mg a) (hB : BltAt mg base) : FnOk P w K mg base CX0 3 a.f_l_due a.fd_l_due ["_law_base", "_law_one", "_law_other"] (spDue a) := by
 have G_l_numbers := ok_l_numbers (P := P) (w := w) (base := base) T
 refine T.F_l_due.ok sc_l_due (fun vs H Q E h => ?_) (fun Ar outer s H vs Q E hr h => ?_)
 ·obtain ⟨b, m1, m2, ss, ts, bs1, bs2, mv1, mv2, rfl, _⟩ := h
  rfl
 ·obtain ⟨b, m1, m2, ss, ts, bs1, bs2, mv1, mv2, rfl, hb2, hb4, ⟨n1, ⟨y1, v1, ps1, a1, a2, a3, a4⟩, en1, mo1, p1⟩, ⟨n2, ⟨y2, v2, ps2, b1, b2, b3, b4⟩, en2, mo2, p2⟩, hs, ht, nds, ndt, srs, srt, few, tb, q⟩ := h
  have hr_l_numbers : Room 2 _ := hr
  refine ⟨_, (pss_cons (ps_set (i := 3) sc_l_due.nd rfl (Or.inl rfl) (pe_callTy (call_tupleK K) (by rfl) T.z_tuple bt_tuple (pa_cons (pe_callB (call_sortTK K) (by rfl) T.z_sorted bt_sorted (pa_cons (pe_op (op_catA K) (pe_ix (ix_tupK K) (pv 1) pe_int (fun _ _ => rfl)) (pe_callTy (call_tupleK K) (by rfl) T.z_tuple bt_tuple (pa_cons (pe_comp (CompScope.mk' (esc := defScope s_l_due) (N := ["_law_base", "_law_one", "_law_other", "_law_names_here", "_law_firsts", "_law_seconds", "_law_onward", "_law_pairs", "_law_moves"]) (own := ["_law_name"]) (frn := ["_law_one"]) (frj := [1]) rfl rfl (by decide +kernel)) rfl (pi_tup (pe_ix (ix_tupK K) (pv 2) pe_int (fun _ _ => rfl))) (fun _ _ _ _ => (pg_name (i := 0) (show List.Nodup (["_law_name", "_law_one"] : List Str) by decide +kernel) rfl (Or.inl rfl))) (fun _ _ _ _ => (pifs_one (pt_cmpR (op_notInK K) (pv 0) (pe_ix (ix_tupK K) (pv 1) pe_int (fun _ _ => rfl)) (by with_unfolding_all rfl)))) (fun _ _ _ _ => (pv 0))) pa_nil))) pa_nil)) pa_nil)))
  (pss_cons (ps_set (i := 4) sc_l_due.nd rfl (Or.inr rfl) (pe_call G_l_numbers hr_l_numbers rfl T.m_l_numbers T.k_l_numbers T.b_l_numbers .nil pass0 (pa_cons (pv 0) (pa_cons (pv 3) (pa_cons (pe_ix (ix_tupK K) (pv 1) pe_int (fun _ _ => rfl)) pa_nil)))))
  (pss_cons (ps_set (i := 5) sc_l_due.nd rfl (Or.inr rfl) (pe_call G_l_numbers hr_l_numbers rfl T.m_l_numbers T.k_l_numbers T.b_l_numbers .nil pass0 (pa_cons (pv 0) (pa_cons (pv 3) (pa_cons (pe_ix (ix_tupK K) (pv 2) pe_int (fun _ _ => rfl)) pa_nil)))))
  (pss_cons (ps_defK (i := 6) (T := a.t_l_due) (L := Ldu) sc_l_due.nd rfl (Or.inl rfl) rfl T.h_l_due hB rfl rfl rfl rfl (List.mem_cons_self) (apart1 _))
  (pss_cons (ps_asg (pe_callW (k := 2) (fun _ => rfl) hr rfl T.m_l_grown T.k_l_grown T.b_l_grown (pa_cons (pe_tup (pa_cons pe_int (pa_cons pe_int pa_nil))) (pa_cons (pe_callB (call_lenK K) (by rfl) T.z_len bt_len (pa_cons (pv 4) pa_nil)) (pa_cons (pv 6) (pa_cons pe_int pa_nil))))) (pg_tup rfl (pgs_cons (pg_name (i := 7) sc_l_due.nd rfl (Or.inl rfl)) (pgs_cons (pg_name (i := 8) sc_l_due.nd rfl (Or.inl rfl)) pgs_nil))))
  (pss_one (ps_ret (pe_tup (pa_cons (pv 3) (pa_cons (pv 7) (pa_cons (pv 8) pa_nil))))))))))), ?_⟩
  have big : (10000 : Nat) ≤ sizeLine := by decide
  refine hideS fun Y hY => ?_
  refine ⟨_, rfl, m1, _, _, .ref n1, rfl, rfl, .of a1, atI_nat (j := 0) rfl, _, rfl, m2, _, _, .ref n2, rfl, rfl, .of b1, atI_nat (j := 0) rfl, n2, rfl, ⟨_, .of en2⟩, fun C hC => ?_⟩
  refine comp_tup (xs := ts.map V.str) (fun j σ H' => ∃ v : Option V, σ = [v, some (.ref m1)] ∧ Same H H' ∧ H' C = some (.lst ((restN ss (ts.take j)).map V.str)))
   ⟨none, ?sg, Same.new hC, upd_same⟩ (by rintro j σ H' _ ⟨_, _, s, _⟩; exact .of (s _ _ en2)) ?_ ?_
  case sg => rfl
  ·rintro j x σ H' hx ⟨v, rfl, s', c'⟩
   obtain ⟨t, rfl, et⟩ := strItem hx
   have hj := (List.getElem?_eq_some_iff.mp et).1
   refine ⟨_, rfl, _, rfl, m1, _, _, .ref n1, rfl, rfl, .of (s' _ _ a1), atI_nat (j := 0) rfl, n1, _, rfl, .inr (.of (s' _ _ en1)), rfl, strflat _, _, rfl, ?_⟩
   rw [if_pos rfl, inV_strs]
   by_cases hm : t ∈ ss
   ·rw [decide_eq_true hm]
    refine iteF ?_
    refine ⟨some (.str t), rfl, s', ?_⟩
    rw [take_snoc et, restN_in hm]; exact c'
   ·rw [decide_eq_false hm]
    refine iteT ?_
    refine ⟨_, rfl, _, c', ?_, some (.str t), rfl, s'.kbn hC KB.write, ?_⟩
    ·have := restN_len ss (ts.take j)
     rw [List.length_take] at this
     rw [List.length_map]; omega
    ·rw [upd_same, take_snoc et, restN_out hm, List.map_append]; rfl
  rintro σ H1 ⟨v, rfl, s1, c1⟩
  rw [List.length_map, List.take_length] at c1
  refine ⟨C, _, rfl, .inl ⟨.of c1, fun R1 hR1 => ?_⟩⟩
  have sR := s1.trans (Same.new (o := .tup ((restN ss ts).map V.str)) hR1)
  have lr := restN_len ss ts
  refine ⟨n1, R1, ss.map V.str, (restN ss ts).map V.str, rfl, rfl, sR _ _ en1, upd_same, by rw [List.length_map, List.length_map]; omega, fun p Hp sp ep => ?_⟩
  rw [← List.map_append] at ep
  refine ⟨p, ss ++ restN ss ts, rfl, .of ep, by rw [List.length_append]; omega, fun L us hL perm sru => ?_⟩
  have sL := Same.new (o := .lst (us.map V.str)) hL
  refine ⟨L, _, rfl, .inl ⟨.of upd_same, fun N hN => ?_⟩⟩
  have sN := Same.new (o := .tup (us.map V.str)) hN
  have s2 := ((sR.trans sp).trans sL).trans sN
  have eN : (upd (upd Hp L (.lst (us.map V.str))) N (.tup (us.map V.str))) N = some (.tup (us.map V.str)) := upd_same
  have mem : ∀ y, y ∈ us ↔ y ∈ ss ∨ y ∈ ts := fun y => by
   rw [perm.mem_iff, List.mem_append, mem_restN]
   by_cases z : y ∈ ss
   ·simp [z]
   ·simp [z]
  have ndu : us.Nodup := perm.nodup_iff.mpr (List.nodup_append.mpr ⟨nds, List.Pairwise.sublist List.filter_sublist ndt, fun x hx y hy e => (mem_restN.mp hy).2 (e ▸ hx)⟩)
  have lu := union_len ndu mem
  have o1 := ownF_eq sru ndu srs nds fun t z => (mem t).mpr (.inl z)
  have o2 := ownF_eq sru ndu srt ndt fun t z => (mem t).mpr (.inr z)
  generalize upd (upd Hp L (.lst (us.map V.str))) N (.tup (us.map V.str)) = H2 at s2 eN ⊢
  dsimp only [gName]
  subst hY
  refine hideS fun Y hY => ?_
  refine ⟨_, rfl, _, rfl, _, rfl, m1, _, _, .ref n1, rfl, rfl, .of (s2 _ _ a1), atI_nat (j := 0) rfl, b, N, n1, us, ss, rfl, by omega, hb4, by omega, ndu, eN, s2 _ _ en1, fun lf H3 hlf s3 elf => ?_⟩
  rw [o1] at elf
  dsimp only [gName]
  subst hY
  refine hideS fun Y hY => ?_
  have s23 := s2.trans s3
  refine ⟨_, rfl, _, rfl, _, rfl, m2, _, _, .ref n2, rfl, rfl, .of (s23 _ _ b1), atI_nat (j := 0) rfl, b, N, n2, us, ts, rfl, by omega, hb4, by omega, ndu, s3 _ _ eN, s23 _ _ en2, fun rt H4 hrt s4 ert => ?_⟩
  rw [o2] at ert
  have s24 := s23.trans s4
  have ev4 : EvB m1 y1 v1 m2 y2 v2 ps1 ps2 n1 n2 bs1 bs2 mv1 mv2 lf rt (ownL b us ss) (ownL b us ts) H4 := ⟨s24 _ _ a1, s24 _ _ a2, s24 _ _ a3, a4.keep s24.kt, s24 _ _ b1, s24 _ _ b2, s24 _ _ b3, b4.keep s24.kt, s4 _ _ elf, ert⟩
  have tb4 := tb.same s24
  have eN4 := s4 _ _ (s3 _ _ eN)
  dsimp only [gName]
  subst hY
  refine hideS fun Y hY => ?_
  refine ⟨tb4.du, fun f c' ctv doc H5 hf ef ec tab5 kb5 => ?_⟩
  have k5 : KX a H4 H5 := KX.kb tb4.du kb5
  have tb5 : TB a H5 := tb4.kdu T kb5 tab5
  have eN5 := k5.kt _ _ eN4
  have ev5 := ev4.keep k5.kt fun b xs z _ => k5 _ _ z fun _ y => nomatch y
  dsimp only
  subst hY
  refine hideS fun Y hY => ?_
  refine ⟨by show 2 ≤ sizeLine; decide, fun z hz => ?_⟩
  have sz := Same.new (o := .tup [.int ((0 : Nat) : Int), .int ((0 : Nat) : Int)]) hz
  have ez : (upd H5 z (.tup [.int ((0 : Nat) : Int), .int ((0 : Nat) : Int)])) z = some (.tup [.int ((0 : Nat) : Int), .int ((0 : Nat) : Int)]) := upd_same
  have eN6 := sz _ _ eN5
  have ev6 := ev5.same sz
  have tb6 := tb5.same sz
  have ef6 := sz _ _ ef
  have ec6 := sz _ _ ec
  have k6 : KX a H (upd H5 z (.tup [.int ((0 : Nat) : Int), .int ((0 : Nat) : Int)])) := (KX.same s24).trans (k5.trans (KX.same sz))
  generalize upd H5 z (.tup [.int ((0 : Nat) : Int), .int ((0 : Nat) : Int)]) = H6 at sz ez eN6 ev6 tb6 ef6 ec6 k6 ⊢
  refine ⟨_, rfl, _, b ^ us.length, rfl, .inl ⟨_, .of ev6.l, by rw [List.length_map, castI_len, ownL_len]⟩, _, rfl, ?_⟩
  have hD : ∀ x ∈ [f, c'], ∃ φ, H6 x = some (.ext φ) := fun x hx => by
   simp only [List.mem_cons, List.not_mem_nil, or_false] at hx
   rcases hx with z | z <;> subst z
   ·exact ⟨_, ef6⟩
   ·exact ⟨_, ec6⟩
  refine ⟨[f, c'], hD, fun base' W => ?_⟩
  have hb0 : 0 < b := by omega
  have F1 : FnAt P w K mg base' 1 f 2 (spOn repT (b ^ us.length) (onB mv1 mv2 (ownL b us ss) (ownL b us ts)) (OkB bs1.length bs2.length) (EvB m1 y1 v1 m2 y2 v2 ps1 ps2 n1 n2 bs1 bs2 mv1 mv2 lf rt (ownL b us ss) (ownL b us ts))) := by
   refine FnAt.defn (k := 0) W ef6 (by simp) ec6 (by simp) (ps := ["_law_room", "_law_k"]) (frn := ["_law_firsts", "_law_one", "_law_other", "_law_seconds"]) (ls := []) (fvs := [.ref lf, .ref m1, .ref m2, .ref rt]) (LamScope.mk' rfl rfl rfl (by decide +kernel) (by decide +kernel) (by decide +kernel) (by decide +kernel) (by decide +kernel))
    (List.forall_mem_cons.mpr ⟨rfl, List.forall_mem_cons.mpr ⟨rfl, List.forall_mem_cons.mpr ⟨rfl, List.forall_mem_cons.mpr ⟨rfl, fun _ h => nomatch h⟩⟩⟩⟩) (.cons ⟨4, rfl, rfl, rfl, rfl⟩ (.cons ⟨1, rfl, rfl, rfl, rfl⟩ (.cons ⟨2, rfl, rfl, rfl, rfl⟩ (.cons ⟨5, rfl, rfl, rfl, rfl⟩ .nil)))) (fun us hl => match us, hl with | [_, _], _ => rfl) (fun vs H Q E h => ?_) (fun A outer s H vs Q E hr h => ?_)
   ·obtain ⟨x, v, c, rfl, _⟩ := h
    rfl
   ·obtain ⟨x, v, c, rfl, ⟨pp, rfl, ep⟩, ⟨i, j, rfl, hi, hj⟩, hc, ev, kk⟩ := h
    have ep' : H pp = some (.tup [.int (i : Nat), .int (j : Nat)]) := ep
    have hl1 : (ownL b us ss).getD c 0 < b ^ ss.length := own_lt hb0 hc
    have hl2 : (ownL b us ts).getD c 0 < b ^ ts.length := own_lt hb0 hc
    obtain ⟨r1, r2, r3⟩ := mo1.row ev.a4 hi
    obtain ⟨t1, t2, t3⟩ := mo2.row ev.b4 hj
    refine ⟨_, pss_one (ps_ret (pe_tup (pa_cons (pe_ix (ix_tupK K) (pe_ix (ix_tupK K) (pe_ix (ix_tupK K) (pv 3) pe_int (fun _ _ => rfl)) (pe_ix (ix_tupK K) (pv 0) pe_int (fun _ _ => rfl)) (fun _ _ => rfl)) (pe_ix (ix_listK K) (pv 2) (pv 1) (fun _ _ => rfl)) (fun _ _ => rfl)) (pa_cons (pe_ix (ix_tupK K) (pe_ix (ix_tupK K) (pe_ix (ix_tupK K) (pv 4) pe_int (fun _ _ => rfl)) (pe_ix (ix_tupK K) (pv 0) pe_int (fun _ _ => rfl)) (fun _ _ => rfl)) (pe_ix (ix_listK K) (pv 5) (pv 1) (fun _ _ => rfl)) (fun _ _ => rfl)) pa_nil)))), ?_⟩
    refine ⟨_, rfl, m1, _, _, .ref v1, rfl, rfl, .of ev.a1, atI_nat (j := 2) rfl, _, rfl, pp, _, _, .int (i : Nat), rfl, rfl, .of ep', atI_nat (j := 0) rfl, v1, _, _, .ref (ps1.getD i 0), rfl, rfl, .of ev.a3, atI_nat (by rw [List.getElem?_map, r1]; rfl), _, rfl, _, rfl, lf, _, _, .int ((ownL b us ss).getD c 0 : Nat), rfl, rfl, .of ev.l, atI_nat (castI_item (by rw [ownL_len]; exact hc)), ps1.getD i 0, _, _, .int (stp mv1 i ((ownL b us ss).getD c 0) : Nat), rfl, rfl, .of r2, atI_nat (castI_item (by rw [r3]; exact hl1)), ?_⟩
    refine ⟨_, rfl, m2, _, _, .ref v2, rfl, rfl, .of ev.b1, atI_nat (j := 2) rfl, _, rfl, pp, _, _, .int (j : Nat), rfl, rfl, .of ep', atI_nat (j := 1) rfl, v2, _, _, .ref (ps2.getD j 0), rfl, rfl, .of ev.b3, atI_nat (by rw [List.getElem?_map, t1]; rfl), _, rfl, _, rfl, rt, _, _, .int ((ownL b us ts).getD c 0 : Nat), rfl, rfl, .of ev.r, atI_nat (castI_item (by rw [ownL_len]; exact hc)), ps2.getD j 0, _, _, .int (stp mv2 j ((ownL b us ts).getD c 0) : Nat), rfl, rfl, .of t2, atI_nat (castI_item (by rw [t3]; exact hl2)), by show 2 ≤ sizeLine; omega, fun t ht => ?_⟩
    exact kk (.ref t) _ (Same.new ht) ⟨t, rfl, upd_same⟩
  have okS : ∀ x c, OkB bs1.length bs2.length x → c < b ^ us.length → OkB bs1.length bs2.length (onB mv1 mv2 (ownL b us ss) (ownL b us ts) x c) := fun x c ⟨i, j, e, hi, hj⟩ hc => by
   subst e
   exact ⟨_, _, rfl, mo1.stp hi (own_lt hb0 hc), mo2.stp hj (own_lt hb0 hc)⟩
  have ktu : KTu H6 (untr [f, c'] H6) := fun b xs z => untr_get hD z (fun _ y => nomatch y)
  have hB4 : b ^ us.length ≤ 256 := small_pow hb4 (by omega)
  refine ⟨_, ok_l_grown (k := 1) T repT F1 okS (fun H H' e s => e.same s), ?_⟩
  have bdd : ∀ l : List (List Nat), l.Nodup → (∀ x ∈ l, ∃ w, Word (b ^ us.length) w ∧ x = runA (onB mv1 mv2 (ownL b us ss) (ownL b us ts)) [0, 0] w) → l.length ≤ bs1.length * bs2.length := fun l nd hl => okB_few nd fun x hx => by
   obtain ⟨w, hw, rfl⟩ := hl x hx
   exact okB_run okS ⟨0, 0, rfl, p1, p2⟩ hw
  refine ⟨[0, 0], .ref z, 2000, bs1.length * bs2.length, rfl, ⟨z, rfl, ktu _ _ ez⟩, ⟨0, 0, rfl, p1, p2⟩, ev6.untr hD, bdd, few, by omega, by omega, fun xs mv vs p Rr va ps H7 s7 hl gr ep eR rp eva tp n7 => ?_⟩
  have s8 := retr_same s7
  have o7 : ∀ {b : Addr} {o : HO}, H7 b = some o → retr [f, c'] H6 H7 b = some o := fun {b o} e => by
   rw [retr_out fun z => ?_]
   ·exact e
   ·rw [n7 b z] at e; cases e
  have kt7 : KTu H7 (retr [f, c'] H6 H7) := fun b xs z => o7 z
  have ep8 := o7 ep
  have eR8 := o7 eR
  have ev8 := o7 eva
  have tp8 := tp.keep kt7
  have rp8 := rp.keep kt7
  generalize retr [f, c'] H6 H7 = H8 at s8 ep8 eR8 ev8 tp8 rp8 ⊢
  refine ⟨p, _, rfl, .of ep8, rfl, _, _, rfl, _, _, rfl, rfl, ?_⟩
  dsimp only [gName]
  subst hY
  refine ⟨_, rfl, _, rfl, _, rfl, by show 3 ≤ sizeLine; decide, fun t ht => ?_⟩
  have st := Same.new (o := .tup [.ref N, .ref Rr, .ref va]) ht
  have s9 := s8.trans st
  exact q t N Rr va us vs ps xs mv _ ndu mem sru (k6.trans (KX.same s9)) (tb6.same s9) upd_same (s9 _ _ eN6) (st _ _ eR8) (rp8.keep st.kt) (st _ _ ev8) (tp8.keep st.kt) hl (bdd xs gr.once gr.reach) gr
end
end My
namespace My
open PySem L2
def wtext (l : List Nat) : Str := ⟨(l.map (97 + ·)).toArray⟩
def abcS : Str := "abcdefghijklmnopqrstuvwxyz"
theorem abcS_len : abcS.length ≤ sizeLine := by
 have : abcS.length = 26 := by decide +kernel
 rw [this]; decide
theorem abc_occ : ∀ c, c < 26 → Builtin.Str.occurrences abcS ⟨#[97 + c]⟩ 0 abcS.length 1 = [c] := by decide +kernel
theorem abc_ix : ∀ c, c < 26 → abcS.cps.toList[c]? = some (97 + c) := by decide +kernel
theorem wtext_append (a b : List Nat) : wtext a ++ wtext b = wtext (a ++ b) := by
 show (⟨_⟩ : Str) = ⟨_⟩
 simp [wtext]
theorem wtext_len (l : List Nat) : (wtext l).length = l.length := by
 show (l.map (97 + ·)).toArray.size = _
 rw [List.size_toArray, List.length_map]
theorem wtext_inj {a b : List Nat} (h : wtext a = wtext b) : a = b := by
 have h1 : (a.map (97 + ·)).toArray = (b.map (97 + ·)).toArray := congrArg Str.cps h
 have h2 : a.map (97 + ·) = b.map (97 + ·) := congrArg Array.toList h1
 exact (List.map_inj_right (fun x y z => by omega)).mp h2
theorem wtext_ascii {l : List Nat} (h : ∀ c ∈ l, c < 26) : (wtext l).cps.all (· < 128) = true := by
 unfold wtext
 rw [List.all_toArray, List.all_map, List.all_eq_true]
 intro c hc
 exact decide_eq_true (by have := h c hc; show 97 + c < 128; omega)
theorem revStr_wtext (l : List Nat) : revStr (wtext l) = wtext l.reverse := by
 show (⟨_⟩ : Str) = ⟨_⟩
 simp [wtext]
theorem wtext_get {l : List Nat} {i x : Nat} (h : (wtext l).cps[i]? = some x) : ∃ c, l[i]? = some c ∧ x = 97 + c := by
 have h1 : (l.map (97 + ·))[i]? = some x := by
  rw [← h]
  show _ = (l.map (97 + ·)).toArray[i]?
  rw [List.getElem?_toArray]
 rw [List.getElem?_map] at h1
 obtain ⟨c, hc, e⟩ := Option.map_eq_some_iff.mp h1
 exact ⟨c, hc, e.symm⟩
def aftGo : List Nat → List Nat × Nat
 | [] => ([], 1)
 | c :: cs => (((c + (aftGo cs).2) % 26) :: (aftGo cs).1, (c + (aftGo cs).2) / 26)
theorem aftGo_len : ∀ l, (aftGo l).1.length = l.length
 | [] => rfl
 | c :: cs => by rw [aftGo, List.length_cons, List.length_cons, aftGo_len cs]
theorem aftGo_more : ∀ {l}, (∀ c ∈ l, c < 26) → (aftGo l).2 ≤ 1
 | [], _ => Nat.le_refl _
 | c :: cs, h => by
  have h1 := aftGo_more (l := cs) fun x hx => h x (List.mem_cons_of_mem _ hx)
  have h2 := h c List.mem_cons_self
  show (c + (aftGo cs).2) / 26 ≤ 1
  omega
theorem aftGo_lt : ∀ {l}, (∀ c ∈ l, c < 26) → ∀ c ∈ (aftGo l).1, c < 26
 | [], _, c, hc => by cases hc
 | c :: cs, h, x, hx => by
  rcases List.mem_cons.mp (show x ∈ ((c + (aftGo cs).2) % 26) :: (aftGo cs).1 from hx) with e | e
  ·omega
  ·exact aftGo_lt (l := cs) (fun y hy => h y (List.mem_cons_of_mem _ hy)) x e
def aft (l : List Nat) : List Nat := ((aftGo l).1 ++ List.replicate (aftGo l).2 0).take 3
structure NWord (l : List Nat) : Prop where
 ne : 0 < l.length
 le : l.length ≤ 3
 lt : ∀ c ∈ l, c < 26
def rk : List Nat → Nat
 | [a] => a
 | [a, b] => 26 + 26 * a + b
 | [a, b, c] => 702 + 676 * a + 26 * b + c
 | _ => 0
theorem NWord.cases {l : List Nat} (h : NWord l) : (∃ a, l = [a] ∧ a < 26) ∨ (∃ a b, l = [a, b] ∧ a < 26 ∧ b < 26) ∨ ∃ a b c, l = [a, b, c] ∧ a < 26 ∧ b < 26 ∧ c < 26 := by
 have h1 := h.ne
 have h2 := h.le
 have h3 := h.lt
 match l, h1, h2, h3 with
 | [a], _, _, h3 => exact .inl ⟨a, rfl, h3 a (by simp)⟩
 | [a, b], _, _, h3 => exact .inr (.inl ⟨a, b, rfl, h3 a (by simp), h3 b (by simp)⟩)
 | [a, b, c], _, _, h3 => exact .inr (.inr ⟨a, b, c, rfl, h3 a (by simp), h3 b (by simp), h3 c (by simp)⟩)
 | _ :: _ :: _ :: _ :: _, _, h2, _ => simp at h2
theorem aft_rk {l : List Nat} (h : NWord l) : rk (aft l) % 17576 = (rk l + 1) % 17576 := by
 rcases h.cases with ⟨a, rfl, ha⟩ | ⟨a, b, rfl, ha, hb⟩ | ⟨a, b, c, rfl, ha, hb, hc⟩
 ·have e : (a + 1) / 26 = 0 ∨ (a + 1) / 26 = 1 := by omega
  have E : aft [a] = ([(a + 1) % 26] ++ List.replicate ((a + 1) / 26) 0).take 3 := rfl
  rcases e with e | e <;> rw [E, e]
  ·show ((a + 1) % 26) % 17576 = (a + 1) % 17576
   omega
  ·show (26 + 26 * ((a + 1) % 26) + 0) % 17576 = (a + 1) % 17576
   omega
 ·have e : (a + (b + 1) / 26) / 26 = 0 ∨ (a + (b + 1) / 26) / 26 = 1 := by omega
  have E : aft [a, b] = ([(a + (b + 1) / 26) % 26, (b + 1) % 26] ++ List.replicate ((a + (b + 1) / 26) / 26) 0).take 3 := rfl
  rcases e with e | e <;> rw [E, e]
  ·show (26 + 26 * ((a + (b + 1) / 26) % 26) + (b + 1) % 26) % 17576 = (26 + 26 * a + b + 1) % 17576
   omega
  ·show (702 + 676 * ((a + (b + 1) / 26) % 26) + 26 * ((b + 1) % 26) + 0) % 17576 = (26 + 26 * a + b + 1) % 17576
   omega
 ·have e : (a + (b + (c + 1) / 26) / 26) / 26 = 0 ∨ (a + (b + (c + 1) / 26) / 26) / 26 = 1 := by omega
  have E : aft [a, b, c] = ([(a + (b + (c + 1) / 26) / 26) % 26, (b + (c + 1) / 26) % 26, (c + 1) % 26] ++ List.replicate ((a + (b + (c + 1) / 26) / 26) / 26) 0).take 3 := rfl
  have G : rk [(a + (b + (c + 1) / 26) / 26) % 26, (b + (c + 1) / 26) % 26, (c + 1) % 26] % 17576 = (702 + 676 * a + 26 * b + c + 1) % 17576 := by
   show (702 + 676 * ((a + (b + (c + 1) / 26) / 26) % 26) + 26 * ((b + (c + 1) / 26) % 26) + (c + 1) % 26) % 17576 = _
   omega
  rcases e with e | e <;> rw [E, e] <;> exact G
theorem aft_word {l : List Nat} (h : NWord l) : NWord (aft l) := by
 have h1 := aftGo_len l
 have h0 := h.ne
 refine ⟨?_, ?_, fun c hc => ?_⟩
 ·rw [aft, List.length_take, List.length_append, h1]; omega
 ·rw [aft, List.length_take]; omega
 ·rcases List.mem_append.mp (List.mem_of_mem_take hc) with z | z
  ·exact aftGo_lt h.lt c z
  ·rw [(List.mem_replicate.mp z).2]; decide
theorem slice3 (l : List Nat) (h0 : 0 < l.length) (h : l.length ≤ 4) : Txt.slice (wtext l) none (some 3) = wtext (l.take 3) := by
 match l, h0, h with
 | [a], _, _ => with_unfolding_all rfl
 | [a, b], _, _ => with_unfolding_all rfl
 | [a, b, c], _, _ => with_unfolding_all rfl
 | [a, b, c, d], _, _ => with_unfolding_all rfl
theorem mul_a (n : Nat) (h : n ≤ 1) : Txt.mul "a" (n : Int) = wtext (List.replicate n 0) := by
 match n, h with
 | 0, _ => with_unfolding_all rfl
 | 1, _ => with_unfolding_all rfl
theorem join_w (l : List Nat) (h : l.length ≤ 3) : Txt.join "" (l.map fun c => wtext [c]) = wtext l := by
 match l, h with
 | [], _ => with_unfolding_all rfl
 | [a], _ => with_unfolding_all rfl
 | [a, b], _ => with_unfolding_all rfl
 | [a, b, c], _ => with_unfolding_all rfl
 | _ :: _ :: _ :: _ :: _, h => simp at h
inductive spAfterI (vs : List V) (H : Hp) (Q : VK) (E_3 : XK) : Prop where
 | mk (l : List Nat) (h0_ : vs = [.str (wtext l)]) (h1_ : NWord l) (h2_ : Q (.str (wtext (aft l))) H)
def spAfter : Sp := fun vs H Q E_3 => spAfterI vs H Q E_3
section
variable {P : Program} {w : World} {K : PySem.W.Frag} {mg : Str → Option Value} {base : Heap}
theorem sc_l_after : FnScope ["_law_word", "_law_letters_here", "_law_found", "_law_more", "_law_sign", "_law_number"] ["_law_word"] (defScope s_l_after) := ⟨rfl, rfl, rfl, by decide +kernel, rfl, by decide +kernel, by decide +kernel⟩
theorem ok_l_after {a : Adr} (T : Txt K mg a) : FnOk P w K mg base CX0 1 a.f_l_after a.fd_l_after ["_law_word"] spAfter := by
 refine T.F_l_after.ok sc_l_after (fun vs H Q E h => ?_) (fun cdv A outer s H vs Q E hr h => ?_)
 ·obtain ⟨l, rfl, _⟩ := h
  rfl
 ·obtain ⟨l, rfl, hw, k⟩ := h
  refine ⟨_, (pss_cons (ps_set (i := 1) sc_l_after.nd rfl (Or.inl rfl) pe_str)
  (pss_cons (ps_set (i := 2) sc_l_after.nd rfl (Or.inl rfl) pe_str)
  (pss_cons (ps_set (i := 3) sc_l_after.nd rfl (Or.inl rfl) pe_int)
  (pss_cons (ps_for PassesOwn.never rfl (pi_str (pe_revS (pv 0) po_none po_none (po_some (pe_un un_neg pe_int)))) (pg_name (i := 4) sc_l_after.nd rfl (Or.inl rfl))
   (pss_cons (ps_set (i := 5) sc_l_after.nd rfl (Or.inl rfl) (pe_op op_add (pe_bm PySem.F.plainAttrs_str PySem.F.slot_str_index PySem.F.type_str_index mt_index (pv 1) (pa_cons (pv 4) pa_nil)) (pv 3)))
   (pss_cons (ps_set (i := 2) sc_l_after.nd rfl (Or.inl rfl) (pe_op op_add_str (pe_ix ix_str (pv 1) (pe_op op_modP (pv 5) pe_int) (fun _ _ => rfl)) (pv 2)))
   (pss_one (ps_set (i := 3) sc_l_after.nd rfl (Or.inl rfl) (pe_op op_fdivB (pv 5) pe_int))))))
  (pss_one (ps_ret (pe_slice sl_str (pe_op op_add_str (pv 2) (pe_op op_mulS pe_str (pv 3))) po_none (po_some pe_int)))))))), ?_⟩
  have lw := wtext_len l
  have le3 := hw.le
  have big : (100 : Nat) ≤ sizeLine := by decide
  dsimp only [tSeq, tAsg, tC, gName]
  refine ⟨_, rfl, _, rfl, _, rfl, wtext l, rfl, rfl, rfl, rfl, by omega, revStr (wtext l), rfl, ?asc, for_str (fun i σ H' => ∃ v4 v5 : Option V, σ = [some (.str (wtext l)), some (.str abcS), some (.str (wtext (aftGo (l.drop (l.length - i))).1)), some (.int ((aftGo (l.drop (l.length - i))).2 : Nat)), v4, v5] ∧ H' = H)
   ⟨none, none, ?st, rfl⟩ ?_ ?_⟩
  case asc => rw [revStr_wtext]; exact wtext_ascii fun c hc => hw.lt c (List.mem_reverse.mp hc)
  case st => rw [Nat.sub_zero, List.drop_length]; rfl
  ·rintro i x σ H1 hx ⟨v4, v5, rfl, rfl⟩
   rw [revStr_wtext] at hx
   obtain ⟨c, hc, rfl⟩ := wtext_get hx
   have hi : i < l.length := by have := (List.getElem?_eq_some_iff.mp hc).1; rwa [List.length_reverse] at this
   rw [List.getElem?_reverse hi] at hc
   have hc26 := hw.lt c (List.mem_of_getElem? hc)
   have ed : l.drop (l.length - (i + 1)) = c :: l.drop (l.length - i) := by
    have h1 : l.length - (i + 1) = l.length - 1 - i := by omega
    have h2 : l.length - i = l.length - 1 - i + 1 := by omega
    rw [h1, h2]
    exact List.drop_eq_getElem?_toList_append.trans (by rw [hc]; rfl)
   have hm := aftGo_more (l := l.drop (l.length - i)) fun x hx => hw.lt x (List.mem_of_mem_drop hx)
   have hlen := aftGo_len (l.drop (l.length - i))
   rw [List.length_drop] at hlen
   have ea : aftGo (c :: l.drop (l.length - i)) = (((c + (aftGo (l.drop (l.length - i))).2) % 26) :: (aftGo (l.drop (l.length - i))).1, (c + (aftGo (l.drop (l.length - i))).2) / 26) := rfl
   rw [ed, ea]
   generalize aftGo (l.drop (l.length - i)) = g at hm hlen ⊢
   have eN : ((c : Int) + (g.2 : Int)) % 26 = (((c + g.2) % 26 : Nat) : Int) := by rw [Int.natCast_emod, Int.natCast_add]; rfl
   have eD : ((c : Int) + (g.2 : Int)) / 26 = (((c + g.2) / 26 : Nat) : Int) := by rw [Int.natCast_ediv, Int.natCast_add]; rfl
   refine ⟨_, rfl, rfl, _, rfl, abcS, ⟨#[97 + c]⟩, c, [], rfl, rfl, abc_occ c hc26, _, rfl, _, _, rfl, rfl, ?_⟩
   refine ⟨_, rfl, _, rfl, _, _, rfl, rfl, cpos (by decide), abcS, _, 97 + (c + g.2) % 26, rfl, rfl, abcS_len, by rw [eN]; exact atI_nat (abc_ix _ (Nat.mod_lt _ (by decide))), _, rfl, _, _, rfl, rfl, ?len, _, rfl, _, _, rfl, rfl, ⟨by decide, by decide⟩, ?_⟩
   case len =>
    have e1 : Str.length (⟨#[97 + (c + g.2) % 26]⟩ : Str) = 1 := rfl
    rw [e1, wtext_len]
    omega
   refine ⟨some (.str ⟨#[97 + c]⟩), some (.int ((c : Int) + (g.2 : Int))), ?_, rfl⟩
   show [some (V.str (wtext l)), some (V.str abcS), some (V.str ((⟨#[97 + (c + g.2) % 26]⟩ : Str) ++ wtext g.1)), some (V.int (((c : Int) + (g.2 : Int)) / 26)), some (V.str ⟨#[97 + c]⟩), some (V.int ((c : Int) + (g.2 : Int)))] = _
   have e2 : (⟨#[97 + (c + g.2) % 26]⟩ : Str) ++ wtext g.1 = wtext (((c + g.2) % 26) :: g.1) := wtext_append [(c + g.2) % 26] g.1
   rw [e2, eD]
  ·rintro σ H1 ⟨v4, v5, rfl, rfl⟩
   have es : (revStr (wtext l)).cps.size = l.length := by
    rw [revStr_wtext]
    exact (wtext_len _).trans List.length_reverse
   rw [es, Nat.sub_self, List.drop_zero]
   have hm := aftGo_more hw.lt
   have hlen := aftGo_len l
   have h0 := hw.ne
   have ef : aft l = ((aftGo l).1 ++ List.replicate (aftGo l).2 0).take 3 := rfl
   rw [ef] at k
   generalize aftGo l = g at hm hlen k ⊢
   refine ⟨_, rfl, _, rfl, "a", (g.2 : Int), rfl, rfl, by omega, by omega, (by show 1 ≤ 1000; decide), _, _, rfl, rfl, ?len, _, rfl, _, rfl, ?len2, ?_⟩
   case len =>
    rw [mul_a _ hm, wtext_len, wtext_len, List.length_replicate]
    omega
   case len2 =>
    rw [mul_a _ hm, wtext_append, wtext_len, List.length_append, List.length_replicate]
    omega
   rw [mul_a _ hm, wtext_append, slice3 _ (by rw [List.length_append]; omega) (by rw [List.length_append, List.length_replicate]; omega)]
   exact k
theorem allflat (l : List Str) : (l.map V.str).all flatV = true := by rw [List.all_map]; exact List.all_eq_true.mpr fun _ _ => rfl
theorem Feed.neF {H : Hp} {F L N : Addr} (h : Feed H F L) (e : H N = none) : N ≠ F ∧ N ≠ L := by
 obtain ⟨ms, n, sd, a, b, _⟩ := h.ex
 exact ⟨(ne_of_none a e).symm, (ne_of_none b e).symm⟩
theorem Feed.lo {H H' : Hp} {F L N : Addr} (h : Feed H' F L) (k : KB2 F L H H') (e : H' N = none) : H N = none := by
 obtain ⟨n1, n2⟩ := h.neF e
 cases z : H N with
 | none => rfl
 | some o => have := k N o z n1 n2; rw [e] at this; cases this
theorem Feed.upd {H : Hp} {F L N : Addr} {o : HO} (h : Feed H F L) (n : N ≠ F ∧ N ≠ L) : Feed (upd H N o) F L := by
 obtain ⟨ms, m, sd, a, b, c⟩ := h.ex
 exact ⟨ms, m, sd, by rw [upd_ne n.1.symm]; exact a, by rw [upd_ne n.2.symm]; exact b, c⟩
theorem KB2.updN {H H' : Hp} {F L N : Addr} {o : HO} (k : KB2 F L H H') (e : H N = none) : KB2 F L H (upd H' N o) := fun b p h n m => by
 rw [upd_ne (ne_of_none h e)]
 exact k b p h n m
theorem or_abs {T : (Bool → Hp → Prop) → Prop} {Qf : Bool → Hp → Prop} {c : Bool} (S : Hp → Prop) (h : ∀ Qc : Bool → Hp → Prop, (∀ H', S H' → Qc c H') → T Qc) (x : ∀ H', S H' → Qf c H') : T Qf := h Qf x
def noWords : List Str := ["and", "not", "or"]
structure NamesOk (ss : List Str) : Prop where
 once : ss.Nodup
 words : ∀ s ∈ ss, ∃ l, NWord l ∧ s = wtext l
 no : ∀ s ∈ ss, s ∉ noWords
theorem NamesOk.perm {ss rs : List Str} (h : NamesOk ss) (p : rs.Perm ss) : NamesOk rs := ⟨p.nodup_iff.mpr h.once, fun s hs => h.words s (p.mem_iff.mp hs), fun s hs => h.no s (p.mem_iff.mp hs)⟩
structure Met (B : List Str) (l : List Nat) (vis : List Str) : Prop where
 once : vis.Nodup
 sub : ∀ v ∈ vis, v ∈ B
 ex : ∃ r0, rk l % 17576 = (r0 + vis.length) % 17576 ∧ ∀ (j : Nat) (v : Str), vis[j]? = some v → ∃ l', v = wtext l' ∧ rk l' % 17576 = (r0 + j) % 17576
theorem Met.step {B : List Str} {l : List Nat} {vis : List Str} (h : Met B l vis) (hw : NWord l) (hB : B.length ≤ 20) (hl : wtext l ∈ B) : Met B (aft l) (vis ++ [wtext l]) := by
 obtain ⟨r0, h1, h2⟩ := h.ex
 have len := nodup_len h.once h.sub
 have fresh : wtext l ∉ vis := fun z => by
  obtain ⟨j, hj⟩ := List.getElem?_of_mem z
  obtain ⟨l', e, e2⟩ := h2 j _ hj
  rw [← wtext_inj e, h1] at e2
  have := (List.getElem?_eq_some_iff.mp hj).1
  omega
 refine ⟨?_, fun v hv => ?_, r0, ?_, fun j v hj => ?_⟩
 ·rw [List.nodup_append]
  exact ⟨h.once, by simp, fun a ha b hb e => fresh (by rw [← List.mem_singleton.mp hb, ← e]; exact ha)⟩
 ·rcases List.mem_append.mp hv with z | z
  ·exact h.sub v z
  ·rw [List.mem_singleton.mp z]; exact hl
 ·rw [aft_rk hw, List.length_append]
  show (rk l + 1) % 17576 = (r0 + (vis.length + 1)) % 17576
  omega
 ·by_cases lt : j < vis.length
  ·rw [List.getElem?_append_left lt] at hj
   exact h2 j v hj
  ·have hl2 := (List.getElem?_eq_some_iff.mp hj).1
   rw [List.length_append] at hl2
   have hl3 : j < vis.length + 1 := hl2
   have e : j = vis.length := by omega
   subst e
   rw [List.getElem?_append_right (Nat.le_refl _), Nat.sub_self] at hj
   have e2 : wtext l = v := Option.some.inj hj
   exact ⟨l, e2.symm, h1⟩
inductive spNamesI (vs : List V) (H : Hp) (Q : VK) (E_3 : XK) : Prop where
 | mk (F L : Addr) (m : Nat) (h0_ : vs = [.ref F, .int m]) (h1_ : Feed H F L) (h2_ : m ≤ 6) (h3_ : ∀ (D : Addr) (ss : List Str) (H' : Hp), H D = none → KB2 F L H H' → Feed H' F L → H' D = some (.tup (ss.map V.str)) → ss.length = m → NamesOk ss → PyProof.Rows.sortedS ss = true → Q (.ref D) H')
def spNames : Sp := fun vs H Q E_3 => spNamesI vs H Q E_3
theorem sc_l_names : FnScope ["_law_feed_here", "_law_many", "_law_found", "_law_k", "_law_signs", "_law_word"] ["_law_feed_here", "_law_many"] (defScope s_l_names) := ⟨rfl, rfl, rfl, by decide +kernel, rfl, by decide +kernel, by decide +kernel⟩
theorem ok_l_names {a : Adr} (T : Txt K mg a) : FnOk P w K mg base CX0 2 a.f_l_names a.fd_l_names ["_law_feed_here", "_law_many"] spNames := by
 have G_l_draw := ok_l_draw (P := P) (w := w) (base := base) T
 have G_l_after := ok_l_after (P := P) (w := w) (base := base) T
 refine T.F_l_names.ok sc_l_names (fun vs H Q E h => ?_) (fun cdv A outer s H vs Q E hr h => ?_)
 ·obtain ⟨F, L, m, rfl, _⟩ := h
  rfl
 ·obtain ⟨F, L, m, rfl, hf, hm, k⟩ := h
  have hr_l_draw : Room 1 _ := hr
  have hr_l_after : Room 1 _ := hr
  refine ⟨_, (pss_cons (ps_set (i := 2) sc_l_names.nd rfl (Or.inl rfl) (pe_lst pa_nil))
  (pss_cons (ps_for PassesOwn.never rfl (pi_range1 rfl T.z_range (pa_cons (pv 1) pa_nil)) (pg_name (i := 3) sc_l_names.nd rfl (Or.inl rfl))
   (pss_cons (ps_setComp (i := 4) (CompScope.mk' (esc := defScope s_l_names) (N := ["_law_feed_here", "_law_many", "_law_found", "_law_k", "_law_signs", "_law_word"]) (own := ["_law_sign"]) (frn := ["_law_feed_here"]) (frj := [0]) rfl rfl (by decide +kernel)) rfl (pi_range1 rfl T.z_range (pa_cons (pe_op op_add pe_int (pe_call G_l_draw hr_l_draw rfl T.m_l_draw T.k_l_draw T.b_l_draw .nil pass0 (pa_cons (pv 0) (pa_cons pe_int pa_nil)))) pa_nil)) (fun _ _ _ _ => (pg_name (i := 0) (show List.Nodup (["_law_sign", "_law_feed_here"] : List Str) by decide +kernel) rfl (Or.inl rfl))) (fun _ _ _ _ => pifs_nil) (fun _ _ _ _ => (pe_call G_l_draw hr_l_draw rfl T.m_l_draw T.k_l_draw T.b_l_draw .nil pass0 (pa_cons (pv 1) (pa_cons pe_int pa_nil)))) sc_l_names.nd rfl rfl)
   (pss_cons (ps_set (i := 5) sc_l_names.nd rfl (Or.inl rfl) (pe_bm PySem.F.plainAttrs_str PySem.F.slot_str_join PySem.F.type_str_join (mt_joinK K) pe_str (pa_cons (pe_comp (CompScope.mk' (esc := defScope s_l_names) (N := ["_law_feed_here", "_law_many", "_law_found", "_law_k", "_law_signs", "_law_word"]) (own := ["_law_sign"]) (frn := []) (frj := []) rfl rfl (by decide +kernel)) rfl (pi_list (pv 4)) (fun _ _ _ _ => (pg_name (i := 0) (show List.Nodup (["_law_sign"] : List Str) by decide +kernel) rfl (Or.inl rfl))) (fun _ _ _ _ => pifs_nil) (fun _ _ _ _ => (pe_ix ix_str pe_str (pv 0) (fun _ _ => rfl)))) pa_nil)))
   (pss_cons (ps_while PassesOwn.never (PW.pt (pw_or (pt_cmpR (op_inK K) (pv 5) (pv 2) (by with_unfolding_all rfl)) (pw_or1 (pt_cmpR (op_inK K) (pv 5) (pe_tup (pa_cons pe_str (pa_cons pe_str (pa_cons pe_str pa_nil)))) (by with_unfolding_all rfl)))))
    (pss_one (ps_set (i := 5) sc_l_names.nd rfl (Or.inl rfl) (pe_call G_l_after hr_l_after rfl T.m_l_after T.k_l_after T.b_l_after .nil pass0 (pa_cons (pv 5) pa_nil)))))
   (pss_one (ps_expr (pe_bm PySem.F.plainAttrs_list PySem.F.slot_list_append PySem.F.type_list_append mt_append (pv 2) (pa_cons (pv 5) pa_nil))))))))
  (pss_one (ps_ret (pe_callTy (call_tupleK K) (by rfl) T.z_tuple bt_tuple (pa_cons (pe_callB (call_sortSK K) (by rfl) T.z_sorted bt_sorted (pa_cons (pv 2) pa_nil)) pa_nil)))))), ?_⟩
  have p3 : (3 : Nat) < 2 ^ 1000 := Nat.lt_of_lt_of_le (show 3 < 2 ^ 2 by decide) (Nat.pow_le_pow_right (by decide) (by decide))
  have p26 : (26 : Nat) < 2 ^ 1000 := Nat.lt_of_lt_of_le (show 26 < 2 ^ 6 by decide) (Nat.pow_le_pow_right (by decide) (by decide))
  have big : (100 : Nat) ≤ sizeLine := by decide
  refine ⟨by decide, fun N hN => ?_⟩
  have nN := hf.neF hN
  refine ⟨_, rfl, _, rfl, by omega, by omega, for_range (n := (m : Int).toNat) (fun i σ H' => ∃ (fs : List Str) (v3 v4 v5 : Option V), σ = [some (.ref F), some (.int (m : Nat)), some (.ref N), v3, v4, v5] ∧ KB2 F L H H' ∧ Feed H' F L ∧ H' N = some (.lst (fs.map V.str)) ∧ fs.length = i ∧ NamesOk fs)
   ⟨[], none, none, none, rfl, (Same.new hN).kb2, hf.same (Same.new hN), upd_same, rfl, ⟨List.nodup_nil, fun s hs => (by cases hs), fun s hs => (by cases hs)⟩⟩ ?_ ?_⟩
  ·rintro i σ H1 hi ⟨fs, v3, v4, v5, rfl, k1, f1, n1, lf, ok⟩
   rw [Int.toNat_natCast] at hi
   refine ⟨_, rfl, F, L, 3, rfl, f1, by decide, p3, fun t H2 t1 k2 f2 => ⟨_, _, rfl, rfl, _, rfl, by omega, by omega, fun C hC => ?_⟩⟩
   have n2 := k2 _ _ n1 nN.1 nN.2
   have nC := f2.neF hC
   have nNC : N ≠ C := ne_of_none n2 hC
   refine comp_range (fun j σ H' => ∃ (rs : List Nat) (v : Option V), σ = [v, some (.ref F)] ∧ KB2 F L H2 H' ∧ Feed H' F L ∧ H' C = some (.lst (rs.map fun r => V.int (r : Nat))) ∧ rs.length = j ∧ ∀ r ∈ rs, r < 26)
    ⟨[], none, rfl, (Same.new hC).kb2, f2.same (Same.new hC), upd_same, rfl, fun r hr => (by cases hr)⟩ ?_ ?_
   ·rintro j σ H3 hj ⟨rs, v, rfl, k3, f3, c3, lr, hrs⟩
    refine ⟨_, rfl, F, L, 26, rfl, f3, by decide, p26, fun r H4 r1 k4 f4 => ?_⟩
    have c4 := k4 _ _ c3 nC.1 nC.2
    refine ⟨_, c4, ?_, rs ++ [r], _, rfl, KB2.updN (k3.trans k4) hC, f4.upd nC, ?_, ?_, fun x hx => ?_⟩
    ·rw [List.length_map]; omega
    ·rw [upd_same, List.map_append]; rfl
    ·rw [List.length_append, lr]; rfl
    ·rcases List.mem_append.mp hx with z | z
     ·exact hrs x z
     ·rw [List.mem_singleton.mp z]; exact r1
   rintro σ H3 ⟨rs, v, rfl, k3, f3, c3, lr, hrs⟩
   have n3 := k3 _ _ n2 nN.1 nN.2
   have lr' : rs.length = t + 1 := by omega
   dsimp only [gName]
   refine ⟨rfl, _, rfl, C, rfl, ⟨_, .of c3⟩, fun D hD => ?_⟩
   refine comp_list (xs := rs.map fun r => V.int (r : Nat)) (fun j σ H' => ∃ (v : Option V), σ = [v] ∧ Same H3 H' ∧ H' D = some (.lst (((rs.take j).map fun c => wtext [c]).map V.str)))
    ⟨none, ?sg, Same.new hD, upd_same⟩ (by rintro j σ H' _ ⟨_, _, s, _⟩; exact .of (s _ _ c3)) ?_ ?_
   case sg => rfl
   ·rintro j y σ H4 hy ⟨v, rfl, s4, e4⟩
    rw [List.getElem?_map] at hy
    obtain ⟨r, er, rfl⟩ := Option.map_eq_some_iff.mp hy
    have hj : j < rs.length := (List.getElem?_eq_some_iff.mp er).1
    refine ⟨_, rfl, abcS, _, 97 + r, rfl, rfl, abcS_len, atI_nat (abc_ix r (hrs r (List.mem_of_getElem? er))), _, e4, ?_, _, rfl, s4.kbn hD KB.write, ?_⟩
    ·rw [List.length_map, List.length_map, List.length_take]; omega
    ·rw [upd_same, take_snoc er, List.map_append, List.map_append]; rfl
   rintro σ H4 ⟨v, rfl, s4, e4⟩
   rw [List.length_map, List.take_length] at e4
   refine ⟨"", D, rs.map fun c => wtext [c], rfl, rfl, .of e4, ?jl, fun z hz hze => ?_⟩
   case jl =>
    have e0 : (Str.length ("" : Str)) = 0 := rfl
    have e1 : ((rs.map fun c => wtext [c]).map (·.length)).sum = rs.length := by
     rw [List.map_map]
     have : (fun c => (wtext [c]).length) = fun _ => 1 := funext fun c => wtext_len [c]
     show (rs.map fun c => (wtext [c]).length).sum = _
     rw [this, List.map_const']
     induction rs.length with
     | zero => rfl
     | succ n ih => rw [List.replicate_succ, List.sum_cons, ih]; omega
    rw [e0, e1]; omega
   rw [join_w rs (by omega)] at hze
   subst hze
   have wd : NWord rs := ⟨by omega, by omega, hrs⟩
   have n4 := s4 _ _ n3
   have k4 : KB2 F L H H4 := ((k1.trans k2).trans k3).trans s4.kb2
   have f4 := f3.same s4
   dsimp only [gName]
   refine while_m (fun mm σ H' => ∃ (l : List Nat) (vis : List Str), mm = 50 - vis.length ∧ σ = [some (.ref F), some (.int (m : Nat)), some (.ref N), some (.int (0 + (i : Int))), some (.ref C), some (.str (wtext l))] ∧ Same H4 H' ∧ NWord l ∧ Met (fs ++ noWords) l vis)
    ⟨_, rs, [], rfl, rfl, .refl _, wd, List.nodup_nil, fun v hv => (by cases hv), rk rs, rfl, fun j v hj => (by simp at hj)⟩ ?_ ?_
   ·rintro mm σ H5 ⟨l, vis, rfl, rfl, s5, hw, met⟩
    have n5 := s5 _ _ n4
    refine or_abs (c := decide (wtext l ∈ fs ++ noWords)) (Same H5) (fun Qc hq => ?_) (fun H6 s6 => ?_)
    ·refine ⟨_, rfl, _, rfl, N, _, rfl, .inl (.of n5), rfl, allflat fs, _, rfl, ?_⟩
     rw [if_neg Bool.false_ne_true, inV_strs]
     refine ite2 (fun z => ?_) (fun z => ?_)
     ·have z' : wtext l ∈ fs := of_decide_eq_true z
      have := hq H5 (.refl _)
      rwa [decide_eq_true (List.mem_append.mpr (.inl z'))] at this
     ·have z' : wtext l ∉ fs := fun y => z (decide_eq_true y)
      refine ⟨_, rfl, by show 3 ≤ sizeLine; decide, fun Z hZ => ⟨Z, _, rfl, .inr (.of upd_same), rfl, rfl, _, rfl, ?_⟩⟩
      have := hq _ (Same.new (o := .tup [.str "and", .str "not", .str "or"]) hZ)
      have ee : decide (wtext l ∈ fs ++ noWords) = (if false = true then !inV (V.str (wtext l)) [.str "and", .str "not", .str "or"] else inV (V.str (wtext l)) [.str "and", .str "not", .str "or"]) := by
       rw [if_neg (by decide), show ([.str "and", .str "not", .str "or"] : List V) = noWords.map V.str from rfl, inV_strs]
       exact decide_eq_decide.mpr ⟨fun y => (List.mem_append.mp y).resolve_left z', fun y => List.mem_append.mpr (.inr y)⟩
      rw [ee] at this
      exact this
    ·refine ite2 (fun z => ?_) (fun z => ?_)
     ·have z' := of_decide_eq_true z
      have lB : (fs ++ noWords).length ≤ 20 := by rw [List.length_append]; show fs.length + 3 ≤ 20; omega
      have met' := met.step hw lB z'
      have lv := nodup_len met.once met.sub
      refine ⟨_, rfl, l, rfl, hw, 50 - (vis ++ [wtext l]).length, ?_, aft l, vis ++ [wtext l], rfl, rfl, s5.trans s6, aft_word hw, met'⟩
      rw [List.length_append]
      show 50 - (vis.length + 1) < _
      omega
     ·have z' : wtext l ∉ fs ++ noWords := fun y => z (decide_eq_true y)
      have n6 := s6 _ _ n5
      refine ⟨_, rfl, .inl ⟨rfl, _, .of n6⟩, _, rfl, N, _, _, rfl, rfl, n6, ?_, fs ++ [wtext l], _, _, _, rfl, ?_, ?_, ?_, ?_, ?_⟩
      ·rw [List.length_map]; omega
      ·exact KB2.updN (k4.trans (s5.trans s6).kb2) hN
      ·exact (f4.same (s5.trans s6)).upd nN
      ·rw [upd_same, List.map_append]; rfl
      ·rw [List.length_append, lf]; rfl
      ·refine ⟨?_, fun s hs => ?_, fun s hs => ?_⟩
       ·rw [List.nodup_append]
        exact ⟨ok.once, by simp, fun a ha b hb e => z' (List.mem_append.mpr (.inl (by rw [← List.mem_singleton.mp hb, ← e]; exact ha)))⟩
       ·rcases List.mem_append.mp hs with y | y
        ·exact ok.words s y
        ·exact ⟨l, hw, List.mem_singleton.mp y⟩
       ·rcases List.mem_append.mp hs with y | y
        ·exact ok.no s y
        ·rw [List.mem_singleton.mp y]; exact fun x => z' (List.mem_append.mpr (.inr x))
   ·rintro σ H Q Q' hQ ⟨v, e1, v2, e2, a, xs, e3, e4, e5, e6, b, e7, q⟩
    refine ⟨v, e1, v2, e2, a, xs, e3, e4, e5, e6, b, e7, ?_⟩
    revert q
    cases b with
    | true => exact fun q => hQ _ _ q
    | false =>
     rintro ⟨v, e1, z, q⟩
     refine ⟨v, e1, z, fun p hp => ?_⟩
     obtain ⟨a, xs, e3, e4, e5, e6, b, e7, q⟩ := q p hp
     exact ⟨a, xs, e3, e4, e5, e6, b, e7, hQ _ _ q⟩
  ·rintro σ H1 ⟨fs, v3, v4, v5, rfl, k1, f1, n1, lf, ok⟩
   rw [Int.toNat_natCast] at lf
   refine ⟨_, rfl, N, fs, rfl, .of n1, by omega, fun p ss hp perm srt => ?_⟩
   have sp := Same.new (o := .lst (ss.map V.str)) hp
   refine ⟨p, _, rfl, .inl ⟨.of upd_same, fun D hD => ?_⟩⟩
   have sD := Same.new (o := .tup (ss.map V.str)) hD
   have kk := k1.trans sp.kb2
   have ff := f1.same sp
   exact k D ss _ (ff.lo kk hD) (kk.trans sD.kb2) (ff.same sD) upd_same (by rw [perm.length_eq, lf]) (ok.perm perm) srt
theorem Moves.at {n b : Nat} {mv : List (List Nat)} (h : Moves n b mv) {r f : Nat} (hr : r < n) (hf : f < b) : ((mv.getD r []).getD f 0) < n := by
 have h1 : mv[r]? = some (mv.getD r []) := item_at [] (by rw [h.len]; exact hr)
 obtain ⟨l1, l2⟩ := h.lead _ (List.mem_of_getElem? h1)
 have h2 := item_at 0 (show f < (mv.getD r []).length by omega)
 exact l2 _ (List.mem_of_getElem? h2)
def itr (f : Nat → Nat) : Nat → Nat → Nat
 | 0, x => x
 | k + 1, x => f (itr f k x)
theorem itr_add (f : Nat → Nat) : ∀ a b x, itr f (a + b) x = itr f a (itr f b x)
 | 0, b, x => by rw [Nat.zero_add]; rfl
 | a + 1, b, x => by rw [Nat.succ_add]; exact congrArg f (itr_add f a b x)
theorem itr_lt {f : Nat → Nat} {n : Nat} (h : ∀ x, x < n → f x < n) : ∀ k x, x < n → itr f k x < n
 | 0, x, hx => hx
 | k + 1, x, hx => h _ (itr_lt h k x hx)
theorem pig : ∀ (n : Nat) (g : Nat → Nat), (∀ k, k ≤ n → g k < n) → ∃ i j, i < j ∧ j ≤ n ∧ g i = g j
 | 0, g, h => absurd (h 0 (Nat.le_refl _)) (Nat.not_lt_zero _)
 | n + 1, g, h => by
  by_cases e : ∃ i, i ≤ n ∧ g i = g (n + 1)
  ·obtain ⟨i, hi, e⟩ := e
   exact ⟨i, n + 1, by omega, Nat.le_refl _, e⟩
  ·have ne : ∀ i, i ≤ n → g i ≠ g (n + 1) := fun i hi z => e ⟨i, hi, z⟩
   have hv := h (n + 1) (Nat.le_refl _)
   obtain ⟨i, j, hij, hj, eq⟩ := pig n (fun k => if g (n + 1) < g k then g k - 1 else g k) (fun k hk => by
    have h1 := h k (by omega)
    have h2 := ne k hk
    show (if g (n + 1) < g k then g k - 1 else g k) < n
    split <;> omega)
   refine ⟨i, j, hij, by omega, ?_⟩
   have h1 := ne i (by omega)
   have h2 := ne j hj
   have eq' : (if g (n + 1) < g i then g i - 1 else g i) = (if g (n + 1) < g j then g j - 1 else g j) := eq
   split at eq' <;> split at eq' <;> omega
theorem ring {f : Nat → Nat} {n r : Nat} (h : ∀ x, x < n → f x < n) (hr : r < n) : ∃ p, 0 < p ∧ p ≤ n ∧ itr f p (itr f n r) = itr f n r := by
 obtain ⟨i, j, hij, hj, e⟩ := pig n (fun k => itr f k r) (fun k _ => itr_lt h k r hr)
 refine ⟨j - i, by omega, by omega, ?_⟩
 have e1 : itr f n r = itr f (n - j) (itr f j r) := by rw [← itr_add]; congr 1; omega
 have e2 : itr f (j - i) (itr f n r) = itr f (n - i) (itr f j r) := by rw [e1, ← itr_add]; congr 1; omega
 have e3 : itr f n r = itr f (n - i) (itr f i r) := by rw [← itr_add]; congr 1; omega
 rw [e2, e3]
 exact congrArg _ e.symm
theorem itr_succ' (f : Nat → Nat) : ∀ k x, itr f k (f x) = itr f (k + 1) x
 | 0, _ => rfl
 | k + 1, x => congrArg f (itr_succ' f k x)
def RingAt (f : Nat → Nat) (n x m : Nat) : Prop := (∃ k, m = itr f k (itr f n x)) ∧ ∀ k, m ≤ itr f k (itr f n x)
theorem RingAt.next {f : Nat → Nat} {n x m m' : Nat} (h : ∀ x, x < n → f x < n) (hx : x < n) (a : RingAt f n x m) (b : RingAt f n (f x) m') : m' = m := by
 obtain ⟨p, p0, _, hp⟩ := ring h hx
 have e : itr f n (f x) = f (itr f n x) := itr_succ' f n x
 unfold RingAt at a b
 rw [e] at b
 generalize itr f n x = c at a b hp
 obtain ⟨⟨k1, e1⟩, l1⟩ := a
 obtain ⟨⟨k2, e2⟩, l2⟩ := b
 rw [itr_succ'] at e2
 have h1 := l1 (k2 + 1)
 have h3 : itr f k1 c = itr f (k1 + (p - 1)) (f c) := by
  rw [itr_succ', show k1 + (p - 1) + 1 = k1 + p by omega, itr_add, hp]
 have h2 := l2 (k1 + (p - 1))
 rw [← h3] at h2
 omega
inductive spRingsI (vs : List V) (H : Hp) (Q : VK) (E_3 : XK) : Prop where
 | mk (M : Addr) (ps : List Addr) (n b : Nat) (mv : List (List Nat)) (h0_ : vs = [.ref M]) (h1_ : H M = some (.lst (ps.map V.ref))) (h2_ : Tups H ps (mv.map castI)) (h3_ : Moves n b mv) (h4_ : 0 < b) (h5_ : n ≤ 2000) (h6_ : ∀ (D : Addr) (rs : List Nat) (H' : Hp), H D = none → Same H H' → H' D = some (.lst ((castI rs).map V.int)) → rs.length = n → (∀ r ∈ rs, r < n) → (∀ r, r < n → rs.getD (stp mv r 0) 0 = rs.getD r 0) → Q (.ref D) H')
def spRings : Sp := fun vs H Q E_3 => spRingsI vs H Q E_3
theorem sc_l_rings : FnScope ["_law_moves", "_law_found", "_law_room", "_law_at", "_law_turn", "_law_ring_here"] ["_law_moves"] (defScope s_l_rings) := ⟨rfl, rfl, rfl, by decide +kernel, rfl, by decide +kernel, by decide +kernel⟩
theorem ok_l_rings {a : Adr} (T : Txt K mg a) : FnOk P w K mg base CX0 1 a.f_l_rings a.fd_l_rings ["_law_moves"] spRings := by
 refine T.F_l_rings.ok sc_l_rings (fun vs H Q E h => ?_) (fun cdv A outer s H vs Q E hr h => ?_)
 ·obtain ⟨M, ps, n, b, mv, rfl, _⟩ := h
  rfl
 ·obtain ⟨M, ps, n, b, mv, rfl, eM, tp, hm, hb, hn, k⟩ := h
  refine ⟨_, (pss_cons (ps_set (i := 1) sc_l_rings.nd rfl (Or.inl rfl) (pe_lst pa_nil))
  (pss_cons (ps_for PassesOwn.never rfl (pi_range1 rfl T.z_range (pa_cons (pe_callB (call_lenK K) (by rfl) T.z_len bt_len (pa_cons (pv 0) pa_nil)) pa_nil)) (pg_name (i := 2) sc_l_rings.nd rfl (Or.inl rfl))
   (pss_cons (ps_set (i := 3) sc_l_rings.nd rfl (Or.inl rfl) (pv 2))
   (pss_cons (ps_for PassesOwn.never rfl (pi_list (pv 0)) (pg_name (i := 4) sc_l_rings.nd rfl (Or.inl rfl))
    (pss_one (ps_set (i := 3) sc_l_rings.nd rfl (Or.inl rfl) (pe_ix (ix_tupK K) (pe_ix (ix_listK K) (pv 0) (pv 3) (fun _ _ => rfl)) pe_int (fun _ _ => rfl)))))
   (pss_cons (ps_set (i := 5) sc_l_rings.nd rfl (Or.inl rfl) (pe_lst (pa_cons (pv 3) pa_nil)))
   (pss_cons (ps_while PassesOwn.never (pt_cmpR op_ne (pe_ix (ix_tupK K) (pe_ix (ix_listK K) (pv 0) (pe_ix (ix_listK K) (pv 5) (pe_un un_neg pe_int) (fun _ _ => rfl)) (fun _ _ => rfl)) pe_int (fun _ _ => rfl)) (pv 3) (nomark _))
    (pss_one (ps_expr (pe_bm PySem.F.plainAttrs_list PySem.F.slot_list_append PySem.F.type_list_append mt_append (pv 5) (pa_cons (pe_ix (ix_tupK K) (pe_ix (ix_listK K) (pv 0) (pe_ix (ix_listK K) (pv 5) (pe_un un_neg pe_int) (fun _ _ => rfl)) (fun _ _ => rfl)) pe_int (fun _ _ => rfl)) pa_nil)))))
   (pss_one (ps_expr (pe_bm PySem.F.plainAttrs_list PySem.F.slot_list_append PySem.F.type_list_append mt_append (pv 1) (pa_cons (pe_callB (call_minL K rfl) (by rfl) T.z_min bt_min (pa_cons (pv 5) pa_nil)) pa_nil)))))))))
  (pss_one (ps_ret (pv 1))))), ?_⟩
  have big : (10000 : Nat) ≤ sizeLine := by decide
  have lp : ps.length = n := by rw [Paired.length tp, List.length_map, hm.len]
  let f : Nat → Nat := fun x => (mv.getD x []).getD 0 0
  have hf : ∀ x, x < n → f x < n := fun x hx => hm.at hx hb
  have look : ∀ {H' : Hp} (x : Nat), Same H H' → x < n → SqL K H' M (ps.map V.ref) ∧ atI (ps.map V.ref) (x : Int) = some (.ref (ps.getD x 0)) ∧ SqT K H' (ps.getD x 0) ((castI (mv.getD x [])).map V.int) ∧ atI ((castI (mv.getD x [])).map V.int) 0 = some (.int (f x : Nat)) := fun x s hx => by
   obtain ⟨h1, h2, h3⟩ := hm.row tp hx
   exact ⟨.of (s _ _ eM), atI_nat (by rw [List.getElem?_map, h1]; rfl), .of (s _ _ h2), atI_nat (j := 0) (castI_item (by omega))⟩
  refine hideS fun Y hY => ?_
  refine ⟨by decide, fun D hD => ?_⟩
  dsimp only [gName]
  subst hY
  refine hideS fun Y hY => ?_
  have sD := Same.new (o := .lst []) hD
  have nMD : M ≠ D := ne_of_none eM hD
  refine ⟨_, rfl, _, n, rfl, .inl ⟨_, .of (sD _ _ eM), by rw [List.length_map, lp]⟩, _, rfl, by omega, by omega, for_rangeN (n := (n : Int).toNat) (fun i σ H' => ∃ (rs : List Nat) (v2 v3 v4 v5 : Option V), σ = [some (.ref M), some (.ref D), v2, v3, v4, v5] ∧ Same H H' ∧ H' D = some (.lst ((castI rs).map V.int)) ∧ rs.length = i ∧ (∀ r ∈ rs, r < n) ∧ ∀ j, j < i → RingAt f n j (rs.getD j 0))
   ⟨[], none, none, none, none, rfl, sD, upd_same, rfl, fun r hr => (by cases hr), fun j hj => absurd hj (Nat.not_lt_zero _)⟩ ?_ ?_⟩
  ·rintro i σ H1 N hN hi ⟨rs, v2, v3, v4, v5, rfl, s1, d1, lr, hrs, hra⟩
   rw [Int.toNat_natCast] at hi
   have ei : (0 : Int) + (i : Int) = ((itr f 0 i : Nat) : Int) := by show _ = (i : Int); omega
   dsimp only [gName]
   refine hideS fun Y2 hY2 => ?_
   refine ⟨_, rfl, ?_⟩
   dsimp only [gName]
   subst hY2
   refine hideS fun Y2 hY2 => ?_
   refine ⟨_, rfl, M, rfl, ⟨_, .of (s1 _ _ eM)⟩, for_listN (xs := ps.map V.ref) (fun j σ H' => ∃ v4 : Option V, σ = [some (.ref M), some (.ref D), some (.int (0 + (i : Int))), some (.int (itr f j i : Nat)), v4, v5] ∧ H' = H1)
    ⟨v4, ?st, rfl⟩ (by rintro j σ H' _ ⟨_, _, e⟩; rw [e]; exact .of (s1 _ _ eM)) ?_ ?_⟩
   case st => rw [← ei]; rfl
   ·rintro j x σ H2 N2 hN2 hx ⟨v4, rfl, rfl⟩
    obtain ⟨l1, l2, l3, l4⟩ := look (itr f j i) s1 (itr_lt hf j i hi)
    exact ⟨_, rfl, _, rfl, M, _, _, _, rfl, rfl, l1, l2, _, _, _, _, rfl, rfl, l3, l4, hN2 _ _ ⟨some x, rfl, rfl⟩⟩
   rintro σ H2 ⟨v4, rfl, rfl⟩
   rw [List.length_map, lp]
   have hat := itr_lt hf n i hi
   obtain ⟨p, hp0, hpn, hp⟩ := ring hf hi
   generalize hati : itr f n i = at_ at hat hp ⊢
   subst hY2
   dsimp only
   refine hideS fun Y2 hY2 => ?_
   refine ⟨_, rfl, by show 1 ≤ sizeLine; decide, fun R hR => ?_⟩
   have sR := Same.new (o := .lst [.int (at_ : Nat)]) hR
   have nRD : D ≠ R := ne_of_none d1 hR
   have nR0 : H R = none := s1.free hR
   dsimp only [gName]
   subst hY2
   refine hideS fun Y2 hY2 => ?_
   refine whileMN (fun m σ H' => ∃ (ks : List Nat) (j : Nat), m = p - j ∧ j < p ∧ σ = [some (.ref M), some (.ref D), some (.int (0 + (i : Int))), some (.int (at_ : Nat)), v4, some (.ref R)] ∧ Same H H' ∧ H' D = some (.lst ((castI rs).map V.int)) ∧ H' R = some (.lst ((castI (ks ++ [itr f j at_])).map V.int)) ∧ ks.length = j ∧ (∀ x ∈ ks, x < n) ∧ ks = (List.range j).map fun k => itr f k at_)
    ⟨_, [], 0, rfl, hp0, rfl, s1.trans sR, by rw [upd_ne nRD]; exact d1, upd_same, rfl, fun x hx => (by cases hx), rfl⟩ ?_ ?_
   ·rintro m σ H2 N3 hN3 ⟨ks, j, rfl, hj, rfl, s2, d2, r2, lk, hks, ek⟩
    have hc := itr_lt hf j at_ hat
    have stp : itr f (j + 1) at_ = f (itr f j at_) := rfl
    obtain ⟨l1, l2, l3, l4⟩ := look (itr f j at_) s2 hc
    have lst : ∀ c : Nat, (castI (ks ++ [c])).map V.int = (castI ks).map V.int ++ [.int (c : Nat)] := fun c => by rw [castI_app, List.map_append]; rfl
    have la : atI ((castI (ks ++ [itr f j at_])).map V.int) (-1) = some (.int (itr f j at_ : Nat)) := by rw [lst]; exact atI_last _ _
    have len : ((castI (ks ++ [itr f j at_])).map V.int).length < sizeLine := by rw [List.length_map, castI_len, List.length_append, lk]; show j + 1 < _; omega
    generalize hcj : itr f j at_ = c at *
    refine ⟨_, rfl, _, rfl, _, rfl, R, _, _, _, rfl, rfl, .of r2, la, M, _, _, _, rfl, rfl, l1, l2, _, _, _, _, rfl, rfl, l3, l4, _, rfl, rfl, _, rfl, ?_⟩
    refine ite2 (fun z => ?_) (fun zz => ?_)
    ·have ne : f c ≠ at_ := fun y => by rw [y] at z; simp at z
     have lt : j + 1 < p := by
      rcases Nat.lt_or_ge (j + 1) p with y | y
      ·exact y
      ·have e : p = j + 1 := by omega
       rw [e, stp] at hp
       exact absurd hp ne
     refine ⟨_, rfl, .inl ⟨rfl, _, .of r2⟩, _, rfl, _, rfl, _, rfl, R, _, _, _, rfl, rfl, .of r2, la, M, _, _, _, rfl, rfl, l1, l2, _, _, _, _, rfl, rfl, l3, l4, R, _, _, rfl, rfl, r2, len, hN3 _ _ (p - (j + 1)) (by omega) ⟨ks ++ [c], j + 1, rfl, lt, rfl, s2.kbn nR0 KB.write, by rw [upd_ne nRD]; exact d2, ?_, by rw [List.length_append, lk]; rfl, fun x hx => ?_, by rw [List.range_succ, List.map_append, ek]; exact congrArg (fun q => (List.range j).map (fun k => itr f k at_) ++ [q]) hcj.symm⟩⟩
     ·rw [upd_same, stp, castI_app (ks ++ [c]), List.map_append]; rfl
     ·rcases List.mem_append.mp hx with y | y
      ·exact hks x y
      ·rw [List.mem_singleton.mp y]; exact hc
    ·subst hY2
     dsimp only
     refine ⟨_, rfl, .inl ⟨rfl, _, .of d2⟩, _, rfl, R, _, rfl, .of r2, ?nn, fun m hmm hle => ?_⟩
     case nn => intro z; have := congrArg List.length z; rw [castI_len, List.length_append] at this; cases this
     obtain ⟨x, hx, rfl⟩ := List.mem_map.mp hmm
     have hxn : x < n := by
      rcases List.mem_append.mp hx with y | y
      ·exact hks x y
      ·rw [List.mem_singleton.mp y]; exact hc
     refine ⟨D, _, _, rfl, rfl, d2, ?_, hN _ _ ⟨rs ++ [x], _, _, _, _, rfl, s2.kbn hD KB.write, ?_, by rw [List.length_append, lr]; rfl, fun r hr => ?_, fun q hq => ?_⟩⟩
     ·rw [List.length_map, castI_len]; omega
     ·rw [upd_same, castI_app, List.map_append]; rfl
     ·rcases List.mem_append.mp hr with y | y
      ·exact hrs r y
      ·rw [List.mem_singleton.mp y]; exact hxn
     ·by_cases hqi : q < i
      ·rw [List.getD_eq_getElem?_getD, List.getElem?_append_left (by omega), ← List.getD_eq_getElem?_getD]; exact hra q hqi
      ·have eqi : q = i := by omega
       subst eqi
       rw [List.getD_eq_getElem?_getD, List.getElem?_append_right (by omega), show q - rs.length = 0 by omega]
       have fc : f c = at_ := Classical.byContradiction fun y => zz (by rw [Bool.not_eq_true', decide_eq_false_iff_not]; intro w; injection w with w; exact y (by omega))
       have all : ∀ k, itr f k at_ ∈ ks ++ [c] := fun k => by
        have eL : ks ++ [c] = (List.range (j + 1)).map fun k => itr f k at_ := by rw [List.range_succ, List.map_append, ek]; exact congrArg (fun q => (List.range j).map (fun k => itr f k at_) ++ [q]) hcj.symm
        rw [eL]
        induction k with
        | zero => exact List.mem_map.mpr ⟨0, List.mem_range.mpr (by omega), rfl⟩
        | succ k ih =>
         obtain ⟨q, hq, e⟩ := List.mem_map.mp ih
         have hq := List.mem_range.mp hq
         show f (itr f k at_) ∈ _
         rw [← e]
         by_cases hqj : q < j
         ·exact List.mem_map.mpr ⟨q + 1, List.mem_range.mpr (by omega), rfl⟩
         ·have : q = j := by omega
          subst this
          rw [show f (itr f q at_) = at_ by rw [hcj]; exact fc]
          exact List.mem_map.mpr ⟨0, List.mem_range.mpr (by omega), rfl⟩
       have ex : ∃ k, x = itr f k at_ := by
        rcases List.mem_append.mp hx with y | y
        ·rw [ek] at y
         obtain ⟨k, _, e⟩ := List.mem_map.mp y
         exact ⟨k, e.symm⟩
        ·rw [List.mem_singleton.mp y]; exact ⟨j, hcj.symm⟩
       have le : ∀ k, x ≤ itr f k at_ := fun k => by
        have := hle _ (List.mem_map.mpr ⟨_, all k, rfl⟩)
        omega
       unfold RingAt
       rw [hati]
       exact ⟨ex, le⟩
   ·rintro σ H Q Q' hQ ⟨v1, e1, v2, e2, v3, e3, a1, x1, i1, w1, e4, e5, h6, h7, a2, x2, i2, w2, e8, e9, h10, h11, a3, x3, i3, w3, e12, e13, h14, h15, v4, e16, e17, b, e18, q⟩
    exact ⟨v1, e1, v2, e2, v3, e3, a1, x1, i1, w1, e4, e5, h6, h7, a2, x2, i2, w2, e8, e9, h10, h11, a3, x3, i3, w3, e12, e13, h14, h15, v4, e16, e17, b, e18, hQ _ _ q⟩
  ·rintro σ H1 ⟨rs, v2, v3, v4, v5, rfl, s1, d1, lr, hrs, hra⟩
   rw [Int.toNat_natCast] at lr hra
   subst hY
   exact ⟨_, rfl, k D rs H1 hD s1 d1 lr hrs fun r hr => (hra r hr).next hf hr (hra _ (hf r hr))⟩
theorem Feed.ktu {H H' : Hp} {F L : Addr} (h : Feed H F L) (k : KB2 F L H H') : KTu H H' := fun b ys e => by
 obtain ⟨ms, n, sd, e1, e2, _⟩ := h.ex
 exact k b _ e (ne_of e e1 (fun z => nomatch z)) (ne_of e e2 (fun z => nomatch z))
inductive spMachineI (vs : List V) (H : Hp) (Q : VK) (E_3 : XK) : Prop where
 | mk (F L nm : Addr) (b most : Nat) (ss : List Str) (h0_ : vs = [.ref F, .int b, .ref nm, .int most]) (h1_ : Feed H F L) (h2_ : 2 ≤ b) (h3_ : b ≤ 4) (h4_ : H nm = some (.tup (ss.map V.str))) (h5_ : ss.length ≤ 3) (h6_ : 0 < most) (h7_ : most ≤ 1000) (h8_ : ∀ (ma : Addr) (bs : List Bool) (mv : List (List Nat)) (H' : Hp), H ma = none → KB2 F L H H' → Feed H' F L → MachAt H' ma nm bs mv → Moves bs.length (b ^ ss.length) mv → 0 < bs.length → bs.length ≤ most → (∀ r, r < bs.length → bs.getD (stp mv r 0) false = bs.getD r false) → Q (.ref ma) H')
def spMachine : Sp := fun vs H Q E_3 => spMachineI vs H Q E_3
theorem sc_l_machine : FnScope ["_law_feed_here", "_law_base", "_law_names_here", "_law_most", "_law_many", "_law_letters_here", "_law_name", "_law_moves", "_law_room", "_law_yes"] ["_law_feed_here", "_law_base", "_law_names_here", "_law_most"] (defScope s_l_machine) := ⟨rfl, rfl, rfl, by decide +kernel, rfl, by decide +kernel, by decide +kernel⟩
theorem ok_l_machine {a : Adr} (T : Txt K mg a) : FnOk P w K mg base CX0 2 a.f_l_machine a.fd_l_machine ["_law_feed_here", "_law_base", "_law_names_here", "_law_most"] spMachine := by
 have G_l_draw := ok_l_draw (P := P) (w := w) (base := base) T
 have G_l_rings := ok_l_rings (P := P) (w := w) (base := base) T
 refine T.F_l_machine.ok sc_l_machine (fun vs H Q E h => ?_) (fun cdv A outer s H vs Q E hr h => ?_)
 ·obtain ⟨F, L, nm, b, most, ss, rfl, _⟩ := h
  rfl
 ·obtain ⟨F, L, nm, b, most, ss, rfl, hf, hb2, hb4, enm, lss, hm0, hm1, k⟩ := h
  have hr_l_draw : Room 1 _ := hr
  have hr_l_rings : Room 1 _ := hr
  refine ⟨_, (pss_cons (ps_set (i := 4) sc_l_machine.nd rfl (Or.inr rfl) (pe_op op_add pe_int (pe_call G_l_draw hr_l_draw rfl T.m_l_draw T.k_l_draw T.b_l_draw .nil pass0 (pa_cons (pv 0) (pa_cons (pv 3) pa_nil)))))
  (pss_cons (ps_set (i := 5) sc_l_machine.nd rfl (Or.inl rfl) pe_int)
  (pss_cons (ps_for PassesOwn.never rfl (pi_tup (pv 2)) (pg_name (i := 6) sc_l_machine.nd rfl (Or.inl rfl))
   (pss_one (ps_set (i := 5) sc_l_machine.nd rfl (Or.inl rfl) (pe_op op_mul (pv 5) (pv 1)))))
  (pss_cons (ps_set (i := 7) sc_l_machine.nd rfl (Or.inl rfl) (pe_lst pa_nil))
  (pss_cons (ps_for PassesOwn.never rfl (pi_range1 rfl T.z_range (pa_cons (pv 4) pa_nil)) (pg_name (i := 8) sc_l_machine.nd rfl (Or.inl rfl))
   (pss_one (ps_expr (pe_bm PySem.F.plainAttrs_list PySem.F.slot_list_append PySem.F.type_list_append mt_append (pv 7) (pa_cons (pe_callTy (call_tupleK K) (by rfl) T.z_tuple bt_tuple (pa_cons (pe_comp (CompScope.mk' (esc := defScope s_l_machine) (N := ["_law_feed_here", "_law_base", "_law_names_here", "_law_most", "_law_many", "_law_letters_here", "_law_name", "_law_moves", "_law_room", "_law_yes"]) (own := ["_law_letter"]) (frn := ["_law_feed_here", "_law_many"]) (frj := [0, 4]) rfl rfl (by decide +kernel)) rfl (pi_range1 rfl T.z_range (pa_cons (pv 5) pa_nil)) (fun _ _ _ _ => (pg_name (i := 0) (show List.Nodup (["_law_letter", "_law_feed_here", "_law_many"] : List Str) by decide +kernel) rfl (Or.inl rfl))) (fun _ _ _ _ => pifs_nil) (fun _ _ _ _ => (pe_call G_l_draw hr_l_draw rfl T.m_l_draw T.k_l_draw T.b_l_draw .nil pass0 (pa_cons (pv 1) (pa_cons (pv 2) pa_nil))))) pa_nil)) pa_nil)))))
  (pss_cons (ps_set (i := 9) sc_l_machine.nd rfl (Or.inr rfl) (pe_comp (CompScope.mk' (esc := defScope s_l_machine) (N := ["_law_feed_here", "_law_base", "_law_names_here", "_law_most", "_law_many", "_law_letters_here", "_law_name", "_law_moves", "_law_room", "_law_yes"]) (own := ["_law_room"]) (frn := ["_law_feed_here"]) (frj := [0]) rfl rfl (by decide +kernel)) rfl (pi_list (pv 7)) (fun _ _ _ _ => (pg_name (i := 0) (show List.Nodup (["_law_room", "_law_feed_here"] : List Str) by decide +kernel) rfl (Or.inl rfl))) (fun _ _ _ _ => pifs_nil) (fun _ _ _ _ => (pe_cmpR op_eq (pe_call G_l_draw hr_l_draw rfl T.m_l_draw T.k_l_draw T.b_l_draw .nil pass0 (pa_cons (pv 1) (pa_cons pe_int pa_nil))) pe_int (nomark _)))))
  (pss_one (ps_ret (pe_tup (pa_cons (pv 2) (pa_cons (pe_callTy (call_tupleK K) (by rfl) T.z_tuple bt_tuple (pa_cons (pe_comp (CompScope.mk' (esc := defScope s_l_machine) (N := ["_law_feed_here", "_law_base", "_law_names_here", "_law_most", "_law_many", "_law_letters_here", "_law_name", "_law_moves", "_law_room", "_law_yes"]) (own := ["_law_room"]) (frn := ["_law_yes"]) (frj := [9]) rfl rfl (by decide +kernel)) rfl (pi_list (pe_call G_l_rings hr_l_rings rfl T.m_l_rings T.k_l_rings T.b_l_rings .nil pass0 (pa_cons (pv 7) pa_nil))) (fun _ _ _ _ => (pg_name (i := 0) (show List.Nodup (["_law_room", "_law_yes"] : List Str) by decide +kernel) rfl (Or.inl rfl))) (fun _ _ _ _ => pifs_nil) (fun _ _ _ _ => (pe_ix (ix_listK K) (pv 1) (pv 0) (fun _ _ => rfl)))) pa_nil)) (pa_cons (pe_callTy (call_tupleK K) (by rfl) T.z_tuple bt_tuple (pa_cons (pv 7) pa_nil)) pa_nil)))))))))))), ?_⟩
  have p10 : (2 ^ 10 : Nat) < 2 ^ 1000 := Nat.pow_lt_pow_right (by decide) (by decide)
  have big : (10000 : Nat) ≤ sizeLine := by decide
  have small : ∀ x : Nat, x ≤ 1000 → x < 2 ^ 1000 := fun x hx => Nat.lt_trans (show x < 2 ^ 10 by omega) p10
  refine hideS fun Y hY => ?_
  refine ⟨_, rfl, _, rfl, F, L, most, rfl, hf, hm0, small _ hm1, fun r H1 r1 k1 f1 => ⟨_, _, rfl, rfl, ?_⟩⟩
  have en : (1 : Int) + (r : Int) = ((1 + r : Nat) : Int) := by omega
  dsimp only [gName]
  subst hY
  refine hideS fun Y hY => ?_
  dsimp only [tAsg, tC, gName]
  subst hY
  have k1t := hf.ktu k1
  rw [en]
  generalize hN : 1 + r = n
  have n0 : 0 < n := by omega
  have n1 : n ≤ most := by omega
  refine hideS fun Y hY => ?_
  refine ⟨_, rfl, nm, rfl, ⟨_, .of (k1t _ _ enm)⟩, for_tupN (xs := ss.map V.str) (fun i σ H' => ∃ v6 : Option V, σ = [some (.ref F), some (.int (b : Nat)), some (.ref nm), some (.int (most : Nat)), some (.int (n : Nat)), some (.int (b ^ i : Nat)), v6, none, none, none] ∧ H' = H1)
   ⟨none, rfl, rfl⟩ (by rintro i σ H' _ ⟨_, _, e⟩; rw [e]; exact .of (k1t _ _ enm)) ?_ ?_⟩
  ·rintro i x σ H2 N hN hx ⟨v6, rfl, rfl⟩
   have hi : i < ss.length := by have := (List.getElem?_eq_some_iff.mp hx).1; rwa [List.length_map] at this
   refine ⟨_, rfl, _, rfl, _, _, rfl, rfl, .inr (by constructor <;> omega), hN _ _ ⟨some x, ?_, rfl⟩⟩
   have e1 : (b ^ (i + 1) : Nat) = b ^ i * b := Nat.pow_succ ..
   have e2 : ((b ^ i : Nat) : Int) * (b : Int) = ((b ^ (i + 1) : Nat) : Int) := by rw [e1, Int.natCast_mul]
   rw [← e2]
   rfl
  rintro σ H2 ⟨v6, rfl, rfl⟩
  rw [List.length_map]
  have hbl : 0 < b ^ ss.length := Nat.pow_pos (by omega)
  have hbl2 : b ^ ss.length ≤ 64 := Nat.le_trans (Nat.pow_le_pow_left hb4 _) (Nat.le_trans (Nat.pow_le_pow_right (show 0 < 4 by decide) lss) (by decide))
  generalize b ^ ss.length = B at hbl hbl2 k ⊢
  subst hY
  dsimp only
  refine hideS fun Y hY => ?_
  refine ⟨by decide, fun M hM => ?_⟩
  have nM := f1.neF hM
  have hM0 := f1.lo k1 hM
  dsimp only [gName]
  subst hY
  refine hideS fun Y hY => ?_
  refine ⟨_, rfl, _, rfl, by omega, by omega, for_rangeN (n := (n : Int).toNat) (fun i σ H' => ∃ (ps : List Addr) (mv : List (List Nat)) (v8 : Option V), σ = [some (.ref F), some (.int (b : Nat)), some (.ref nm), some (.int (most : Nat)), some (.int (n : Nat)), some (.int (B : Nat)), v6, some (.ref M), v8, none] ∧ KB2 F L H H' ∧ Feed H' F L ∧ H' M = some (.lst (ps.map V.ref)) ∧ Tups H' ps (mv.map castI) ∧ mv.length = i ∧ ∀ l ∈ mv, l.length = B ∧ ∀ x ∈ l, x < n)
   ⟨[], [], none, rfl, k1.trans (Same.new hM).kb2, f1.same (Same.new hM), upd_same, .nil, rfl, fun l hl => (by cases hl)⟩ ?_ ?_⟩
  ·rintro i σ H2 N hN hi ⟨ps, mv, v8, rfl, k2, f2, m2, tp2, lm, ok⟩
   rw [Int.toNat_natCast] at hi
   refine ⟨_, rfl, .inl ⟨rfl, _, .of m2⟩, _, rfl, _, rfl, by omega, by omega, fun C hC => ?_⟩
   have nC := f2.neF hC
   have hC0 := f2.lo k2 hC
   have nMC : M ≠ C := ne_of_none m2 hC
   refine comp_range (fun j σ H' => ∃ (rs : List Nat) (v : Option V), σ = [v, some (.ref F), some (.int (n : Nat))] ∧ KB2 F L H2 H' ∧ Feed H' F L ∧ H' C = some (.lst ((castI rs).map V.int)) ∧ rs.length = j ∧ ∀ r ∈ rs, r < n)
    ⟨[], none, ?sg, (Same.new hC).kb2, f2.same (Same.new hC), upd_same, rfl, fun r hr => (by cases hr)⟩ ?_ ?_
   case sg => rfl
   ·rintro j σ H3 hj ⟨rs, v, rfl, k3, f3, c3, lr, hrs⟩
    rw [Int.toNat_natCast] at hj
    refine ⟨_, rfl, _, rfl, F, L, n, rfl, f3, n0, small _ (by omega), fun q H4 q1 k4 f4 => ?_⟩
    refine ⟨_, k4 _ _ c3 nC.1 nC.2, ?_, rs ++ [q], _, rfl, KB2.updN (k3.trans k4) hC, f4.upd nC, ?_, by rw [List.length_append, lr]; rfl, fun x hx => ?_⟩
    ·rw [List.length_map, castI_len]; omega
    ·rw [upd_same, castI_app, List.map_append]; rfl
    ·rcases List.mem_append.mp hx with z | z
     ·exact hrs x z
     ·rw [List.mem_singleton.mp z]; exact q1
   rintro σ H3 ⟨rs, v, rfl, k3, f3, c3, lr, hrs⟩
   rw [Int.toNat_natCast] at lr
   have m3 := k3 _ _ m2 nM.1 nM.2
   refine ⟨C, _, rfl, .inl ⟨.of c3, fun D hD => ?_⟩⟩
   have sD := Same.new (o := .tup ((castI rs).map V.int)) hD
   have m4 := sD _ _ m3
   have tp4 : Tups (upd H3 D (.tup ((castI rs).map V.int))) ps (mv.map castI) := (tp2.keep (f2.ktu k3)).keep sD.kt
   have lps : ps.length = i := by rw [Paired.length tp2, List.length_map, lm]
   have ktM : KTu (upd H3 D (.tup ((castI rs).map V.int))) (upd (upd H3 D (.tup ((castI rs).map V.int))) M (.lst (ps.map V.ref ++ [.ref D]))) := KTu.lst m4
   refine ⟨M, _, _, rfl, rfl, m4, ?_, hN _ _ ⟨ps ++ [D], mv ++ [rs], _, rfl, ?_, ?_, ?_, ?_, by rw [List.length_append, lm]; rfl, fun l hl => ?_⟩⟩
   ·rw [List.length_map, lps]; omega
   ·exact KB2.updN ((k2.trans k3).trans sD.kb2) hM0
   ·exact (f3.same sD).upd nM
   ·rw [upd_same, List.map_append]; rfl
   ·rw [List.map_append]
    exact paired_append (tp4.keep ktM) (.cons (ktM _ _ upd_same) .nil)
   ·rcases List.mem_append.mp hl with z | z
    ·exact ok l z
    ·rw [List.mem_singleton.mp z]; exact ⟨lr, hrs⟩
  rintro σ H2 ⟨ps, mv, v8, rfl, k2, f2, m2, tp2, lm, ok⟩
  rw [Int.toNat_natCast] at lm
  have mvs : Moves n B mv := ⟨lm, ok⟩
  have lps : ps.length = n := by rw [Paired.length tp2, List.length_map, lm]
  subst hY
  dsimp only
  refine hideS fun W hW => ?_
  refine ⟨_, rfl, M, rfl, ⟨_, .of m2⟩, fun Y hY => ?_⟩
  have nY := f2.neF hY
  have nMY : M ≠ Y := ne_of_none m2 hY
  refine comp_list (xs := ps.map V.ref) (fun j σ H' => ∃ (bs : List Bool) (v : Option V), σ = [v, some (.ref F)] ∧ KB2 F L H2 H' ∧ Feed H' F L ∧ H' Y = some (.lst (bs.map V.bl)) ∧ bs.length = j)
   ⟨[], none, ?sg, (Same.new hY).kb2, f2.same (Same.new hY), upd_same, rfl⟩ (by rintro j σ H' _ ⟨_, _, _, k', _⟩; exact .of (k' _ _ m2 nM.1 nM.2)) ?_ ?_
  case sg => rfl
  ·rintro j x σ H3 hx ⟨bs, v, rfl, k3, f3, y3, lb⟩
   have hj : j < ps.length := by have := (List.getElem?_eq_some_iff.mp hx).1; rwa [List.length_map] at this
   refine ⟨_, rfl, F, L, 2, rfl, f3, by decide, small _ (by decide), fun q H4 q1 k4 f4 => ⟨rfl, ?_⟩⟩
   refine ⟨_, k4 _ _ y3 nY.1 nY.2, ?_, bs ++ [decide (V.int (q : Nat) = V.int 0)], _, rfl, KB2.updN (k3.trans k4) hY, f4.upd nY, ?_, by rw [List.length_append, lb]; rfl⟩
   ·rw [List.length_map]; omega
   ·rw [upd_same, List.map_append]; rfl
  rintro σ H3 ⟨bs, v, rfl, k3, f3, y3, lb⟩
  rw [List.length_map, lps] at lb
  have m3 := k3 _ _ m2 nM.1 nM.2
  have tp3 := tp2.keep (f2.ktu k3)
  have enm3 := hf.ktu (k2.trans k3) _ _ enm
  have kk := k2.trans k3
  dsimp only [gName]
  subst hW
  refine ⟨_, rfl, _, rfl, M, ps, n, B, mv, rfl, m3, tp3, mvs, hbl, by omega, fun R rs H4 hR s4 r4 lr hrs hst => ?_⟩
  have y4 := s4 _ _ y3
  refine ⟨R, rfl, ⟨_, .of r4⟩, fun C hC => ?_⟩
  refine comp_list (xs := (castI rs).map V.int) (fun j σ H' => ∃ (cs : List Bool) (v : Option V), σ = [v, some (.ref Y)] ∧ Same H4 H' ∧ H' C = some (.lst (cs.map V.bl)) ∧ cs.length = j ∧ cs = (rs.take j).map fun r => bs.getD r false)
   ⟨[], none, ?sg2, Same.new hC, upd_same, rfl, rfl⟩ (by rintro j σ H' _ ⟨_, _, _, s', _⟩; exact .of (s' _ _ r4)) ?_ ?_
  case sg2 => rfl
  ·rintro j x σ H5 hx ⟨cs, v, rfl, s5, c5, lc, ecs⟩
   obtain ⟨q, rfl, eq⟩ := natItem hx
   have hq := hrs q (List.mem_of_getElem? eq)
   have hj : j < rs.length := (List.getElem?_eq_some_iff.mp eq).1
   obtain ⟨y, ey⟩ : ∃ y, bs[q]? = some y := ⟨_, List.getElem?_eq_getElem (by omega)⟩
   refine ⟨_, rfl, _, rfl, Y, _, _, .bl y, rfl, rfl, .of (s5 _ _ y4), atI_nat (by rw [List.getElem?_map, ey]; rfl), _, c5, ?_, cs ++ [y], _, rfl, s5.kbn hC KB.write, ?_, by rw [List.length_append, lc]; rfl, ?_⟩
   ·rw [List.length_map]; omega
   ·rw [upd_same, List.map_append]; rfl
   ·rw [take_snoc eq, List.map_append, ← ecs]
    show cs ++ [y] = cs ++ [bs.getD q false]
    rw [List.getD_eq_getElem?_getD, ey]; rfl
  rintro σ H5 ⟨cs, v, rfl, s5, c5, lc, ecs⟩
  rw [List.length_map, castI_len, lr] at lc
  rw [List.length_map, castI_len, List.take_length] at ecs
  have csd : ∀ r, r < n → cs.getD r false = bs.getD (rs.getD r 0) false := fun r hr => by
   rw [ecs, List.getD_eq_getElem?_getD, List.getElem?_map, item_at 0 (by omega : r < rs.length)]; rfl
  refine ⟨C, _, rfl, .inl ⟨.of c5, fun D hD => ?_⟩⟩
  have sD := Same.new (o := .tup (cs.map V.bl)) hD
  have s35 := (s4.trans s5).trans sD
  refine ⟨_, rfl, M, _, rfl, .inl ⟨.of (s35 _ _ m3), fun N hN => ?_⟩⟩
  have sN := Same.new (o := .tup (ps.map V.ref)) hN
  refine ⟨by show 3 ≤ sizeLine; decide, fun ma hma => ?_⟩
  have sma := Same.new (o := .tup [.ref nm, .ref D, .ref N]) hma
  have sAll := s35.trans sN
  refine k ma cs mv _ (Feed.lo (f3.same sAll) (kk.trans sAll.kb2) hma) (kk.trans (sAll.trans sma).kb2) (f3.same (sAll.trans sma)) ⟨D, N, ps, upd_same, sma _ _ (sN _ _ upd_same), sma _ _ upd_same, tp3.keep (sAll.trans sma).kt⟩ (by rw [lc]; exact mvs) (by omega) (by omega) (fun r hr => by rw [csd _ (mvs.stp (by omega) hbl), csd _ (by omega), hst r (by omega)])
section
variable {α : Type} {x0 : α} {on : α → Nat → α} {m : Nat}
theorem get_uniq {xs : List α} (nd : xs.Nodup) {i j : Nat} {x : α} (h : xs[i]? = some x) (g : xs[j]? = some x) : i = j := by
 obtain ⟨hi, e⟩ := List.getElem?_eq_some_iff.mp h
 obtain ⟨hj, e'⟩ := List.getElem?_eq_some_iff.mp g
 exact (List.getElem_inj nd).mp (e.trans e'.symm)
theorem row_one {xs ys : List α} (ndx : xs.Nodup) (ndy : ys.Nodup) {x : α} : ∀ (l l' : List Nat) (c s s1 s2 : Nat), l.length = l'.length → rowGo l s = some s1 → rowGo l' s = some s2 → (∀ i, i < s → xs[i]? = ys[i]?) →
  (∀ k t, l[k]? = some t → xs[t]? = some (on x (c + k))) → (∀ k t, l'[k]? = some t → ys[t]? = some (on x (c + k))) → l = l' ∧ s1 = s2 ∧ ∀ i, i < s1 → xs[i]? = ys[i]?
 | [], [], c, s, s1, s2, _, h, h', eq, _, _ => by
  cases h; cases h'
  exact ⟨rfl, rfl, eq⟩
 | [], _ :: _, _, _, _, _, hl, _, _, _, _, _ => by cases hl
 | _ :: _, [], _, _, _, _, hl, _, _, _, _, _ => by cases hl
 | t :: l, t' :: l', c, s, s1, s2, hl, h, h', eq, hx, hy => by
  have ex : xs[t]? = some (on x c) := hx 0 t rfl
  have ey : ys[t']? = some (on x c) := hy 0 t' rfl
  have hx' : ∀ k u, l[k]? = some u → xs[u]? = some (on x (c + 1 + k)) := fun k u z => by rw [show c + 1 + k = c + (k + 1) by omega]; exact hx (k + 1) u z
  have hy' : ∀ k u, l'[k]? = some u → ys[u]? = some (on x (c + 1 + k)) := fun k u z => by rw [show c + 1 + k = c + (k + 1) by omega]; exact hy (k + 1) u z
  have hl' : l.length = l'.length := Nat.succ.inj hl
  rw [rowGo] at h h'
  by_cases lt : t < s
  ·rw [if_pos lt] at h
   have e : t' = t := get_uniq ndy ey (by rw [← eq t lt]; exact ex)
   subst e
   rw [if_pos lt] at h'
   obtain ⟨r1, r2, r3⟩ := row_one ndx ndy l l' (c + 1) s s1 s2 hl' h h' eq hx' hy'
   exact ⟨by rw [r1], r2, r3⟩
  ·rw [if_neg lt] at h
   by_cases es : t = s
   ·rw [if_pos es] at h
    have lt' : ¬ t' < s := fun z => by
     have := get_uniq ndx ex (by rw [eq t' z]; exact ey)
     omega
    rw [if_neg lt'] at h'
    by_cases es' : t' = s
    ·rw [if_pos es'] at h'
     obtain ⟨r1, r2, r3⟩ := row_one ndx ndy l l' (c + 1) (s + 1) s1 s2 hl' h h' (fun i hi => by
      by_cases z : i < s
      ·exact eq i z
      ·have : i = s := by omega
       rw [this, ← es, ex, es, ← es', ey]) hx' hy'
     exact ⟨by rw [r1, es, es'], r2, r3⟩
    ·rw [if_neg es'] at h'; cases h'
   ·rw [if_neg es] at h; cases h
theorem rows_one {xs ys : List α} (ndx : xs.Nodup) (ndy : ys.Nodup) : ∀ (mv mv' : List (List Nat)) (i s s1 s2 : Nat), rowsGo mv i s = some s1 → rowsGo mv' i s = some s2 → (∀ j, j < s → xs[j]? = ys[j]?) →
  (∀ k r, mv[k]? = some r → r.length = m ∧ ∃ x, xs[i + k]? = some x ∧ ∀ c t, r[c]? = some t → xs[t]? = some (on x c)) → (∀ k r, mv'[k]? = some r → r.length = m ∧ ∃ x, ys[i + k]? = some x ∧ ∀ c t, r[c]? = some t → ys[t]? = some (on x c)) →
  i + mv.length = xs.length → i + mv'.length = ys.length → s1 = xs.length → s2 = ys.length → mv = mv' ∧ xs = ys
 | [], [], i, s, s1, s2, h, h', eq, _, _, l1, l2, e1, e2 => by
  cases h; cases h'
  refine ⟨rfl, List.ext_getElem? fun j => ?_⟩
  by_cases z : j < s
  ·exact eq j z
  ·rw [List.getElem?_eq_none (by omega), List.getElem?_eq_none (by omega)]
 | [], r' :: mv', i, s, s1, s2, h, h', eq, _, hy, l1, l2, e1, e2 => by
  cases h
  rw [rowsGo] at h'
  rw [List.length_nil] at l1
  rw [if_neg (by omega)] at h'
  cases h'
 | r :: mv, [], i, s, s1, s2, h, h', eq, hx, _, l1, l2, e1, e2 => by
  cases h'
  rw [rowsGo] at h
  rw [List.length_nil] at l2
  rw [if_neg (by omega)] at h
  cases h
 | r :: mv, r' :: mv', i, s, s1, s2, h, h', eq, hx, hy, l1, l2, e1, e2 => by
  rw [rowsGo] at h h'
  by_cases lt : i < s
  ·rw [if_pos lt] at h h'
   obtain ⟨a1, ha, h⟩ := Option.bind_eq_some_iff.mp h
   obtain ⟨a2, ha', h'⟩ := Option.bind_eq_some_iff.mp h'
   obtain ⟨q1, x, q2, q3⟩ := hx 0 r rfl
   obtain ⟨p1, y, p2, p3⟩ := hy 0 r' rfl
   have exy : x = y := by
    rw [Nat.add_zero] at q2 p2
    rw [eq i lt, p2] at q2
    exact (Option.some.inj q2).symm
   subst exy
   obtain ⟨z1, z2, z3⟩ := row_one ndx ndy r r' 0 s a1 a2 (q1.trans p1.symm) ha ha' eq (fun k t z => by rw [Nat.zero_add]; exact q3 k t z) (fun k t z => by rw [Nat.zero_add]; exact p3 k t z)
   subst z1 z2
   obtain ⟨w1, w2⟩ := rows_one ndx ndy mv mv' (i + 1) a1 s1 s2 h h' z3 (fun k r z => by rw [show i + 1 + k = i + (k + 1) by omega]; exact hx (k + 1) r z) (fun k r z => by rw [show i + 1 + k = i + (k + 1) by omega]; exact hy (k + 1) r z)
    (by rw [List.length_cons] at l1; omega) (by rw [List.length_cons] at l2; omega) e1 e2
   exact ⟨by rw [w1], w2⟩
  ·rw [if_neg lt] at h; cases h
theorem grown_uniq {xs ys : List α} {mv mv' : List (List Nat)} (g : Grown x0 on m xs mv) (h : mv.length = xs.length) (g' : Grown x0 on m ys mv') (h' : mv'.length = ys.length) : mv = mv' ∧ xs = ys :=
 rows_one (m := m) (on := on) g.once g'.once mv mv' 0 1 _ _ g.go g'.go (fun j hj => by rw [show j = 0 by omega, g.first, g'.first]) (fun k r z => by rw [Nat.zero_add]; exact g.row k r z) (fun k r z => by rw [Nat.zero_add]; exact g'.row k r z) (by omega) (by omega) rfl rfl
theorem grown_most {xs ys : List α} {mv : List (List Nat)} (g : Grown x0 on m xs mv) (h : mv.length = xs.length) (nd : ys.Nodup) (hy : ∀ y ∈ ys, ∃ w, Word m w ∧ y = runA on x0 w) : ys.length ≤ xs.length :=
 List.Nodup.length_le_of_subset nd fun y z => by
  obtain ⟨w, hw, rfl⟩ := hy y z
  exact List.mem_of_getElem? (g.run h w 0 x0 g.first hw)
end
def ringB (n : Nat) : List Bool := (List.range n).map fun r => decide (r = 0)
def ringM (n : Nat) : List (List Nat) := (List.range n).map fun r => [r, (r + 1) % n]
theorem ringB_len (n : Nat) : (ringB n).length = n := by rw [ringB, List.length_map, List.length_range]
theorem ringM_len (n : Nat) : (ringM n).length = n := by rw [ringM, List.length_map, List.length_range]
theorem ring_moves {n : Nat} : Moves (ringB n).length (2 ^ (["n"] : List Str).length) (ringM n) := by
 refine ⟨by rw [ringM_len, ringB_len], fun l hl => ?_⟩
 obtain ⟨r, hr, rfl⟩ := List.mem_map.mp hl
 have hr' := List.mem_range.mp hr
 refine ⟨rfl, fun x hx => ?_⟩
 rw [ringB_len]
 rcases List.mem_cons.mp hx with e | e
 ·rw [e]; exact hr'
 ·rw [List.mem_singleton.mp e]; exact Nat.mod_lt _ (by omega)
theorem ring_stp {n r : Nat} (h : r < n) : stp (ringM n) r 1 = (r + 1) % n := by
 have e : (ringM n).getD r [] = [r, (r + 1) % n] := by rw [ringM, List.getD_eq_getElem?_getD, List.getElem?_map, List.getElem?_range h]; rfl
 unfold stp
 rw [e]; rfl
theorem ring_run {n : Nat} (hn : 0 < n) : ∀ (k j : Nat), run (ringM n) (j % n) (List.replicate k 1) = (j + k) % n
 | 0, j => rfl
 | k + 1, j => by
  rw [List.replicate_succ, run, ring_stp (Nat.mod_lt _ hn), show (j % n + 1) % n = (j + 1) % n by rw [Nat.mod_add_mod], ring_run hn k (j + 1)]
  congr 1
  omega
theorem ring_co (n : Nat) : Nat.Coprime n (n + 1) := by
 rw [Nat.coprime_iff_gcd_eq_one, Nat.gcd_self_add_right, Nat.gcd_one_right]
theorem ring_le {n a b : Nat} (ab : a ≤ b) (hb : b < n * (n + 1)) (h1 : a % n = b % n) (h2 : a % (n + 1) = b % (n + 1)) : a = b := by
 have d1 : n ∣ b - a := Nat.dvd_of_mod_eq_zero (Nat.sub_mod_eq_zero_of_mod_eq h1.symm)
 have d2 : n + 1 ∣ b - a := Nat.dvd_of_mod_eq_zero (Nat.sub_mod_eq_zero_of_mod_eq h2.symm)
 have d := (ring_co n).mul_dvd_of_dvd_of_dvd d1 d2
 have := Nat.eq_zero_of_dvd_of_lt d (by omega)
 omega
def ringP (n : Nat) : List (List Nat) := (List.range (n * (n + 1))).map fun k => [k % n, k % (n + 1)]
theorem ringP_len (n : Nat) : (ringP n).length = n * (n + 1) := by rw [ringP, List.length_map, List.length_range]
theorem ringP_nd (n : Nat) : (ringP n).Nodup := by
 refine List.pairwise_map.mpr (List.Pairwise.imp_of_mem (R := fun a b => a < b) (fun {a b} ha hb lt e => ?_) List.pairwise_lt_range)
 injection e with e1 e2
 injection e2 with e2 _
 have := ring_le (Nat.le_of_lt lt) (List.mem_range.mp hb) e1 e2
 omega
theorem ring_own : (ownL 2 ["n"] ["n"]).getD 1 0 = 1 := by decide +kernel
theorem ringP_reach {n : Nat} (hn : 0 < n) : ∀ y ∈ ringP n, ∃ w, Word (2 ^ (["n"] : List Str).length) w ∧ y = runA (onB (ringM n) (ringM (n + 1)) (ownL 2 ["n"] ["n"]) (ownL 2 ["n"] ["n"])) [0, 0] w := fun y hy => by
 obtain ⟨k, _, rfl⟩ := List.mem_map.mp hy
 refine ⟨List.replicate k 1, fun x hx => by rw [List.eq_of_mem_replicate hx]; decide, ?_⟩
 rw [onB_run, List.map_replicate, ring_own]
 have r1 := ring_run hn k 0
 have r2 := ring_run (show 0 < n + 1 by omega) k 0
 rw [Nat.zero_mod, Nat.zero_add] at r1 r2
 rw [r1, r2]
inductive spRingI (vs : List V) (H : Hp) (Q : VK) (E_3 : XK) : Prop where
 | mk (n : Nat) (h0_ : vs = [.int n]) (h1_ : 0 < n) (h2_ : n ≤ 100) (h3_ : ∀ (m : Addr) (H' : Hp), Same H H' → Mc 2 H' m ["n"] (ringB n) (ringM n) → Q (.ref m) H')
def spRing : Sp := fun vs H Q E_3 => spRingI vs H Q E_3
theorem sc_l_ring : FnScope ["_law_rooms", "_law_moves"] ["_law_rooms"] (defScope s_l_ring) := ⟨rfl, rfl, rfl, by decide +kernel, rfl, by decide +kernel, by decide +kernel⟩
theorem ok_l_ring {a : Adr} (T : Txt K mg a) : FnOk P w K mg base CX0 1 a.f_l_ring a.fd_l_ring ["_law_rooms"] spRing := by
 refine T.F_l_ring.ok sc_l_ring (fun vs H Q E h => ?_) (fun cdv A outer s H vs Q E hr h => ?_)
 ·obtain ⟨n, rfl, _⟩ := h
  rfl
 ·obtain ⟨n, rfl, h0, h100, k⟩ := h
  refine ⟨_, (pss_cons (ps_setComp (i := 1) (CompScope.mk' (esc := defScope s_l_ring) (N := ["_law_rooms", "_law_moves"]) (own := ["_law_room"]) (frn := ["_law_rooms"]) (frj := [0]) rfl rfl (by decide +kernel)) rfl (pi_range1 rfl T.z_range (pa_cons (pv 0) pa_nil)) (fun _ _ _ _ => (pg_name (i := 0) (show List.Nodup (["_law_room", "_law_rooms"] : List Str) by decide +kernel) rfl (Or.inl rfl))) (fun _ _ _ _ => pifs_nil) (fun _ _ _ _ => (pe_tup (pa_cons (pv 0) (pa_cons (pe_op op_modP (pe_op op_add (pv 0) pe_int) (pv 1)) pa_nil)))) sc_l_ring.nd rfl rfl)
  (pss_one (ps_ret (pe_tup (pa_cons (pe_tup (pa_cons pe_str pa_nil)) (pa_cons (pe_callTy (call_tupleK K) (by rfl) T.z_tuple bt_tuple (pa_cons (pe_comp (CompScope.mk' (esc := defScope s_l_ring) (N := ["_law_rooms", "_law_moves"]) (own := ["_law_room"]) (frn := []) (frj := []) rfl rfl (by decide +kernel)) rfl (pi_range1 rfl T.z_range (pa_cons (pv 0) pa_nil)) (fun _ _ _ _ => (pg_name (i := 0) (show List.Nodup (["_law_room"] : List Str) by decide +kernel) rfl (Or.inl rfl))) (fun _ _ _ _ => pifs_nil) (fun _ _ _ _ => (pe_cmpR op_eq (pv 0) pe_int (nomark _)))) pa_nil)) (pa_cons (pe_callTy (call_tupleK K) (by rfl) T.z_tuple bt_tuple (pa_cons (pv 1) pa_nil)) pa_nil))))))), ?_⟩
  have big : (10000 : Nat) ≤ sizeLine := by decide
  refine ⟨_, rfl, n, rfl, by omega, by omega, fun C hC => ?_⟩
  refine comp_range (fun i σ H' => ∃ (ps : List Addr) (v : Option V), σ = [v, some (.int (n : Nat))] ∧ Same H H' ∧ H' C = some (.lst (ps.map V.ref)) ∧ Tups H' ps (((List.range i).map fun r => [r, (r + 1) % n]).map castI)) ⟨[], none, ?sg, Same.new hC, upd_same, .nil⟩ ?_ ?_
  case sg => rfl
  ·rintro i σ H1 hi ⟨ps, v, rfl, s1, c1, tp⟩
   have li : i < n := by simpa using hi
   have lps : ps.length = i := by rw [Paired.length tp]; simp
   have e0 : (0 : Int) + (i : Int) = ((i : Nat) : Int) := by omega
   rw [e0]
   refine ⟨_, rfl, _, rfl, _, _, rfl, rfl, _, rfl, _, _, rfl, rfl, cpos (by omega), by show 2 ≤ sizeLine; decide, fun q hq => ?_⟩
   have sq := Same.new (o := .tup [.int (i : Nat), .int (((i : Nat) + 1 : Int) % (n : Nat))]) hq
   have c2 := sq _ _ c1
   refine ⟨_, c2, by rw [List.length_map]; omega, ps ++ [q], _, rfl, (s1.trans sq).kbn hC KB.write, by rw [upd_same, List.map_append]; rfl, ?_⟩
   rw [List.range_succ, List.map_append, List.map_append]
   refine paired_append ((tp.keep sq.kt).keep (KTu.lst c2)) (.cons (KTu.lst c2 _ _ ?_) .nil)
   exact upd_same
  rintro σ H1 ⟨ps, v, rfl, s1, c1, tp⟩
  dsimp only [gName]
  refine ⟨by show 1 ≤ sizeLine; decide, fun N hN => ?_⟩
  have sN := Same.new (o := .tup [.str "n"]) hN
  have s2 := s1.trans sN
  refine ⟨_, rfl, n, rfl, by omega, by omega, fun C2 hC2 => ?_⟩
  refine comp_range (fun i σ H' => ∃ (v : Option V), σ = [v] ∧ Same (upd H1 N (.tup [.str "n"])) H' ∧ H' C2 = some (.lst (((List.range i).map fun r => decide (r = 0)).map V.bl))) ⟨none, ?sg, Same.new hC2, upd_same⟩ ?_ ?_
  case sg => rfl
  ·rintro i σ H3 hi ⟨v, rfl, s3, c3⟩
   have li : i < n := by simpa using hi
   have e0 : (0 : Int) + (i : Int) = ((i : Nat) : Int) := by omega
   rw [e0]
   refine ⟨_, rfl, rfl, _, c3, by rw [List.length_map, List.length_map, List.length_range]; omega, _, rfl, s3.kbn hC2 KB.write, ?_⟩
   rw [upd_same, List.range_succ, List.map_append, List.map_append]
   have : decide (V.int ((i : Nat) : Int) = V.int 0) = decide (i = 0) := by
    by_cases z : i = 0
    ·subst z; rfl
    ·rw [decide_eq_false z, decide_eq_false]
     intro e; injection e with e; omega
   rw [this]; rfl
  rintro σ H3 ⟨v, rfl, s3, c3⟩
  refine ⟨C2, _, rfl, .inl ⟨.of c3, fun Y hY => ?_⟩⟩
  have sY := Same.new (o := .tup (((List.range (n : Int).toNat).map fun r => decide (r = 0)).map V.bl)) hY
  have s5 := s3.trans sY
  have eC := s5 _ _ (sN _ _ c1)
  refine ⟨_, rfl, C, _, rfl, .inl ⟨.of eC, fun va hva => ⟨by show 3 ≤ sizeLine; decide, fun m hm => ?_⟩⟩⟩
  have sv := Same.new (o := .tup (ps.map V.ref)) hva
  have sm := Same.new (o := .tup [.ref N, .ref Y, .ref va]) hm
  have sA := sv.trans sm
  have sAll := (s2.trans s5).trans sA
  refine k m _ sAll ⟨N, ⟨Y, va, ps, upd_same, sA _ _ upd_same, sm _ _ upd_same, (tp.keep ((sN.trans s5).trans sA).kt)⟩, sA _ _ (s5 _ _ upd_same), ring_moves, by rw [ringB_len]; exact h0⟩
def RF (n : Nat) (v : V) (H : Hp) : Prop := (2000 < n * (n + 1) ∧ v = .non) ∨ (n * (n + 1) ≤ 2000 ∧ ∃ (m nm ya va : Addr) (bs : List Bool), v = .ref m ∧ H m = some (.tup [.ref nm, .ref ya, .ref va]) ∧ H ya = some (.tup (bs.map V.bl)) ∧ bs.length = n * (n + 1))
theorem RF.keep {n : Nat} {v : V} {H H' : Hp} (h : RF n v H) (k : KTu H H') : RF n v H' := by
 rcases h with h | ⟨h1, m, nm, ya, va, bs, h2, h3, h4, h5⟩
 ·exact .inl h
 ·exact .inr ⟨h1, m, nm, ya, va, bs, h2, k _ _ h3, k _ _ h4, h5⟩
inductive spJoinRI (a : Adr) (vs : List V) (H : Hp) (Q : VK) (E_3 : XK) : Prop where
 | mk (n : Nat) (m1 m2 : Addr) (h0_ : vs = [.int (2 : Nat), .ref m1, .ref m2, .int (2000 : Nat)]) (h1_ : 0 < n) (h2_ : Mc 2 H m1 ["n"] (ringB n) (ringM n)) (h3_ : Mc 2 H m2 ["n"] (ringB (n + 1)) (ringM (n + 1))) (h4_ : TB a H) (h5_ : ∀ (v : V) (H' : Hp), KX a H H' → TB a H' → RF n v H' → Q v H')
def spJoinR (a : Adr) : Sp := fun vs H Q E_3 => spJoinRI a vs H Q E_3
theorem joinR {op : Bool → Bool → Bool} {a : Adr} {k : Nat} {f : Addr} {fd : FuncData} {ps : List Str} (F : FnOk P w K mg base CX0 k f fd ps (spJoinO op a)) : FnOk P w K mg base CX0 k f fd ps (spJoinR a) := F.imp fun vs H Q E h => by
 obtain ⟨n, m1, m2, rfl, hn, c1, c2, tb, q⟩ := h
 refine ⟨2, 2000, m1, m2, ["n"], ["n"], ringB n, ringB (n + 1), ringM n, ringM (n + 1), rfl, by decide, by decide, c1, c2, by decide, by decide, by decide, tb, fun us H' nd mem srt kx tb' => ?_⟩
 obtain rfl : us = (["n"] : List Str) := sorted_uniq srt rfl nd (List.pairwise_singleton _ _) fun y => (mem y).trans (or_self_iff)
 have lo : ∀ xs : List (List Nat), xs.Nodup → (∀ x ∈ xs, ∃ w, Word (2 ^ (["n"] : List Str).length) w ∧ x = runA (onB (ringM n) (ringM (n + 1)) (ownL 2 ["n"] ["n"]) (ownL 2 ["n"] ["n"])) [0, 0] w) → xs.length ≤ n * (n + 1) := fun xs nd hx => by
  have := okB_few (n1 := n) (n2 := n + 1) nd fun x z => by
   obtain ⟨w, hw, rfl⟩ := hx x z
   refine okB_run (B := 2 ^ (["n"] : List Str).length) (?_) ⟨0, 0, rfl, hn, by omega⟩ hw
   rintro x c ⟨i, j, e, hi, hj⟩ hc
   subst e
   have r1 := ring_moves (n := n)
   have r2 := ring_moves (n := n + 1)
   rw [ringB_len] at r1 r2
   exact ⟨_, _, rfl, r1.stp hi (own_lt (by decide) hc), r2.stp hj (own_lt (by decide) hc)⟩
  exact this
 refine ⟨fun xs ndx rc lt => ?_, fun m nm xs mv mch enm hl le gr => ?_⟩
 ·exact q .non H' kx tb' (.inl ⟨by have := lo xs ndx rc; omega, rfl⟩)
 ·have l1 := lo xs gr.once gr.reach
  have l2 := grown_most gr hl (ringP_nd n) (ringP_reach hn)
  rw [ringP_len] at l2
  obtain ⟨ya, va, ps, e1, e2, _, _⟩ := mch
  exact q (.ref m) H' kx tb' (.inr ⟨by omega, m, nm, ya, va, _, rfl, e1, e2, by rw [List.length_map]; omega⟩)
inductive spTwoI (a : Adr) (vs : List V) (H : Hp) (Q : VK) (E_3 : XK) : Prop where
 | mk (n : Nat) (h0_ : vs = [.int n]) (h1_ : 0 < n) (h2_ : n ≤ 99) (h3_ : TB a H) (h4_ : ∀ H', KX a H H' → Q (.bl true) H')
def spTwo (a : Adr) : Sp := fun vs H Q E_3 => spTwoI a vs H Q E_3
theorem sc_l_two_rings : FnScope ["_law_rooms", "_law_one", "_law_other", "_law_found"] ["_law_rooms"] (defScope s_l_two_rings) := ⟨rfl, rfl, rfl, by decide +kernel, rfl, by decide +kernel, by decide +kernel⟩
theorem ok_l_two_rings {a : Adr} (T : Txt K mg a) (hB : BltAt mg base) : FnOk P w K mg base CX0 6 a.f_l_two_rings a.fd_l_two_rings ["_law_rooms"] (spTwo a) := by
 have G_l_ring := ok_l_ring (P := P) (w := w) (base := base) T
 have G_both_of := joinR (ok_both_of (P := P) (w := w) (base := base) T hB)
 have G_either_of := joinR (ok_either_of (P := P) (w := w) (base := base) T hB)
 have vdef : ∀ t : Tok, Vals [V.int 2000] [Value.int 2000 t] := fun t => .cons ⟨t, rfl⟩ .nil
 obtain ⟨_, db_both_of⟩ := T.d_both_of
 obtain ⟨_, db_either_of⟩ := T.d_either_of
 refine T.F_l_two_rings.ok sc_l_two_rings (fun vs H Q E h => ?_) (fun cdv A outer s H vs Q E hr h => ?_)
 ·obtain ⟨n, rfl, _⟩ := h
  rfl
 ·obtain ⟨n, rfl, h0, h99, tb, k⟩ := h
  have hr_l_ring : Room 1 _ := hr.mono (by decide)
  have hr_both_of : Room 5 _ := hr
  have hr_either_of : Room 5 _ := hr
  refine ⟨_, (pss_cons (ps_set (i := 1) sc_l_two_rings.nd rfl (Or.inl rfl) (pe_call G_l_ring hr_l_ring rfl T.m_l_ring T.k_l_ring T.b_l_ring .nil pass0 (pa_cons (pv 0) pa_nil)))
  (pss_cons (ps_set (i := 2) sc_l_two_rings.nd rfl (Or.inl rfl) (pe_call G_l_ring hr_l_ring rfl T.m_l_ring T.k_l_ring T.b_l_ring .nil pass0 (pa_cons (pe_op op_add (pv 0) pe_int) pa_nil)))
  (pss_cons (ps_for PassesOwn.never rfl (pi_tup (pe_tup (pa_cons (pe_call G_both_of hr_both_of rfl T.m_both_of T.k_both_of db_both_of (vdef _) pass0 (pa_cons pe_int (pa_cons (pv 1) (pa_cons (pv 2) pa_nil)))) (pa_cons (pe_call G_either_of hr_either_of rfl T.m_either_of T.k_either_of db_either_of (vdef _) pass0 (pa_cons pe_int (pa_cons (pv 1) (pa_cons (pv 2) pa_nil)))) pa_nil)))) (pg_name (i := 3) sc_l_two_rings.nd rfl (Or.inl rfl))
   (pss_cons (ps_if (PW.pt (pw_and (pt_cmpR op_gt (pe_op op_mul (pv 0) (pe_op op_add (pv 0) pe_int)) pe_int (nomark _)) (pw_and1 (pt_cmpR op_notN (pv 3) pe_non (nomark _)))))
    (pss_one (ps_ret pe_bl))
    pss_nil)
   (pss_one (ps_if (PW.pt (pw_and (pt_cmpR op_le (pe_op op_mul (pv 0) (pe_op op_add (pv 0) pe_int)) pe_int (nomark _)) (pw_and1 (PW.pt (pw_or (pt_cmpR op_isN (pv 3) pe_non (nomark _)) (pw_or1 (pt_cmpR op_ne (pe_callB (call_lenK K) (by rfl) T.z_len bt_len (pa_cons (pe_ix (ix_tupK K) (pv 3) pe_int (fun _ _ => rfl)) pa_nil)) (pe_op op_mul (pv 0) (pe_op op_add (pv 0) pe_int)) (nomark _))))))))
    (pss_one (ps_ret pe_bl))
    pss_nil))))
  (pss_one (ps_ret pe_bl))))), ?_⟩
  have big : (10000 : Nat) ≤ sizeLine := by decide
  refine hideS fun Y hY => ?_
  refine ⟨_, rfl, n, rfl, h0, by omega, fun m1 H1 s1 c1 => ?_⟩
  dsimp only [gName]
  subst hY
  refine hideS fun Y hY => ?_
  refine ⟨_, rfl, _, _, rfl, rfl, n + 1, rfl, by omega, by omega, fun m2 H2 s2 c2 => ?_⟩
  dsimp only [gName]
  subst hY
  refine hideS fun Y hY => ?_
  have s12 := s1.trans s2
  refine ⟨_, rfl, _, rfl, n, m1, m2, rfl, h0, c1.keep s2.kt, c2, tb.same s12, fun v1 H3 k3 tb3 r1 => ?_⟩
  refine ⟨_, rfl, _, rfl, n, m1, m2, rfl, h0, (c1.keep s2.kt).keep k3.kt, c2.keep k3.kt, tb3, fun v2 H4 k4 tb4 r2 => ?_⟩
  refine ⟨by show 2 ≤ sizeLine; decide, fun t ht => ?_⟩
  have st := Same.new (o := .tup [v1, v2]) ht
  have kAll : KX a H (upd H4 t (.tup [v1, v2])) := (KX.same s12).trans (k3.trans (k4.trans (KX.same st)))
  have ra := (r1.keep k4.kt).keep st.kt
  have rb := r2.keep st.kt
  have et : (upd H4 t (.tup [v1, v2])) t = some (.tup [v1, v2]) := upd_same
  generalize upd H4 t (.tup [v1, v2]) = H5 at st kAll ra rb et ⊢
  refine ⟨t, rfl, ⟨_, .of et⟩, for_tupN (xs := [v1, v2]) (fun i σ H' => ∃ v3 : Option V, σ = [some (.int (n : Nat)), some (.ref m1), some (.ref m2), v3] ∧ H' = H5) ⟨none, rfl, rfl⟩ (fun i σ H' _ ⟨_, _, e⟩ => e ▸ .of et) ?_ ?_⟩
  ·rintro i x σ H6 N hN hx ⟨v3, rfl, rfl⟩
   have rx : RF n x H6 := by
    match i, hx with
    | 0, e => cases e; exact ra
    | 1, e => cases e; exact rb
   have fin := hN [some (.int (n : Nat)), some (.ref m1), some (.ref m2), some x] H6 ⟨_, rfl, rfl⟩
   have en : (n : Int) * ((n : Int) + 1) = ((n * (n + 1) : Nat) : Int) := by rw [Int.natCast_mul, Int.natCast_add]; rfl
   have hM : CMul (n : Int) ((n : Int) + 1) := .inl (by constructor <;> omega)
   dsimp only [gName]
   rcases rx with ⟨g1, rfl⟩ | ⟨g1, m, nm, ya, va, bs, rfl, e1, e2, lb⟩
   ·refine ⟨_, rfl, _, rfl, _, _, rfl, rfl, _, _, rfl, rfl, hM, _, _, rfl, rfl, _, rfl, ?_⟩
    rw [en, show decide ((2000 : Int) < ((n * (n + 1) : Nat) : Int)) = true from decide_eq_true (by omega)]
    refine iteT ?_
    refine ⟨_, rfl, rfl, _, rfl, ?_⟩
    refine iteF ?_
    refine ⟨_, rfl, _, rfl, _, _, rfl, rfl, _, _, rfl, rfl, hM, _, _, rfl, rfl, _, rfl, ?_⟩
    rw [en, show decide (((n * (n + 1) : Nat) : Int) ≤ (2000 : Int)) = false from decide_eq_false (by omega)]
    refine iteF ?_
    refine iteF ?_
    exact fin
   ·refine ⟨_, rfl, _, rfl, _, _, rfl, rfl, _, _, rfl, rfl, hM, _, _, rfl, rfl, _, rfl, ?_⟩
    rw [en, show decide ((2000 : Int) < ((n * (n + 1) : Nat) : Int)) = false from decide_eq_false (by omega)]
    refine iteF ?_
    refine iteF ?_
    refine ⟨_, rfl, _, rfl, _, _, rfl, rfl, _, _, rfl, rfl, hM, _, _, rfl, rfl, _, rfl, ?_⟩
    rw [en, show decide (((n * (n + 1) : Nat) : Int) ≤ (2000 : Int)) = true from decide_eq_true (by omega)]
    refine iteT ?_
    refine ⟨_, rfl, rfl, _, rfl, ?_⟩
    refine iteF ?_
    refine ⟨_, rfl, m, _, _, .ref ya, rfl, rfl, .of e1, atI_nat (j := 1) rfl, _, bs.length, rfl, .inr ⟨_, .of e2, by rw [List.length_map]⟩, _, rfl, _, rfl, _, _, rfl, rfl, _, _, rfl, rfl, hM, rfl, _, rfl, ?_⟩
    have ev : V.int (bs.length : Int) = V.int ((n : Int) * ((n : Int) + 1)) := by rw [en, lb]
    refine ite2 (fun z => ?_) (fun _ => fin)
    have z' : (!decide (V.int (bs.length : Int) = V.int ((n : Int) * ((n : Int) + 1)))) = true := z
    rw [decide_eq_true ev] at z'
    exact absurd z' (by decide)
  ·rintro σ H6 ⟨v3, rfl, rfl⟩
   subst hY
   exact k H6 kAll
structure Due (b : Nat) (ss ts : List Str) (mv1 mv2 : List (List Nat)) (us : List Str) (xs mv : List (List Nat)) : Prop where
 nd : us.Nodup
 mem : ∀ y, y ∈ us ↔ y ∈ ss ∨ y ∈ ts
 srt : PyProof.Rows.sortedS us = true
 len : mv.length = xs.length
 gr : Grown [0, 0] (onB mv1 mv2 (ownL b us ss) (ownL b us ts)) (b ^ us.length) xs mv
inductive spAskI (op : Bool → Bool → Bool) (a : Adr) (vs : List V) (H : Hp) (Q : VK) (E_3 : XK) : Prop where
 | mk (b most : Nat) (m1 m2 : Addr) (ss ts : List Str) (bs1 bs2 : List Bool) (mv1 mv2 : List (List Nat)) (us : List Str) (xs mv : List (List Nat)) (h0_ : vs = [.int b, .ref m1, .ref m2, .int (most : Nat)]) (h1_ : 2 ≤ b) (h2_ : b ≤ 4) (h3_ : Mc b H m1 ss bs1 mv1) (h4_ : Mc b H m2 ts bs2 mv2) (h5_ : ss.length ≤ 2) (h6_ : ts.length ≤ 2) (h7_ : most ≤ 10000) (h8_ : TB a H) (h9_ : us.Nodup) (h10_ : (∀ y, y ∈ us ↔ y ∈ ss ∨ y ∈ ts)) (h11_ : PyProof.Rows.sortedS us = true) (h12_ : ((Due b ss ts mv1 mv2 us xs mv ∧ xs.length ≤ most ∧ ∀ (m nm : Addr) (H' : Hp), KX a H H' → TB a H' → MachAt H' m nm (xs.map (yesB op bs1 bs2)) mv → H' nm = some (.tup (us.map V.str)) → Q (.ref m) H') ∨ (Due b ss ts mv1 mv2 us xs mv ∧ most < xs.length ∧ ∀ H' : Hp, KX a H H' → TB a H' → Q .non H') ∨ (bs1.length * bs2.length ≤ most ∧ ∀ (m nm ya va : Addr) (H' : Hp), KX a H H' → TB a H' → H' m = some (.tup [.ref nm, .ref ya, .ref va]) → H' nm = some (.tup (us.map V.str)) → Q (.ref m) H')))
def spAsk (op : Bool → Bool → Bool) (a : Adr) : Sp := fun vs H Q E_3 => spAskI op a vs H Q E_3
theorem askM {P : Program} {w : World} {K : PySem.W.Frag} {mg : Str → Option Value} {base : Heap} {op : Bool → Bool → Bool} {a : Adr} {k : Nat} {f : Addr} {fd : FuncData} {ps : List Str} (F : FnOk P w K mg base CX0 k f fd ps (spJoinO op a)) : FnOk P w K mg base CX0 k f fd ps (spAsk op a) := F.imp fun vs H Q E h => by
 obtain ⟨b, most, m1, m2, ss, ts, bs1, bs2, mv1, mv2, us, xs, mv, rfl, hb2, hb4, c1, c2, ls, lt, hmost, tb, nd, mem, srt, q⟩ := h
 refine ⟨b, most, m1, m2, ss, ts, bs1, bs2, mv1, mv2, rfl, hb2, hb4, c1, c2, ls, lt, hmost, tb, fun us' H' nd' mem' srt' kx tb' => ?_⟩
 obtain rfl : us' = us := sorted_uniq srt' srt nd' nd fun y => (mem' y).trans (mem y).symm
 rcases q with ⟨d, le, q⟩ | ⟨d, lt', q⟩ | ⟨few, q⟩
 ·refine ⟨fun xs' ndx rc lt => absurd (grown_most d.gr d.len ndx rc) (by omega), fun m nm xs' mv' mch enm hl le' gr => ?_⟩
  obtain ⟨e1, e2⟩ := grown_uniq gr hl d.gr d.len
  subst e1 e2
  exact q m nm H' kx tb' mch enm
 ·refine ⟨fun xs' ndx rc lt => q H' kx tb', fun m nm xs' mv' mch enm hl le' gr => ?_⟩
  obtain ⟨e1, e2⟩ := grown_uniq gr hl d.gr d.len
  subst e1 e2
  omega
 ·obtain ⟨_, _, _, mo1, p1⟩ := c1
  obtain ⟨_, _, _, mo2, p2⟩ := c2
  have hb0 : 0 < b := by omega
  refine ⟨fun xs' ndx rc lt => absurd (okB_few (n1 := bs1.length) (n2 := bs2.length) ndx fun x z => ?_) (by omega), fun m nm xs' mv' mch enm hl le' gr => ?_⟩
  ·obtain ⟨w, hw, rfl⟩ := rc x z
   refine okB_run (?_) ⟨0, 0, rfl, p1, p2⟩ hw
   rintro x c ⟨i, j, e, hi, hj⟩ hc
   subst e
   exact ⟨_, _, rfl, mo1.stp hi (own_lt hb0 hc), mo2.stp hj (own_lt hb0 hc)⟩
  ·obtain ⟨ya, va, ps', e1, _⟩ := mch
   exact q m nm ya va H' kx tb' e1 enm
theorem dats_strs {K : PySem.W.Frag} {H : Hp} : ∀ ss : List Str, DatsAt K H (ss.map V.str) (ss.map Dt.str)
 | [] => dats_nil
 | s :: ss => dats_cons dat_str (dats_strs ss)
theorem dats_bls {K : PySem.W.Frag} {H : Hp} : ∀ ss : List Bool, DatsAt K H (ss.map V.bl) (ss.map Dt.bl)
 | [] => dats_nil
 | s :: ss => dats_cons (by rw [DatAt]) (dats_bls ss)
def rowDt (l : List Nat) : Dt := .tup ((castI l).map Dt.int)
theorem dats_rows {K : PySem.W.Frag} {H : Hp} : ∀ {ps : List Addr} {mv : List (List Nat)}, Tups H ps (mv.map castI) → DatsAt K H (ps.map V.ref) (mv.map rowDt)
 | [], [], _ => dats_nil
 | _ :: _, [], h => nomatch h
 | [], _ :: _, h => nomatch h
 | p :: ps, l :: mv, .cons h t => dats_cons (dat_tup (.of h) (dats_ints _)) (dats_rows t)
def machDt (ss : List Str) (bs : List Bool) (mv : List (List Nat)) : Dt := .tup [.tup (ss.map Dt.str), .tup (bs.map Dt.bl), .tup (mv.map rowDt)]
theorem deps_flat {α : Type} (f : α → Dt) (h : ∀ x, (f x).dep = 0) : ∀ l : List α, Dt.deps (l.map f) = 0
 | [] => by simp [Dt.deps]
 | x :: l => by rw [List.map_cons, Dt.deps, deps_flat f h l, h x]; rfl
theorem deps_rows : ∀ mv : List (List Nat), Dt.deps (mv.map rowDt) ≤ 1
 | [] => by simp [Dt.deps]
 | l :: mv => by
  rw [List.map_cons, Dt.deps]
  have := deps_rows mv
  have e : (rowDt l).dep = 1 := by rw [rowDt, Dt.dep, deps_ints]
  omega
theorem mach_dep (ss : List Str) (bs : List Bool) (mv : List (List Nat)) : (machDt ss bs mv).dep ≤ 40 := by
 have h1 := deps_flat Dt.str (fun _ => by simp [Dt.dep]) ss
 have h2 := deps_flat Dt.bl (fun _ => by simp [Dt.dep]) bs
 have h3 := deps_rows mv
 simp only [machDt, Dt.dep, Dt.deps, h1, h2]
 omega
theorem MachAt.dat {K : PySem.W.Frag} {H : Hp} {ma nm : Addr} {ss : List Str} {bs : List Bool} {mv : List (List Nat)} (h : MachAt H ma nm bs mv) (e : H nm = some (.tup (ss.map V.str))) : DatAt K H (.ref ma) (machDt ss bs mv) := by
 obtain ⟨ya, va, ps, e1, e2, e3, tp⟩ := h
 exact dat_tup (.of e1) (dats_cons (dat_tup (.of e) (dats_strs ss)) (dats_cons (dat_tup (.of e2) (dats_bls bs)) (dats_cons (dat_tup (.of e3) (dats_rows tp)) dats_nil)))
theorem names_dep (ss : List Str) : (Dt.tup (ss.map Dt.str)).dep ≤ 40 := by
 have h1 := deps_flat Dt.str (fun _ => by simp [Dt.dep]) ss
 simp only [Dt.dep, h1]
 omega
inductive spLawI (K : PySem.W.Frag) (ts : List Addr) (vs : List V) (H : Hp) (Q : VK) (E_3 : XK) : Prop where
 | mk (a : Addr) (ns : List Int) (h0_ : vs = [.ref a]) (h1_ : SqL K H a (ns.map V.int)) (h2_ : ns.length ≤ 63) (h3_ : OnlyT ts H) (h4_ : ∀ H', Q (.bl true) H')
def spLaw (K : PySem.W.Frag) (ts : List Addr) : Sp := fun vs H Q E_3 => spLawI K ts vs H Q E_3
theorem Feed.tb {a : Adr} {H H' : Hp} {F L : Addr} (t : TB a H) (f : Feed H F L) (k : KB2 F L H H') : TB a H' := by
 obtain ⟨ms, n, sd, e1, e2, _⟩ := f.ex
 have one : ∀ {T : Addr} {M : List (Pos × Str)}, Tab H T M → Tab H' T M := fun {T M} x => by
  obtain ⟨ps, h1, h2, h3⟩ := x
  refine ⟨ps, k _ _ h1 (fun z => by rw [z, e1] at h1; cases h1) (fun z => by rw [z, e2] at h1; cases h1), h2, fun p hp => ?_⟩
  rcases h3 p hp with z | ⟨c, z1, z2⟩
  ·exact .inl z
  ·exact .inr ⟨c, z1, k _ _ z2 (fun z => by rw [z, e1] at z2; cases z2) fun z => by rw [z, e2] at z2; cases z2⟩
 exact ⟨one t.po, one t.bg, one t.eg, one t.du⟩
theorem Feed.kx {a : Adr} {H H' : Hp} {F L : Addr} (f : Feed H F L) (k : KX a H H') : Feed H' F L := by
 obtain ⟨ms, n, sd, e1, e2, h⟩ := f.ex
 exact ⟨ms, n, sd, k _ _ e1 (fun _ z => nomatch z), k _ _ e2 (fun _ z => nomatch z), h⟩
theorem TB.lst {a : Adr} {H : Hp} {S : Addr} {xs : List V} {o : HO} (t : TB a H) (e : H S = some (.lst xs)) : TB a (upd H S o) := by
 have one : ∀ {T : Addr} {M : List (Pos × Str)}, Tab H T M → Tab (upd H S o) T M := fun {T M} x => by
  obtain ⟨ps, h1, h2, h3⟩ := x
  refine ⟨ps, by rw [upd_ne (fun z => by rw [z, e] at h1; cases h1)]; exact h1, h2, fun p hp => ?_⟩
  rcases h3 p hp with z | ⟨c, z1, z2⟩
  ·exact .inl z
  ·exact .inr ⟨c, z1, by rw [upd_ne (fun z => by rw [z, e] at z2; cases z2)]; exact z2⟩
 exact ⟨one t.po, one t.bg, one t.eg, one t.du⟩
theorem no_part {σ : St} {H : Hp} {Q : Option Int → Hp → Prop} (h : Q none H) : tNoPart σ H Q := h
theorem slW_by {K : PySem.W.Frag} {H : Hp} {a : Addr} {xs : List V} {lo hi : Option Int} {Q : VK} (ea : H a = some (.tup xs)) (h : ∀ u H', Same H H' → H' u = some (.tup (cutV xs lo hi)) → Q (.ref u) H') : rSlTW K (.ref a) lo hi H Q := by
 refine ⟨a, xs, rfl, .of ea, fun c => h a H (Same.refl _) ?_, fun _ p hp => h p _ (Same.new hp) upd_same⟩
 unfold cutV
 rw [c.1, c.2, List.drop_zero, Nat.sub_zero, List.take_length]
 exact ea
theorem cut_sub (ss : List Str) (lo hi : Option Int) : ∃ ts : List Str, cutV (ss.map V.str) lo hi = ts.map V.str ∧ ts.Sublist ss := by
 unfold cutV
 exact ⟨(ss.drop _).take _, by rw [List.map_take, List.map_drop], (List.take_sublist _ _).trans (List.drop_sublist _ _)⟩
theorem cut_two (xs : List V) : (cutV xs none (some 2)).length ≤ 2 := by
 unfold cutV
 have e : HT.sIx xs.length xs.length (some 2) = min 2 xs.length := HT.sIx_nat xs.length xs.length 2
 rw [List.length_take, e]
 omega
theorem sorted_sub {l m : List Str} (h : l.Sublist m) (s : PyProof.Rows.sortedS m = true) : PyProof.Rows.sortedS l = true := PyProof.Rows.sortedS_of_pairwise _ ((sorted_pw s).sublist h)
structure MW (b : Nat) (H : Hp) (m : Addr) (ss : List Str) (bs : List Bool) (mv : List (List Nat)) : Prop where
 mc : Mc b H m ss bs mv
 l2 : ss.length ≤ 2
 nd : ss.Nodup
 srt : PyProof.Rows.sortedS ss = true
 le : bs.length ≤ 7
theorem MW.keep {b : Nat} {H H' : Hp} {m : Addr} {ss : List Str} {bs : List Bool} {mv : List (List Nat)} (h : MW b H m ss bs mv) (k : KTu H H') : MW b H' m ss bs mv := ⟨h.mc.keep k, h.l2, h.nd, h.srt, h.le⟩
theorem tr_map {H : Hp} {n : Nat} {p q : Addr} {α : Type} (f : α → V) (l : List α) (hf : ∀ x, Lf (f x) (f x)) (e1 : H p = some (.tup (l.map f))) (e2 : H q = some (.tup (l.map f))) (hl : l.length ≤ 3000) : Tr H (n + 2) (.ref p) (.ref q) :=
 .inr ⟨p, q, _, _, rfl, rfl, e1, e2, rfl, by rw [List.length_map]; exact hl, fun i u v hu hv => .inl (by
  rw [hu] at hv
  cases hv
  obtain ⟨x, _, rfl⟩ := List.mem_map.mp (List.mem_of_getElem? hu)
  exact hf x)⟩
theorem tr_rows {H : Hp} {p q : Addr} {ps qs : List Addr} {mv : List (List Nat)} (e1 : H p = some (.tup (ps.map V.ref))) (e2 : H q = some (.tup (qs.map V.ref))) (t1 : Tups H ps (mv.map castI)) (t2 : Tups H qs (mv.map castI)) (hl : mv.length ≤ 3000) (hr : ∀ l ∈ mv, l.length ≤ 3000) : Tr H 3 (.ref p) (.ref q) := by
 have l1 : ps.length = mv.length := by rw [Paired.length t1, List.length_map]
 have l2 : qs.length = mv.length := by rw [Paired.length t2, List.length_map]
 refine .inr ⟨p, q, _, _, rfl, rfl, e1, e2, by rw [List.length_map, List.length_map, l1, l2], by rw [List.length_map, l1]; exact hl, fun i u v hu hv => ?_⟩
 obtain ⟨a, rfl, ea⟩ := refItem hu
 obtain ⟨b, rfl, eb⟩ := refItem hv
 obtain ⟨r, er, h1⟩ := t1.get ea
 obtain ⟨r', er', h2⟩ := t2.get eb
 rw [er] at er'
 cases er'
 refine tr_map V.int r (fun x => .inl ⟨x, rfl, rfl⟩) h1 h2 ?_
 obtain ⟨l, hl', rfl⟩ := List.mem_map.mp (List.mem_of_getElem? er)
 rw [castI_len]; exact hr l hl'
theorem tr_mach {H : Hp} {m t n1 n2 y1 y2 v1 v2 : Addr} {ps qs : List Addr} {us : List Str} {bs : List Bool} {mv : List (List Nat)} (e1 : H m = some (.tup [.ref n1, .ref y1, .ref v1])) (e2 : H t = some (.tup [.ref n2, .ref y2, .ref v2])) (a1 : H n1 = some (.tup (us.map V.str))) (a2 : H n2 = some (.tup (us.map V.str)))
  (b1 : H y1 = some (.tup (bs.map V.bl))) (b2 : H y2 = some (.tup (bs.map V.bl))) (c1 : H v1 = some (.tup (ps.map V.ref))) (c2 : H v2 = some (.tup (qs.map V.ref))) (t1 : Tups H ps (mv.map castI)) (t2 : Tups H qs (mv.map castI)) (lu : us.length ≤ 3000) (lb : bs.length ≤ 3000) (hl : mv.length ≤ 3000) (hr : ∀ l ∈ mv, l.length ≤ 3000) : Tr H 4 (.ref m) (.ref t) := by
 refine .inr ⟨m, t, _, _, rfl, rfl, e1, e2, rfl, by show 3 ≤ 3000; decide, fun i u v hu hv => ?_⟩
 match i, hu, hv with
 | 0, hu, hv => cases hu; cases hv; exact tr_map V.str us (fun x => .inr (.inr ⟨x, rfl, rfl⟩)) a1 a2 lu
 | 1, hu, hv => cases hu; cases hv; exact tr_map V.bl bs (fun x => .inr (.inl ⟨x, rfl, rfl⟩)) b1 b2 lb
 | 2, hu, hv => cases hu; cases hv; exact tr_rows c1 c2 t1 t2 hl hr
def opA (j : Bool) : Bool → Bool → Bool := if j then and else or
def lsA (j : Bool) : Nat := if j then 2 else 1
theorem ls_op (j x y : Bool) : decide (((lsA j : Nat) : Int) ≤ (if x then 1 else 0) + (if y then 1 else 0)) = opA j x y := by
 cases j <;> cases x <;> cases y <;> rfl
theorem sc_law : FnScope ["_law_script", "_law_feed_here", "_law_pool", "_law_base", "_law_some", "_law_turn", "_law_own", "_law_one", "_law_other", "_law_names_here", "_law_pairs", "_law_moves", "_law_asked", "_law_least", "_law_yes", "_law_due_here"] ["_law_script"] (defScope s_law) := ⟨rfl, rfl, rfl, by decide +kernel, rfl, by decide +kernel, by decide +kernel⟩
set_option maxHeartbeats 32000000 in
theorem ok_law {a : Adr} (T : Txt K mg a) (hB : BltAt mg base) : FnOk P w K mg base CX0 7 a.f_law a.fd_law ["_law_script"] (spLaw K [a.t_pairs_onward, a.t_both_growth, a.t_either_growth, a.t_l_due]) := by
 have G_l_feed := ok_l_feed (P := P) (w := w) (base := base) T
 have G_l_draw := ok_l_draw (P := P) (w := w) (base := base) T
 have G_l_names := ok_l_names (P := P) (w := w) (base := base) T
 have G_l_machine := ok_l_machine (P := P) (w := w) (base := base) T
 have G_turned_no := ok_turned_no (P := P) (w := w) (base := base) T
 have G_l_alike : FnOk P w K mg base CX0 5 a.f_l_alike a.fd_l_alike ["_law_found", "_law_due_here"] (spAlike 4) := ok_l_alike T 4
 have G_l_due := ok_l_due (P := P) (w := w) (base := base) T hB
 have G_l_two_rings := ok_l_two_rings (P := P) (w := w) (base := base) T hB
 have vdef : ∀ t : Tok, Vals [V.int 2000] [Value.int 2000 t] := fun t => .cons ⟨t, rfl⟩ .nil
 let fA : Bool → Addr := fun j => if j then a.f_both_of else a.f_either_of
 let fdA : Bool → FuncData := fun j => if j then a.fd_both_of else a.fd_either_of
 have GA : ∀ j, FnOk P w K mg base CX0 5 (fA j) (fdA j) ["base", "one", "other", "most"] (spAsk (opA j) a) := fun j => by
  cases j
  ·exact askM (ok_either_of T hB)
  ·exact askM (ok_both_of T hB)
 have kA : ∀ j, PySem.W.keepIn K (.ref (fA j)) = true := fun j => by
  cases j
  ·exact T.k_either_of
  ·exact T.k_both_of
 have dA : ∀ j, ∃ ds, Binds K (fdA j) ["base", "one", "other", "most"] ds ∧ Vals [V.int 2000] ds := fun j => by
  cases j
  ·obtain ⟨t, h⟩ := T.d_either_of; exact ⟨_, h, vdef t⟩
  ·obtain ⟨t, h⟩ := T.d_both_of; exact ⟨_, h, vdef t⟩
 have nA : ∀ j, ∃ ds, Binds K (fdA j) ["base", "one", "other", "most"] ds ∧ Vals [] ds := fun j => by
  cases j
  ·exact ⟨_, T.b_either_of, .nil⟩
  ·exact ⟨_, T.b_both_of, .nil⟩
 refine T.F_law.ok sc_law (fun vs H Q E h => ?_) (fun cdv A outer s H vs Q E hr h => ?_)
 ·obtain ⟨sa, ns, rfl, _⟩ := h
  rfl
 ·obtain ⟨sa, ns, rfl, hS, hns, hO, k⟩ := h
  have hr_l_feed : Room 1 _ := hr.mono (by decide)
  have hr_l_draw : Room 1 _ := hr.mono (by decide)
  have hr_l_names : Room 2 _ := hr.mono (by decide)
  have hr_l_machine : Room 2 _ := hr.mono (by decide)
  have hr_turned_no : Room 1 _ := hr.mono (by decide)
  have hr_ask : Room 5 _ := hr.mono (by decide)
  have hr_l_alike : Room 5 _ := hr.mono (by decide)
  have hr_l_due : Room 3 _ := hr.mono (by decide)
  have hr_l_two_rings : Room 6 _ := hr
  refine ⟨_, (pss_cons (ps_set (i := 1) sc_law.nd rfl (Or.inl rfl) (pe_call G_l_feed hr_l_feed rfl T.m_l_feed T.k_l_feed T.b_l_feed .nil pass0 (pa_cons (pv 0) pa_nil)))
  (pss_cons (ps_set (i := 2) sc_law.nd rfl (Or.inl rfl) (pe_call G_l_names hr_l_names rfl T.m_l_names T.k_l_names T.b_l_names .nil pass0 (pa_cons (pv 1) (pa_cons pe_int pa_nil))))
  (pss_cons (ps_set (i := 3) sc_law.nd rfl (Or.inl rfl) (pe_op op_add pe_int (pe_call G_l_draw hr_l_draw rfl T.m_l_draw T.k_l_draw T.b_l_draw .nil pass0 (pa_cons (pv 1) (pa_cons pe_int pa_nil)))))
  (pss_cons (ps_set (i := 4) sc_law.nd rfl (Or.inl rfl) (pe_lst pa_nil))
  (pss_cons (ps_for PassesOwn.never rfl (pi_range1 rfl T.z_range (pa_cons pe_int pa_nil)) (pg_name (i := 5) sc_law.nd rfl (Or.inl rfl))
   (pss_cons (ps_set (i := 6) sc_law.nd rfl (Or.inl rfl) (pe_slice (sl_tupW K) (pv 2) (po_some (pe_call G_l_draw hr_l_draw rfl T.m_l_draw T.k_l_draw T.b_l_draw .nil pass0 (pa_cons (pv 1) (pa_cons pe_int pa_nil)))) (po_some (pe_op op_add pe_int (pe_call G_l_draw hr_l_draw rfl T.m_l_draw T.k_l_draw T.b_l_draw .nil pass0 (pa_cons (pv 1) (pa_cons pe_int pa_nil)))))))
   (pss_one (ps_expr (pe_bm PySem.F.plainAttrs_list PySem.F.slot_list_append PySem.F.type_list_append mt_append (pv 4) (pa_cons (pe_call G_l_machine hr_l_machine rfl T.m_l_machine T.k_l_machine T.b_l_machine .nil pass0 (pa_cons (pv 1) (pa_cons (pv 3) (pa_cons (pe_slice (sl_tupW K) (pe_slice (sl_tupW K) (pv 6) (po_some (pe_call G_l_draw hr_l_draw rfl T.m_l_draw T.k_l_draw T.b_l_draw .nil pass0 (pa_cons (pv 1) (pa_cons (pe_op op_add (pe_callB (call_lenK K) (by rfl) T.z_len bt_len (pa_cons (pv 6) pa_nil)) pe_int) pa_nil)))) po_none) po_none (po_some pe_int)) (pa_cons pe_int pa_nil))))) pa_nil))))))
  (pss_cons (ps_asg (pv 4) (pg_lst rfl (pgs_cons (pg_name (i := 7) sc_law.nd rfl (Or.inr rfl)) (pgs_cons (pg_name (i := 8) sc_law.nd rfl (Or.inr rfl)) pgs_nil))))
  (pss_cons (ps_if (pt_not (pt_truth (pe_call G_l_alike hr_l_alike rfl T.m_l_alike T.k_l_alike T.b_l_alike .nil pass0 (pa_cons (pe_call G_turned_no hr_turned_no rfl T.m_turned_no T.k_turned_no T.b_turned_no .nil pass0 (pa_cons (pv 7) pa_nil)) (pa_cons (pe_tup (pa_cons (pe_ix (ix_tupK K) (pv 7) pe_int (fun _ _ => rfl)) (pa_cons (pe_callTy (call_tupleK K) (by rfl) T.z_tuple bt_tuple (pa_cons (pe_comp (CompScope.mk' (esc := defScope s_law) (N := ["_law_script", "_law_feed_here", "_law_pool", "_law_base", "_law_some", "_law_turn", "_law_own", "_law_one", "_law_other", "_law_names_here", "_law_pairs", "_law_moves", "_law_asked", "_law_least", "_law_yes", "_law_due_here"]) (own := ["_law_yes"]) (frn := []) (frj := []) rfl rfl (by decide +kernel)) rfl (pi_tup (pe_ix (ix_tupK K) (pv 7) pe_int (fun _ _ => rfl))) (fun _ _ _ _ => (pg_name (i := 0) (show List.Nodup (["_law_yes"] : List Str) by decide +kernel) rfl (Or.inl rfl))) (fun _ _ _ _ => pifs_nil) (fun _ _ _ _ => (pe_not (pv 0)))) pa_nil)) (pa_cons (pe_ix (ix_tupK K) (pv 7) pe_int (fun _ _ => rfl)) pa_nil)))) pa_nil))) (fun _ => rfl)))
   (pss_one (ps_ret pe_bl))
   pss_nil)
  (pss_cons (ps_asg (pe_call G_l_due hr_l_due rfl T.m_l_due T.k_l_due T.b_l_due .nil pass0 (pa_cons (pv 3) (pa_cons (pv 7) (pa_cons (pv 8) pa_nil)))) (pg_tup rfl (pgs_cons (pg_name (i := 9) sc_law.nd rfl (Or.inl rfl)) (pgs_cons (pg_name (i := 10) sc_law.nd rfl (Or.inl rfl)) (pgs_cons (pg_name (i := 11) sc_law.nd rfl (Or.inl rfl)) pgs_nil)))))
  (pss_cons (ps_for PassesOwn.never rfl (pi_tup (pe_tup (pa_cons (pe_tup (pa_cons (pe_glob (v := .ref a.f_both_of) rfl T.m_both_of rfl) (pa_cons pe_int pa_nil))) (pa_cons (pe_tup (pa_cons (pe_glob (v := .ref a.f_either_of) rfl T.m_either_of rfl) (pa_cons pe_int pa_nil))) pa_nil)))) (pg_tup rfl (pgs_cons (pg_name (i := 12) sc_law.nd rfl (Or.inl rfl)) (pgs_cons (pg_name (i := 13) sc_law.nd rfl (Or.inr rfl)) pgs_nil)))
   (pss_cons (ps_setComp (i := 14) (CompScope.mk' (esc := defScope s_law) (N := ["_law_script", "_law_feed_here", "_law_pool", "_law_base", "_law_some", "_law_turn", "_law_own", "_law_one", "_law_other", "_law_names_here", "_law_pairs", "_law_moves", "_law_asked", "_law_least", "_law_yes", "_law_due_here"]) (own := ["_law_room", "_law_fellow"]) (frn := ["_law_least", "_law_one", "_law_other"]) (frj := [13, 7, 8]) rfl rfl (by decide +kernel)) rfl (pi_list (pv 10)) (fun _ _ _ _ => (pg_tupK K (n := 2) rfl (pgs_cons (pg_name (i := 0) (show List.Nodup (["_law_room", "_law_fellow", "_law_least", "_law_one", "_law_other"] : List Str) by decide +kernel) rfl (Or.inl rfl)) (pgs_cons (pg_name (i := 1) (show List.Nodup (["_law_room", "_law_fellow", "_law_least", "_law_one", "_law_other"] : List Str) by decide +kernel) rfl (Or.inl rfl)) pgs_nil)))) (fun _ _ _ _ => pifs_nil) (fun _ _ _ _ => (pe_cmpR op_ge (pe_op op_add (pe_callTy call_int1 (by rfl) T.z_int bt_int (pa_cons (pe_ix (ix_tupK K) (pe_ix (ix_tupK K) (pv 3) pe_int (fun _ _ => rfl)) (pv 0) (fun _ _ => rfl)) pa_nil)) (pe_callTy call_int1 (by rfl) T.z_int bt_int (pa_cons (pe_ix (ix_tupK K) (pe_ix (ix_tupK K) (pv 4) pe_int (fun _ _ => rfl)) (pv 1) (fun _ _ => rfl)) pa_nil))) (pv 2) (nomark _))) sc_law.nd rfl rfl)
   (pss_cons (ps_set (i := 15) sc_law.nd rfl (Or.inl rfl) (pe_tup (pa_cons (pv 9) (pa_cons (pe_callTy (call_tupleK K) (by rfl) T.z_tuple bt_tuple (pa_cons (pv 14) pa_nil)) (pa_cons (pv 11) pa_nil)))))
   (pss_cons (ps_if (PW.pt (pw_or (pt_not (pt_truth (pe_call G_l_alike hr_l_alike rfl T.m_l_alike T.k_l_alike T.b_l_alike .nil pass0 (pa_cons (pe_callG (i := 12) GA hr_ask kA dA rfl (Or.inl rfl) (pa_cons (pv 3) (pa_cons (pv 7) (pa_cons (pv 8) pa_nil)))) (pa_cons (pv 15) pa_nil))) (fun _ => rfl))) (pw_or1 (pt_not (pt_truth (pe_call G_l_alike hr_l_alike rfl T.m_l_alike T.k_l_alike T.b_l_alike .nil pass0 (pa_cons (pe_callG (i := 12) (dvs := []) GA hr_ask kA nA rfl (Or.inl rfl) (pa_cons (pv 3) (pa_cons (pv 7) (pa_cons (pv 8) (pa_cons (pe_callB (call_lenK K) (by rfl) T.z_len bt_len (pa_cons (pv 10) pa_nil)) pa_nil))))) (pa_cons (pv 15) pa_nil))) (fun _ => rfl))))))
    (pss_one (ps_ret pe_bl))
    pss_nil)
   (pss_one (ps_if (PW.pt (pw_or (pt_cmpR op_notN (pe_callG (i := 12) (dvs := []) GA hr_ask kA nA rfl (Or.inl rfl) (pa_cons (pv 3) (pa_cons (pv 7) (pa_cons (pv 8) (pa_cons (pe_op op_sub (pe_callB (call_lenK K) (by rfl) T.z_len bt_len (pa_cons (pv 10) pa_nil)) pe_int) pa_nil))))) pe_non (nomark _)) (pw_or1 (pt_cmpR (op_neD K hr.units) (pe_ix (ix_tupK K) (pe_callG (i := 12) GA hr_ask kA dA rfl (Or.inl rfl) (pa_cons (pv 3) (pa_cons (pv 8) (pa_cons (pv 7) pa_nil)))) pe_int (fun _ _ => rfl)) (pv 9) (nomark _)))))
    (pss_one (ps_ret pe_bl))
    pss_nil))))))
  (pss_cons (ps_if (PW.pt (pw_and (pt_cmpR op_eq (pe_call G_l_draw hr_l_draw rfl T.m_l_draw T.k_l_draw T.b_l_draw .nil pass0 (pa_cons (pv 1) (pa_cons pe_int pa_nil))) pe_int (nomark _)) (pw_and1 (pt_not (pt_truth (pe_call G_l_two_rings hr_l_two_rings rfl T.m_l_two_rings T.k_l_two_rings T.b_l_two_rings .nil pass0 (pa_cons (pe_op op_add pe_int (pe_call G_l_draw hr_l_draw rfl T.m_l_draw T.k_l_draw T.b_l_draw .nil pass0 (pa_cons (pv 1) (pa_cons pe_int pa_nil)))) pa_nil)) (fun _ => rfl))))))
   (pss_one (ps_ret pe_bl))
   pss_nil)
  (pss_one (ps_ret (pe_cmpR (op_eqD K hr.units) (pe_call G_turned_no hr_turned_no rfl T.m_turned_no T.k_turned_no T.b_turned_no .nil pass0 (pa_cons (pe_call G_turned_no hr_turned_no rfl T.m_turned_no T.k_turned_no T.b_turned_no .nil pass0 (pa_cons (pv 7) pa_nil)) pa_nil)) (pv 7) (nomark _)))))))))))))), ?_⟩
  have big : (10000 : Nat) ≤ sizeLine := by decide
  have p10 : (2 ^ 10 : Nat) < 2 ^ 1000 := Nat.pow_lt_pow_right (by decide) (by decide)
  have small : ∀ x : Nat, x ≤ 1000 → x < 2 ^ 1000 := fun x hx => Nat.lt_trans (show x < 2 ^ 10 by omega) p10
  have tb0 : TB a H := ⟨hO.tab (by simp), hO.tab (by simp), hO.tab (by simp), hO.tab (by simp)⟩
  refine hideS fun Y hY => ?_
  refine ⟨_, rfl, sa, ns, rfl, hS, hns, fun F L H1 hF hL s1 f1 => ?_⟩
  have tb1 := tb0.same s1
  dsimp only [gName]
  subst hY
  refine hideS fun Y hY => ?_
  refine ⟨_, rfl, F, L, 3, rfl, f1, by decide, fun nm ss H2 hnm k2 f2 enm lss nok srt => ?_⟩
  have tb2 := Feed.tb tb1 f1 k2
  have nd := nok.once
  dsimp only [gName]
  subst hY
  refine hideS fun Y hY => ?_
  refine ⟨_, rfl, F, L, 3, rfl, f2, by decide, small _ (by decide), fun r H3 r1 k3 f3 => ⟨_, _, rfl, rfl, ?_⟩⟩
  have tb3 := Feed.tb tb2 f2 k3
  have enm3 := f2.ktu k3 _ _ enm
  have eb : (2 : Int) + (r : Int) = ((2 + r : Nat) : Int) := by omega
  dsimp only [gName]
  subst hY
  rw [eb]
  generalize hbb : 2 + r = b
  have hb2 : 2 ≤ b := by omega
  have hb4 : b ≤ 4 := by omega
  refine hideS fun Y hY => ?_
  refine ⟨by show 0 ≤ sizeLine; omega, fun S hS0 => ?_⟩
  have sS := Same.new (o := .lst []) hS0
  have nS := f3.neF hS0
  dsimp only [gName]
  subst hY
  refine hideS fun Y hY => ?_
  refine ⟨_, rfl, by omega, by omega, for_rangeN (n := (2 : Int).toNat) (fun i σ H' => ∃ (ms : List Addr) (v5 v6 : Option V), σ = [some (.ref sa), some (.ref F), some (.ref nm), some (.int (b : Nat)), some (.ref S), v5, v6, none, none, none, none, none, none, none, none, none] ∧ TB a H' ∧ Feed H' F L ∧ H' nm = some (.tup (ss.map V.str)) ∧ H' S = some (.lst (ms.map V.ref)) ∧ ms.length = i ∧ ∀ m ∈ ms, ∃ ss bs mv, MW b H' m ss bs mv)
   ⟨[], none, none, rfl, tb3.same sS, f3.same sS, sS _ _ enm3, upd_same, rfl, fun m hm => by cases hm⟩ ?_ ?_⟩
  ·rintro i σ H4 N hN hi ⟨ms, v5, v6, rfl, tb4, f4, enm4, eS4, lms, hms⟩
   dsimp only [gName]
   refine hideS fun Y2 hY2 => ?_
   refine ⟨_, rfl, _, rfl, F, L, 2, rfl, f4, by decide, small _ (by decide), fun d1 H5 q5 k5 f5 => ⟨_, rfl, _, rfl, F, L, 2, rfl, f5, by decide, small _ (by decide), fun d2 H6 q6 k6 f6 => ⟨_, _, rfl, rfl, _, rfl, slW_by (f5.ktu k6 _ _ (f4.ktu k5 _ _ enm4)) fun u1 H7 s7 e7 => ?_⟩⟩⟩
   obtain ⟨ts, ets, sub1⟩ := cut_sub ss (some (d1 : Int)) (some ((2 : Int) + (d2 : Int)))
   have tb7 := (Feed.tb (Feed.tb tb4 f4 k5) f5 k6).same s7
   have f7 := f6.same s7
   have kt47 : KTu H4 H7 := fun b xs z => s7 _ _ (f5.ktu k6 _ _ (f4.ktu k5 _ _ z))
   have eS7 : H7 S = some (.lst (ms.map V.ref)) := s7 _ _ (k6 _ _ (k5 _ _ eS4 nS.1 nS.2) nS.1 nS.2)
   rw [ets] at e7
   dsimp only [gName]
   subst hY2
   refine ⟨_, rfl, Or.inl ⟨rfl, _, .of eS7⟩, _, rfl, _, rfl, _, rfl, _, rfl, _, rfl, _, ts.length, rfl, .inr ⟨_, .of e7, by rw [List.length_map]⟩, _, _, rfl, rfl, F, L, ts.length + 1, rfl, f7, by omega, small _ (by have := sub1.length_le; omega), fun d3 H8 q8 k8 f8 => ⟨_, rfl, no_part (slW_by (f7.ktu k8 _ _ e7) fun u2 H9 s9 e9 => ?_)⟩⟩
   obtain ⟨us, eus, sub2⟩ := cut_sub ts (some (d3 : Int)) none
   rw [eus] at e9
   refine ⟨_, rfl, slW_by e9 fun u3 H10 s10 e10 => ?_⟩
   obtain ⟨ws, ews, sub3⟩ := cut_sub us none (some 2)
   have l2 : ws.length ≤ 2 := by have := cut_two (us.map V.str); rw [ews, List.length_map] at this; exact this
   rw [ews] at e10
   have sub := (sub3.trans sub2).trans sub1
   have s810 := s9.trans s10
   have tb10 := (Feed.tb tb7 f7 k8).same s810
   have f10 := f8.same s810
   refine ⟨F, L, u3, b, 7, ws, rfl, f10, hb2, hb4, e10, by omega, by decide, by decide, fun ma bs mv H11 hma k11 f11 em mvs h0 hb7 hst => ?_⟩
   have kt10 : KTu H7 H10 := fun b xs z => s810 _ _ (f7.ktu k8 _ _ z)
   have kt11 : KTu H4 H11 := fun b xs z => f10.ktu k11 _ _ (kt10 _ _ (kt47 _ _ z))
   have eS11 : H11 S = some (.lst (ms.map V.ref)) := k11 _ _ (s810 _ _ (k8 _ _ eS7 nS.1 nS.2)) nS.1 nS.2
   refine ⟨S, _, _, rfl, rfl, eS11, by rw [List.length_map]; omega, ?_⟩
   have kS : KTu H11 (upd H11 S (.lst (ms.map V.ref ++ [.ref ma]))) := KTu.lst eS11
   have ktS : KTu H4 (upd H11 S (.lst (ms.map V.ref ++ [.ref ma]))) := fun b xs z => kS _ _ (kt11 _ _ z)
   have tbS : TB a (upd H11 S (.lst (ms.map V.ref ++ [.ref ma]))) := (Feed.tb tb10 f10 k11).lst eS11
   refine hN _ _ ⟨ms ++ [ma], _, _, rfl, tbS, f11.upd nS, ktS _ _ enm4, by rw [upd_same, List.map_append]; rfl, by rw [List.length_append, lms]; rfl, fun m hm => ?_⟩
   rcases List.mem_append.mp hm with z | z
   ·obtain ⟨ss', bs', mv', h⟩ := hms m z
    exact ⟨ss', bs', mv', h.keep ktS⟩
   ·rw [List.mem_singleton.mp z]
    exact ⟨ws, bs, mv, (MW.mk ⟨u3, em, f10.ktu k11 _ _ e10, mvs, h0⟩ l2 (List.Pairwise.sublist sub nd) (sorted_sub sub srt) hb7).keep kS⟩
  rintro σ H4 ⟨ms, v5, v6, rfl, tb4, f4, enm4, eS4, lms, hms⟩
  have lms2 : ms.length = 2 := lms
  obtain ⟨m1, m2, rfl⟩ : ∃ m1 m2, ms = [m1, m2] := by
   match ms, lms2 with
   | [x, y], _ => exact ⟨x, y, rfl⟩
  obtain ⟨ss1, bs1, mv1, w1⟩ := hms m1 (by simp)
  obtain ⟨ss2, bs2, mv2, w2⟩ := hms m2 (by simp)
  subst hY
  dsimp only
  refine hideS fun Y hY => ?_
  refine ⟨_, rfl, S, _, rfl, .of eS4, rfl, _, _, rfl, _, _, rfl, rfl, ?_⟩
  dsimp only [gName]
  subst hY
  refine hideS fun Y hY => ?_
  obtain ⟨n1, ⟨y1, v1, ps1, a1, a2, a3, a4⟩, en1, mo1, p1⟩ := w1.mc
  obtain ⟨n2, ⟨y2, v2, ps2, b1, b2, b3, b4⟩, en2, mo2, p2⟩ := w2.mc
  have le1 := w1.le
  have le2 := w2.le
  have h21 := w1.l2
  have h22 := w2.l2
  refine ⟨_, rfl, m1, n1, bs1, mv1, rfl, ⟨y1, v1, ps1, a1, a2, a3, a4⟩, by omega, fun t1 H5 s5 em5 => ?_⟩
  obtain ⟨yt, vt, pst, c1, c2, c3, c4⟩ := em5
  refine ⟨_, rfl, m1, _, _, .ref n1, rfl, rfl, .of (s5 _ _ a1), atI_nat (j := 0) rfl, _, rfl, m1, _, _, .ref y1, rfl, rfl, .of (s5 _ _ a1), atI_nat (j := 1) rfl, y1, rfl, ⟨_, .of (s5 _ _ a2)⟩, fun C hC => ?_⟩
  refine comp_tup (xs := bs1.map V.bl) (fun i σ H' => ∃ v : Option V, σ = [v] ∧ Same H5 H' ∧ H' C = some (.lst (((bs1.take i).map (!·)).map V.bl)))
   ⟨none, ?sg, Same.new hC, upd_same⟩ (by rintro i σ H' _ ⟨_, _, s, _⟩; exact .of (s _ _ (s5 _ _ a2))) ?_ ?_
  case sg => rfl
  ·rintro i x σ H' hx ⟨v, rfl, s', c'⟩
   obtain ⟨t, rfl, et⟩ := boolItem hx
   have hi := (List.getElem?_eq_some_iff.mp et).1
   refine ⟨_, rfl, _, rfl, _, c', ?_, _, rfl, s'.kbn hC KB.write, ?_⟩
   ·rw [List.length_map, List.length_map, List.length_take]; omega
   ·rw [upd_same, take_snoc et, List.map_append, List.map_append]; rfl
  rintro σ H6 ⟨v, rfl, s6, c6⟩
  rw [List.length_map, List.take_length] at c6
  refine ⟨C, _, rfl, .inl ⟨.of c6, fun Yt hYt => ?_⟩⟩
  have sY := Same.new (o := .tup ((bs1.map (!·)).map V.bl)) hYt
  have s56 := s5.trans (s6.trans sY)
  refine ⟨_, rfl, m1, _, _, .ref v1, rfl, rfl, .of (s56 _ _ a1), atI_nat (j := 2) rfl, by show 3 ≤ sizeLine; decide, fun tt htt => ?_⟩
  have st := Same.new (o := .tup [.ref n1, .ref Yt, .ref v1]) htt
  have s67 := (s6.trans sY).trans st
  have s57 := s5.trans s67
  have lrow : ∀ l ∈ mv1, l.length ≤ 3000 := fun l hl => by rw [(mo1.lead l hl).1]; have := small_pow hb4 (show ss1.length ≤ 4 by omega); omega
  refine ⟨_, _, rfl, tr_mach (s67 _ _ c1) upd_same (s57 _ _ en1) (s57 _ _ en1) (s67 _ _ c2) (st _ _ upd_same) (s67 _ _ c3) (s57 _ _ a3) (c4.keep s67.kt) (a4.keep s57.kt) (by omega) (by rw [List.length_map]; omega) (by rw [mo1.len]; omega) lrow, fun H8 s8 => ⟨true, rfl, ?_⟩⟩
  refine iteF ?_
  have s48 := s57.trans s8
  have tb8 := tb4.same s48
  have f8 := f4.same s48
  have w18 := w1.keep s48.kt
  have w28 := w2.keep s48.kt
  have few : bs1.length * bs2.length ≤ 2000 := Nat.le_trans (Nat.mul_le_mul le1 le2) (by decide)
  dsimp only [tNext]
  subst hY
  refine hideS fun Y hY => ?_
  refine ⟨_, rfl, _, rfl, _, rfl, b, m1, m2, ss1, ss2, bs1, bs2, mv1, mv2, rfl, hb2, hb4, w18.mc, w28.mc, w1.l2, w2.l2, w1.nd, w2.nd, w1.srt, w2.srt, few, tb8, fun pd Nd Rr va us vs ps xs mv H9 ndu mem sru k9 tb9 ed eN eR rp eva tp hl hle gr => ?_⟩
  refine ⟨pd, _, rfl, .of ed, rfl, _, _, rfl, _, _, rfl, _, _, rfl, rfl, ?_⟩
  dsimp only [gName]
  subst hY
  refine hideS fun Y hY => ?_
  refine ⟨by show 2 ≤ sizeLine; decide, fun t1 ht1 => ⟨by show 2 ≤ sizeLine; decide, fun t2 ht2 => ⟨by show 2 ≤ sizeLine; decide, fun tt ht => ?_⟩⟩⟩
  have sT := ((Same.new (o := .tup [.ref a.f_both_of, .int (2 : Nat)]) ht1).trans (Same.new (o := .tup [.ref a.f_either_of, .int (1 : Nat)]) ht2)).trans (Same.new (o := .tup [.ref t1, .ref t2]) ht)
  have et1 : (upd (upd (upd H9 t1 (.tup [.ref a.f_both_of, .int (2 : Nat)])) t2 (.tup [.ref a.f_either_of, .int (1 : Nat)])) tt (.tup [.ref t1, .ref t2])) t1 = some (.tup [.ref (fA true), .int (lsA true : Nat)]) := (Same.new (o := .tup [.ref t1, .ref t2]) ht) _ _ ((Same.new (o := .tup [.ref a.f_either_of, .int (1 : Nat)]) ht2) _ _ upd_same)
  have et2 : (upd (upd (upd H9 t1 (.tup [.ref a.f_both_of, .int (2 : Nat)])) t2 (.tup [.ref a.f_either_of, .int (1 : Nat)])) tt (.tup [.ref t1, .ref t2])) t2 = some (.tup [.ref (fA false), .int (lsA false : Nat)]) := (Same.new (o := .tup [.ref t1, .ref t2]) ht) _ _ upd_same
  have ett : (upd (upd (upd H9 t1 (.tup [.ref a.f_both_of, .int (2 : Nat)])) t2 (.tup [.ref a.f_either_of, .int (1 : Nat)])) tt (.tup [.ref t1, .ref t2])) tt = some (.tup [.ref t1, .ref t2]) := upd_same
  generalize upd (upd (upd H9 t1 (.tup [.ref a.f_both_of, .int (2 : Nat)])) t2 (.tup [.ref a.f_either_of, .int (1 : Nat)])) tt (.tup [.ref t1, .ref t2]) = G at sT et1 et2 ett ⊢
  have tbG := tb9.same sT
  have kG : KX a H4 G := (KX.same s48).trans (k9.trans (KX.same sT))
  have due : Due b ss1 ss2 mv1 mv2 us xs mv := ⟨ndu, mem, sru, hl, gr⟩
  have okx : ∀ x ∈ xs, OkB bs1.length bs2.length x := fun x hx => by
   obtain ⟨w, hw, rfl⟩ := gr.reach x hx
   refine okB_run (?_) ⟨0, 0, rfl, p1, p2⟩ hw
   rintro x c ⟨i, j, e, hi, hj⟩ hc
   subst e
   exact ⟨_, _, rfl, mo1.stp hi (own_lt (by omega) hc), mo2.stp hj (own_lt (by omega) hc)⟩
  have lx49 : xs.length ≤ 49 := Nat.le_trans hle (Nat.le_trans (Nat.mul_le_mul le1 le2) (by decide))
  have lx0 : 0 < xs.length := grown_pos gr
  have lvs : vs.length = xs.length := Paired.length rp
  have lu := union_len ndu mem
  have mvs := gr.mvs hl
  have lrow2 : ∀ l ∈ mv, l.length ≤ 3000 := fun l hl => by rw [(mvs.lead l hl).1]; have := small_pow hb4 (show us.length ≤ 4 by omega); omega
  refine ⟨tt, rfl, ⟨_, .of ett⟩, for_tupN (xs := [.ref t1, .ref t2]) (fun i σ H' => ∃ v12 v13 v14 v15 : Option V, σ = [some (.ref sa), some (.ref F), some (.ref nm), some (.int (b : Nat)), some (.ref S), v5, v6, some (.ref m1), some (.ref m2), some (.ref Nd), some (.ref Rr), some (.ref va), v12, v13, v14, v15] ∧ KX a G H' ∧ TB a H')
   ⟨none, none, none, none, rfl, KX.refl, tbG⟩ (by rintro i σ H' _ ⟨_, _, _, _, _, kk, _⟩; exact .of (kk.kt _ _ ett)) ?_ ?_⟩
  ·rintro i x σ J N2 hN2 hx ⟨v12, v13, v14, v15, rfl, kJ, tbJ⟩
   obtain ⟨tj, j, rfl, etj⟩ : ∃ tj j, x = .ref tj ∧ G tj = some (.tup [.ref (fA j), .int (lsA j : Nat)]) := by
    match i, hx with
    | 0, e => cases e; exact ⟨t1, true, rfl, et1⟩
    | 1, e => cases e; exact ⟨t2, false, rfl, et2⟩
   have k4J := kG.trans kJ
   have kt4 := k4J.kt
   have k9J : KX a H9 J := (KX.same sT).trans kJ
   have kt9 := k9J.kt
   have eRJ : J Rr = some (.lst vs) := k9J _ _ eR fun _ y => nomatch y
   have rpJ := rp.keep kt9
   refine ⟨tj, _, rfl, .of (kJ.kt _ _ etj), rfl, _, _, rfl, _, _, rfl, rfl, ?_⟩
   dsimp only [gName]
   refine hideS fun Y2 hY2 => ?_
   refine ⟨_, rfl, Rr, rfl, ⟨_, .of eRJ⟩, fun C hC => ?_⟩
   refine comp_list (xs := vs) (fun q σ H' => ∃ v0 v1 : Option V, σ = [v0, v1, some (.int (lsA j : Nat)), some (.ref m1), some (.ref m2)] ∧ Same J H' ∧ H' C = some (.lst (((xs.take q).map (yesB (opA j) bs1 bs2)).map V.bl))) ⟨none, none, ?sg, Same.new hC, upd_same⟩ (by rintro q σ H' _ ⟨_, _, _, s, _⟩; exact .of (s _ _ eRJ)) ?_ ?_
   case sg => rfl
   ·rintro q v σ J1 hv ⟨v0, v1', rfl, s1, c1⟩
    obtain ⟨xq, hxq, pp, rfl, epp⟩ := paired_get rpJ hv
    have hq := (List.getElem?_eq_some_iff.mp hxq).1
    obtain ⟨i1, j1, rfl, hi1, hj1⟩ := okx xq (List.mem_of_getElem? hxq)
    have epp' : J1 pp = some (.tup [.int (i1 : Nat), .int (j1 : Nat)]) := s1 _ _ epp
    refine ⟨pp, _, rfl, .of epp', rfl, _, _, rfl, _, _, rfl, rfl, ?_⟩
    refine ⟨_, rfl, m1, _, _, .ref y1, rfl, rfl, .of (s1 _ _ (kt4 _ _ a1)), atI_nat (j := 1) rfl, _, rfl, y1, _, _, .bl (bs1.getD i1 false), rfl, rfl, .of (s1 _ _ (kt4 _ _ a2)), atI_nat (by rw [List.getElem?_map, item_at false hi1]; rfl), .inr ⟨_, rfl, ?_⟩⟩
    refine ⟨_, rfl, m2, _, _, .ref y2, rfl, rfl, .of (s1 _ _ (kt4 _ _ b1)), atI_nat (j := 1) rfl, _, rfl, y2, _, _, .bl (bs2.getD j1 false), rfl, rfl, .of (s1 _ _ (kt4 _ _ b2)), atI_nat (by rw [List.getElem?_map, item_at false hj1]; rfl), .inr ⟨_, rfl, ?_⟩⟩
    refine ⟨_, _, rfl, rfl, _, rfl, _, _, rfl, rfl, _, c1, by rw [List.length_map, List.length_map, List.length_take]; omega, _, _, rfl, s1.kbn hC KB.write, ?_⟩
    rw [upd_same, take_snoc hxq, List.map_append, List.map_append]
    exact congrArg (fun b => some (HO.lst (_ ++ [V.bl b]))) (ls_op j (bs1.getD i1 false) (bs2.getD j1 false))
   rintro σ J1 ⟨v0, v1', rfl, s1, c1⟩
   rw [lvs, List.take_length] at c1
   dsimp only [gName]
   subst hY2
   refine hideS fun Y2 hY2 => ?_
   refine ⟨_, rfl, _, rfl, C, _, rfl, .inl ⟨.of c1, fun Yd hYd => ⟨_, rfl, by show 3 ≤ sizeLine; decide, fun dh hdh => ?_⟩⟩⟩
   have sd := Same.new (o := .tup [.ref Nd, .ref Yd, .ref va]) hdh
   have s2 := (s1.trans (Same.new (o := .tup ((xs.map (yesB (opA j) bs1 bs2)).map V.bl)) hYd)).trans sd
   have edh : (upd (upd J1 Yd (.tup ((xs.map (yesB (opA j) bs1 bs2)).map V.bl))) dh (.tup [.ref Nd, .ref Yd, .ref va])) dh = some (.tup [.ref Nd, .ref Yd, .ref va]) := upd_same
   have eYd := sd _ _ (show (upd J1 Yd (.tup ((xs.map (yesB (opA j) bs1 bs2)).map V.bl))) Yd = some (.tup ((xs.map (yesB (opA j) bs1 bs2)).map V.bl)) from upd_same)
   generalize upd (upd J1 Yd (.tup ((xs.map (yesB (opA j) bs1 bs2)).map V.bl))) dh (.tup [.ref Nd, .ref Yd, .ref va]) = J2 at s2 edh eYd ⊢
   have k2 : KX a J J2 := KX.same s2
   have tbJ2 := tbJ.same s2
   have kt2 : KTu H4 J2 := fun b xs z => s2 _ _ (kt4 _ _ z)
   have kt92 : KTu H9 J2 := fun b xs z => s2 _ _ (kt9 _ _ z)
   have eRJ2 := s2 _ _ eRJ
   have alike : ∀ {m n : Addr} {J' : Hp}, KTu J2 J' → MachAt J' m n (xs.map (yesB (opA j) bs1 bs2)) mv → J' n = some (.tup (us.map V.str)) → Tr J' 4 (.ref m) (.ref dh) := fun {m n J'} kt mch en => by
    obtain ⟨y, v, ps', e1, e2, e3, e4⟩ := mch
    exact tr_mach e1 (kt _ _ edh) en (kt _ _ (kt92 _ _ eN)) e2 (kt _ _ eYd) e3 (kt _ _ (kt92 _ _ eva)) e4 ((tp.keep kt92).keep kt) (by omega) (by rw [List.length_map]; omega) (by omega) lrow2
   dsimp only [gName]
   subst hY2
   refine hideS fun Y2 hY2 => ?_
   refine ⟨j, rfl, _, rfl, _, rfl, _, rfl, b, 2000, m1, m2, ss1, ss2, bs1, bs2, mv1, mv2, us, xs, mv, rfl, hb2, hb4, w1.mc.keep kt2, w2.mc.keep kt2, h21, h22, by decide, tbJ2, ndu, mem, sru, .inl ⟨due, by omega, fun ma na J3 k3 tb3 mch ena => ?_⟩⟩
   refine ⟨_, rfl, _, _, rfl, alike k3.kt mch ena, fun J4 s4 => ⟨true, rfl, ?_⟩⟩
   refine iteF ?_
   have k4 : KX a J2 J4 := k3.trans (KX.same s4)
   refine ⟨j, rfl, _, rfl, _, rfl, _, rfl, _, rfl, _, vs.length, rfl, .inl ⟨_, .of (k4 _ _ eRJ2 fun _ y => nomatch y), rfl⟩, b, vs.length, m1, m2, ss1, ss2, bs1, bs2, mv1, mv2, us, xs, mv, rfl, hb2, hb4, (w1.mc.keep kt2).keep k4.kt, (w2.mc.keep kt2).keep k4.kt, h21, h22, by omega, tb3.same s4, ndu, mem, sru, .inl ⟨due, by omega, fun ma na J5 k5 tb5 mch ena => ?_⟩⟩
   have k25 := k4.trans k5
   refine ⟨_, rfl, _, _, rfl, alike k25.kt mch ena, fun J6 s6 => ⟨true, rfl, ?_⟩⟩
   refine iteF ?_
   have k26 : KX a J2 J6 := k25.trans (KX.same s6)
   dsimp only [tNext]
   subst hY2
   have el1 : ((vs.length : Nat) : Int) - 1 = ((vs.length - 1 : Nat) : Int) := by omega
   refine ⟨j, rfl, _, rfl, _, rfl, _, rfl, _, rfl, _, vs.length, rfl, .inl ⟨_, .of (k26 _ _ eRJ2 fun _ y => nomatch y), rfl⟩, _, _, rfl, rfl, b, vs.length - 1, m1, m2, ss1, ss2, bs1, bs2, mv1, mv2, us, xs, mv, by dsimp only; rw [el1]; rfl, hb2, hb4, (w1.mc.keep kt2).keep k26.kt, (w2.mc.keep kt2).keep k26.kt, h21, h22, by omega, tb5.same s6, ndu, mem, sru, .inr (.inl ⟨due, by omega, fun J7 k7 tb7 => ?_⟩)⟩
   refine ⟨rfl, _, rfl, ?_⟩
   refine iteF ?_
   have k27 := k26.trans k7
   refine ⟨j, rfl, _, rfl, _, rfl, _, rfl, b, 2000, m2, m1, ss2, ss1, bs2, bs1, mv2, mv1, us, xs, mv, rfl, hb2, hb4, (w2.mc.keep kt2).keep k27.kt, (w1.mc.keep kt2).keep k27.kt, h22, h21, by decide, tb7, ndu, fun y => (mem y).trans or_comm, sru, .inr (.inr ⟨by rw [Nat.mul_comm]; exact few, fun ma na ya' va' J8 k8 tb8' em8 en8 => ?_⟩)⟩
   have k28 := k27.trans k8
   refine ⟨ma, _, _, .ref na, rfl, rfl, .of em8, atI_nat (j := 0) rfl, _, rfl, ?_⟩
   have D1 : DatAt K J8 (.ref na) (.tup (us.map Dt.str)) := dat_tup (.of en8) (dats_strs _)
   have D2 : DatAt K J8 (.ref Nd) (.tup (us.map Dt.str)) := dat_tup (.of (k28.kt _ _ (kt92 _ _ eN))) (dats_strs _)
   refine ⟨⟨_, _, D1, D2, rfl, rfl, names_dep _, _, rfl, ?_⟩, _, _, D1, D2, .inl ⟨_, _, rfl, rfl⟩⟩
   rw [if_pos rfl, Dt.beq_refl]
   refine iteF ?_
   exact hN2 _ _ ⟨_, _, _, _, rfl, kJ.trans (k2.trans k28), tb8'⟩
  rintro σ J ⟨v12, v13, v14, v15, rfl, kJ, tbJ⟩
  have k4J := kG.trans kJ
  have fJ := f4.kx k4J
  have w1J := w1.keep k4J.kt
  subst hY
  dsimp only
  refine seq_restN (t := tIfS _ _ _) (u := tRet _) (fun σ H' => σ = [some (.ref sa), some (.ref F), some (.ref nm), some (.int (b : Nat)), some (.ref S), v5, v6, some (.ref m1), some (.ref m2), some (.ref Nd), some (.ref Rr), some (.ref va), v12, v13, v14, v15] ∧ MW b H' m1 ss1 bs1 mv1) ?_ (fun R rest => ?_)
  ·rintro σ M ⟨rfl, wM⟩
   obtain ⟨nM, mch, enM, _, _⟩ := wM.mc
   refine ⟨_, rfl, m1, nM, bs1, mv1, rfl, mch, by omega, fun t1 M1 s1 e1 => ⟨t1, nM, bs1.map (!·), mv1, rfl, e1, by rw [List.length_map]; omega, fun t2 M2 s2 e2 => ?_⟩⟩
   have enM2 := s2 _ _ (s1 _ _ enM)
   rw [List.map_map, show ((fun x : Bool => !x) ∘ fun x => !x) = id from funext fun x => by simp, List.map_id] at e2
   refine ⟨_, rfl, machDt ss1 bs1 mv1, machDt ss1 bs1 mv1, e2.dat enM2, ((mch.keep s1.kt).keep s2.kt).dat enM2, rfl, rfl, mach_dep ss1 bs1 mv1, ?_⟩
   rw [if_neg (by decide), Dt.beq_refl]
   exact k _
  ·refine ⟨_, rfl, F, L, 8, rfl, fJ, by decide, small _ (by decide), fun d J1 q1 k1 g1 => ⟨rfl, _, rfl, ?_⟩⟩
   have wd := w1J.keep (fJ.ktu k1)
   refine ite2 (fun _ => ?_) (fun _ => ?_)
   ·refine ⟨_, rfl, F, L, 3, rfl, g1, by decide, small _ (by decide), fun d2 J2 q2 k2 g2 => ⟨_, _, rfl, rfl, 43 + d2, by rw [show ((43 + d2 : Nat) : Int) = 43 + (d2 : Int) by omega]; rfl, by omega, by omega, Feed.tb (Feed.tb tbJ fJ k1) g1 k2, fun J3 k3 => ⟨true, rfl, ?_⟩⟩⟩
    refine iteF ?_
    exact rest _ _ ⟨rfl, (wd.keep (g1.ktu k2)).keep k3.kt⟩
   ·refine iteF ?_
    exact rest _ _ ⟨rfl, wd⟩
@[elab_as_elim] theorem ln1 {P : List Value → Prop} (us : List Value) (e : us.length = 1) (h : ∀ a, P [a]) : P us := by
 cases us with
 | nil => cases e
 | cons a us => cases us with
  | nil => exact h a
  | cons _ _ => cases e
@[elab_as_elim] theorem ln2 {P : List Value → Prop} (us : List Value) (e : us.length = 2) (h : ∀ a0 a1, P [a0, a1]) : P us := by
 cases us with
 | nil => cases e
 | cons a us => exact ln1 (P := fun z => P (a :: z)) us (Nat.succ.inj e) (h a)
@[elab_as_elim] theorem ln3 {P : List Value → Prop} (us : List Value) (e : us.length = 3) (h : ∀ a0 a1 a2, P [a0, a1, a2]) : P us := by
 cases us with
 | nil => cases e
 | cons a us => exact ln2 (P := fun z => P (a :: z)) us (Nat.succ.inj e) (h a)
@[elab_as_elim] theorem ln4 {P : List Value → Prop} (us : List Value) (e : us.length = 4) (h : ∀ a0 a1 a2 a3, P [a0, a1, a2, a3]) : P us := by
 cases us with
 | nil => cases e
 | cons a us => exact ln3 (P := fun z => P (a :: z)) us (Nat.succ.inj e) (h a)
@[elab_as_elim] theorem ln5 {P : List Value → Prop} (us : List Value) (e : us.length = 5) (h : ∀ a0 a1 a2 a3 a4, P [a0, a1, a2, a3, a4]) : P us := by
 cases us with
 | nil => cases e
 | cons a us => exact ln4 (P := fun z => P (a :: z)) us (Nat.succ.inj e) (h a)
@[elab_as_elim] theorem ln6 {P : List Value → Prop} (us : List Value) (e : us.length = 6) (h : ∀ a0 a1 a2 a3 a4 a5, P [a0, a1, a2, a3, a4, a5]) : P us := by
 cases us with
 | nil => cases e
 | cons a us => exact ln5 (P := fun z => P (a :: z)) us (Nat.succ.inj e) (h a)
theorem all_mk {l : PySem.W.OpenLaw} {w : World} {K : PySem.W.Frag} {h : Heap} {mg : Str → Option Value} {fa : Addr} (X : K.In h) (G : h.Ns mainGlobals mg) (hfa : mg "law" = some (.ref fa))
  {f0 : Addr} {od0 an0 : Option Addr} {sl0 : Array (Option Value)} {oc0 kV0 dc0 pm0 ct0 : Value} {cd0 : Value}
  {f1 : Addr} {od1 an1 : Option Addr} {sl1 : Array (Option Value)} {oc1 kV1 dc1 pm1 ct1 : Value} {cA1 : Addr}
  {dT1 dn1 : Nat} {dcl1 : Value} {dod1 : Option Addr} {dtk1 : Tok} {dsl1 : Array (Option Value)}
  {f2 : Addr} {od2 an2 : Option Addr} {sl2 : Array (Option Value)} {oc2 kV2 dc2 pm2 ct2 : Value} {cd2 : Value}
  {f3 : Addr} {od3 an3 : Option Addr} {sl3 : Array (Option Value)} {oc3 kV3 dc3 pm3 ct3 : Value} {cd3 : Value}
  {f4 : Addr} {od4 an4 : Option Addr} {sl4 : Array (Option Value)} {oc4 kV4 dc4 pm4 ct4 : Value} {cd4 : Value}
  {f5 : Addr} {od5 an5 : Option Addr} {sl5 : Array (Option Value)} {oc5 kV5 dc5 pm5 ct5 : Value} {cd5 : Value}
  {f6 : Addr} {od6 an6 : Option Addr} {sl6 : Array (Option Value)} {oc6 kV6 dc6 pm6 ct6 : Value} {cA6 : Addr}
  {tA6 : Addr} {cod6 : Option Addr} {cvs6 : Array Value} {csl6 : Array (Option Value)}
  {f7 : Addr} {od7 an7 : Option Addr} {sl7 : Array (Option Value)} {oc7 kV7 dc7 pm7 ct7 : Value} {cA7 : Addr}
  {tA7 : Addr} {cod7 : Option Addr} {cvs7 : Array Value} {csl7 : Array (Option Value)}
  {f8 : Addr} {od8 an8 : Option Addr} {sl8 : Array (Option Value)} {oc8 kV8 dc8 pm8 ct8 : Value} {cA8 : Addr}
  {tA8 : Addr} {cod8 : Option Addr} {cvs8 : Array Value} {csl8 : Array (Option Value)}
  {f9 : Addr} {od9 an9 : Option Addr} {sl9 : Array (Option Value)} {oc9 kV9 dc9 pm9 ct9 : Value} {cA9 : Addr}
  {dT9 dn9 : Nat} {dcl9 : Value} {dod9 : Option Addr} {dtk9 : Tok} {dsl9 : Array (Option Value)}
  {f10 : Addr} {od10 an10 : Option Addr} {sl10 : Array (Option Value)} {oc10 kV10 dc10 pm10 ct10 : Value} {cA10 : Addr}
  {dT10 dn10 : Nat} {dcl10 : Value} {dod10 : Option Addr} {dtk10 : Tok} {dsl10 : Array (Option Value)}
  {f11 : Addr} {od11 an11 : Option Addr} {sl11 : Array (Option Value)} {oc11 kV11 dc11 pm11 ct11 : Value} {cd11 : Value}
  {f12 : Addr} {od12 an12 : Option Addr} {sl12 : Array (Option Value)} {oc12 kV12 dc12 pm12 ct12 : Value} {cd12 : Value}
  {f13 : Addr} {od13 an13 : Option Addr} {sl13 : Array (Option Value)} {oc13 kV13 dc13 pm13 ct13 : Value} {cd13 : Value}
  {f14 : Addr} {od14 an14 : Option Addr} {sl14 : Array (Option Value)} {oc14 kV14 dc14 pm14 ct14 : Value} {cd14 : Value}
  {f15 : Addr} {od15 an15 : Option Addr} {sl15 : Array (Option Value)} {oc15 kV15 dc15 pm15 ct15 : Value} {cd15 : Value}
  {f16 : Addr} {od16 an16 : Option Addr} {sl16 : Array (Option Value)} {oc16 kV16 dc16 pm16 ct16 : Value} {cd16 : Value}
  {f17 : Addr} {od17 an17 : Option Addr} {sl17 : Array (Option Value)} {oc17 kV17 dc17 pm17 ct17 : Value} {cd17 : Value}
  {f18 : Addr} {od18 an18 : Option Addr} {sl18 : Array (Option Value)} {oc18 kV18 dc18 pm18 ct18 : Value} {cd18 : Value}
  {f19 : Addr} {od19 an19 : Option Addr} {sl19 : Array (Option Value)} {oc19 kV19 dc19 pm19 ct19 : Value} {cd19 : Value}
  {f20 : Addr} {od20 an20 : Option Addr} {sl20 : Array (Option Value)} {oc20 kV20 dc20 pm20 ct20 : Value} {cd20 : Value}
  {f21 : Addr} {od21 an21 : Option Addr} {sl21 : Array (Option Value)} {oc21 kV21 dc21 pm21 ct21 : Value} {cA21 : Addr}
  {tA21 : Addr} {cod21 : Option Addr} {cvs21 : Array Value} {csl21 : Array (Option Value)}
  {f22 : Addr} {od22 an22 : Option Addr} {sl22 : Array (Option Value)} {oc22 kV22 dc22 pm22 ct22 : Value} {cd22 : Value}
  {f23 : Addr} {od23 an23 : Option Addr} {sl23 : Array (Option Value)} {oc23 kV23 dc23 pm23 ct23 : Value} {cd23 : Value}
  {f24 : Addr} {od24 an24 : Option Addr} {sl24 : Array (Option Value)} {oc24 kV24 dc24 pm24 ct24 : Value} {cd24 : Value}
  (a0 : PySem.W.nsIn K mainGlobals "all_letters" = some (some (.ref f0))) (l0 : K.lookup f0 = some ⟨oc0, od0, .func (PySem.W.fnOf "all_letters" "all_letters" (defArgs s_all_letters) (defBody s_all_letters) (defScope s_all_letters) .none kV0 dc0 pm0 an0 cd0 ct0), sl0⟩) (c0 : PySem.W.codeIn K cd0 "all_letters" = true) (k0 : PySem.W.keepIn K (.ref f0) = true)
  (a1 : PySem.W.nsIn K mainGlobals "grown_from" = some (some (.ref f1))) (l1 : K.lookup f1 = some ⟨oc1, od1, .func (PySem.W.fnOf "grown_from" "grown_from" (defArgs s_grown_from) (defBody s_grown_from) (defScope s_grown_from) (.ref dT1) kV1 dc1 pm1 an1 (.ref cA1) ct1), sl1⟩) (c1 : PySem.W.codeIn K (.ref cA1) "grown_from" = true) (k1 : PySem.W.keepIn K (.ref f1) = true)
  (ld1 : K.lookup dT1 = some ⟨dcl1, dod1, .seq #[(.int 2000 dtk1)] dn1, dsl1⟩)
  (a2 : PySem.W.nsIn K mainGlobals "machine_of" = some (some (.ref f2))) (l2 : K.lookup f2 = some ⟨oc2, od2, .func (PySem.W.fnOf "machine_of" "machine_of" (defArgs s_machine_of) (defBody s_machine_of) (defScope s_machine_of) .none kV2 dc2 pm2 an2 cd2 ct2), sl2⟩) (c2 : PySem.W.codeIn K cd2 "machine_of" = true) (k2 : PySem.W.keepIn K (.ref f2) = true)
  (a3 : PySem.W.nsIn K mainGlobals "own_letters" = some (some (.ref f3))) (l3 : K.lookup f3 = some ⟨oc3, od3, .func (PySem.W.fnOf "own_letters" "own_letters" (defArgs s_own_letters) (defBody s_own_letters) (defScope s_own_letters) .none kV3 dc3 pm3 an3 cd3 ct3), sl3⟩) (c3 : PySem.W.codeIn K cd3 "own_letters" = true) (k3 : PySem.W.keepIn K (.ref f3) = true)
  (a4 : PySem.W.nsIn K mainGlobals "turned_no" = some (some (.ref f4))) (l4 : K.lookup f4 = some ⟨oc4, od4, .func (PySem.W.fnOf "turned_no" "turned_no" (defArgs s_turned_no) (defBody s_turned_no) (defScope s_turned_no) .none kV4 dc4 pm4 an4 cd4 ct4), sl4⟩) (c4 : PySem.W.codeIn K cd4 "turned_no" = true) (k4 : PySem.W.keepIn K (.ref f4) = true)
  (a5 : PySem.W.nsIn K mainGlobals "names_of_both" = some (some (.ref f5))) (l5 : K.lookup f5 = some ⟨oc5, od5, .func (PySem.W.fnOf "names_of_both" "names_of_both" (defArgs s_names_of_both) (defBody s_names_of_both) (defScope s_names_of_both) .none kV5 dc5 pm5 an5 cd5 ct5), sl5⟩) (c5 : PySem.W.codeIn K cd5 "names_of_both" = true) (k5 : PySem.W.keepIn K (.ref f5) = true)
  (a6 : PySem.W.nsIn K mainGlobals "pairs_onward" = some (some (.ref f6))) (l6 : K.lookup f6 = some ⟨oc6, od6, .func (PySem.W.fnOf "pairs_onward" "pairs_onward" (defArgs s_pairs_onward) (defBody s_pairs_onward) (defScope s_pairs_onward) .none kV6 dc6 pm6 an6 (.ref cA6) ct6), sl6⟩) (c6 : PySem.W.codeIn K (.ref cA6) "pairs_onward" = true) (k6 : PySem.W.keepIn K (.ref f6) = true)
  (lc6 : K.lookup cA6 = some ⟨.type "code", cod6, .fields cvs6, csl6⟩) (lv6 : cvs6[11]? = some (.ref tA6))
  (le6 : ((match (cvs6[11]? : Option Value) with | some (.ref P') => P' == tA6 | _ => false) && (match cvs6.getD 18 .none with | .str _ _ => true | _ => false) && (match cvs6.getD 7 .none with | .int _ _ => true | _ => false) && (match cvs6.getD 9 .none with | .bool _ => true | _ => false) && (match cvs6.getD 10 .none with | .int _ _ => true | _ => false) && cA6 != tA6) = true)
  (ln6 : K.lookup tA6 = none) (lt6 : h.get? tA6 = some (PySem.W.tabObj #[]))
  (a7 : PySem.W.nsIn K mainGlobals "both_growth" = some (some (.ref f7))) (l7 : K.lookup f7 = some ⟨oc7, od7, .func (PySem.W.fnOf "both_growth" "both_growth" (defArgs s_both_growth) (defBody s_both_growth) (defScope s_both_growth) .none kV7 dc7 pm7 an7 (.ref cA7) ct7), sl7⟩) (c7 : PySem.W.codeIn K (.ref cA7) "both_growth" = true) (k7 : PySem.W.keepIn K (.ref f7) = true)
  (lc7 : K.lookup cA7 = some ⟨.type "code", cod7, .fields cvs7, csl7⟩) (lv7 : cvs7[11]? = some (.ref tA7))
  (le7 : ((match (cvs7[11]? : Option Value) with | some (.ref P') => P' == tA7 | _ => false) && (match cvs7.getD 18 .none with | .str _ _ => true | _ => false) && (match cvs7.getD 7 .none with | .int _ _ => true | _ => false) && (match cvs7.getD 9 .none with | .bool _ => true | _ => false) && (match cvs7.getD 10 .none with | .int _ _ => true | _ => false) && cA7 != tA7) = true)
  (ln7 : K.lookup tA7 = none) (lt7 : h.get? tA7 = some (PySem.W.tabObj #[]))
  (a8 : PySem.W.nsIn K mainGlobals "either_growth" = some (some (.ref f8))) (l8 : K.lookup f8 = some ⟨oc8, od8, .func (PySem.W.fnOf "either_growth" "either_growth" (defArgs s_either_growth) (defBody s_either_growth) (defScope s_either_growth) .none kV8 dc8 pm8 an8 (.ref cA8) ct8), sl8⟩) (c8 : PySem.W.codeIn K (.ref cA8) "either_growth" = true) (k8 : PySem.W.keepIn K (.ref f8) = true)
  (lc8 : K.lookup cA8 = some ⟨.type "code", cod8, .fields cvs8, csl8⟩) (lv8 : cvs8[11]? = some (.ref tA8))
  (le8 : ((match (cvs8[11]? : Option Value) with | some (.ref P') => P' == tA8 | _ => false) && (match cvs8.getD 18 .none with | .str _ _ => true | _ => false) && (match cvs8.getD 7 .none with | .int _ _ => true | _ => false) && (match cvs8.getD 9 .none with | .bool _ => true | _ => false) && (match cvs8.getD 10 .none with | .int _ _ => true | _ => false) && cA8 != tA8) = true)
  (ln8 : K.lookup tA8 = none) (lt8 : h.get? tA8 = some (PySem.W.tabObj #[]))
  (a9 : PySem.W.nsIn K mainGlobals "both_of" = some (some (.ref f9))) (l9 : K.lookup f9 = some ⟨oc9, od9, .func (PySem.W.fnOf "both_of" "both_of" (defArgs s_both_of) (defBody s_both_of) (defScope s_both_of) (.ref dT9) kV9 dc9 pm9 an9 (.ref cA9) ct9), sl9⟩) (c9 : PySem.W.codeIn K (.ref cA9) "both_of" = true) (k9 : PySem.W.keepIn K (.ref f9) = true)
  (ld9 : K.lookup dT9 = some ⟨dcl9, dod9, .seq #[(.int 2000 dtk9)] dn9, dsl9⟩)
  (a10 : PySem.W.nsIn K mainGlobals "either_of" = some (some (.ref f10))) (l10 : K.lookup f10 = some ⟨oc10, od10, .func (PySem.W.fnOf "either_of" "either_of" (defArgs s_either_of) (defBody s_either_of) (defScope s_either_of) (.ref dT10) kV10 dc10 pm10 an10 (.ref cA10) ct10), sl10⟩) (c10 : PySem.W.codeIn K (.ref cA10) "either_of" = true) (k10 : PySem.W.keepIn K (.ref f10) = true)
  (ld10 : K.lookup dT10 = some ⟨dcl10, dod10, .seq #[(.int 2000 dtk10)] dn10, dsl10⟩)
  (a11 : PySem.W.nsIn K mainGlobals "_law_feed" = some (some (.ref f11))) (l11 : K.lookup f11 = some ⟨oc11, od11, .func (PySem.W.fnOf "_law_feed" "_law_feed" (defArgs s_l_feed) (defBody s_l_feed) (defScope s_l_feed) .none kV11 dc11 pm11 an11 cd11 ct11), sl11⟩) (c11 : PySem.W.codeIn K cd11 "_law_feed" = true) (k11 : PySem.W.keepIn K (.ref f11) = true)
  (a12 : PySem.W.nsIn K mainGlobals "_law_draw" = some (some (.ref f12))) (l12 : K.lookup f12 = some ⟨oc12, od12, .func (PySem.W.fnOf "_law_draw" "_law_draw" (defArgs s_l_draw) (defBody s_l_draw) (defScope s_l_draw) .none kV12 dc12 pm12 an12 cd12 ct12), sl12⟩) (c12 : PySem.W.codeIn K cd12 "_law_draw" = true) (k12 : PySem.W.keepIn K (.ref f12) = true)
  (a13 : PySem.W.nsIn K mainGlobals "_law_after" = some (some (.ref f13))) (l13 : K.lookup f13 = some ⟨oc13, od13, .func (PySem.W.fnOf "_law_after" "_law_after" (defArgs s_l_after) (defBody s_l_after) (defScope s_l_after) .none kV13 dc13 pm13 an13 cd13 ct13), sl13⟩) (c13 : PySem.W.codeIn K cd13 "_law_after" = true) (k13 : PySem.W.keepIn K (.ref f13) = true)
  (a14 : PySem.W.nsIn K mainGlobals "_law_names" = some (some (.ref f14))) (l14 : K.lookup f14 = some ⟨oc14, od14, .func (PySem.W.fnOf "_law_names" "_law_names" (defArgs s_l_names) (defBody s_l_names) (defScope s_l_names) .none kV14 dc14 pm14 an14 cd14 ct14), sl14⟩) (c14 : PySem.W.codeIn K cd14 "_law_names" = true) (k14 : PySem.W.keepIn K (.ref f14) = true)
  (a15 : PySem.W.nsIn K mainGlobals "_law_rings" = some (some (.ref f15))) (l15 : K.lookup f15 = some ⟨oc15, od15, .func (PySem.W.fnOf "_law_rings" "_law_rings" (defArgs s_l_rings) (defBody s_l_rings) (defScope s_l_rings) .none kV15 dc15 pm15 an15 cd15 ct15), sl15⟩) (c15 : PySem.W.codeIn K cd15 "_law_rings" = true) (k15 : PySem.W.keepIn K (.ref f15) = true)
  (a16 : PySem.W.nsIn K mainGlobals "_law_machine" = some (some (.ref f16))) (l16 : K.lookup f16 = some ⟨oc16, od16, .func (PySem.W.fnOf "_law_machine" "_law_machine" (defArgs s_l_machine) (defBody s_l_machine) (defScope s_l_machine) .none kV16 dc16 pm16 an16 cd16 ct16), sl16⟩) (c16 : PySem.W.codeIn K cd16 "_law_machine" = true) (k16 : PySem.W.keepIn K (.ref f16) = true)
  (a17 : PySem.W.nsIn K mainGlobals "_law_letters" = some (some (.ref f17))) (l17 : K.lookup f17 = some ⟨oc17, od17, .func (PySem.W.fnOf "_law_letters" "_law_letters" (defArgs s_l_letters) (defBody s_l_letters) (defScope s_l_letters) .none kV17 dc17 pm17 an17 cd17 ct17), sl17⟩) (c17 : PySem.W.codeIn K cd17 "_law_letters" = true) (k17 : PySem.W.keepIn K (.ref f17) = true)
  (a18 : PySem.W.nsIn K mainGlobals "_law_grown" = some (some (.ref f18))) (l18 : K.lookup f18 = some ⟨oc18, od18, .func (PySem.W.fnOf "_law_grown" "_law_grown" (defArgs s_l_grown) (defBody s_l_grown) (defScope s_l_grown) .none kV18 dc18 pm18 an18 cd18 ct18), sl18⟩) (c18 : PySem.W.codeIn K cd18 "_law_grown" = true) (k18 : PySem.W.keepIn K (.ref f18) = true)
  (a19 : PySem.W.nsIn K mainGlobals "_law_alike" = some (some (.ref f19))) (l19 : K.lookup f19 = some ⟨oc19, od19, .func (PySem.W.fnOf "_law_alike" "_law_alike" (defArgs s_l_alike) (defBody s_l_alike) (defScope s_l_alike) .none kV19 dc19 pm19 an19 cd19 ct19), sl19⟩) (c19 : PySem.W.codeIn K cd19 "_law_alike" = true) (k19 : PySem.W.keepIn K (.ref f19) = true)
  (a20 : PySem.W.nsIn K mainGlobals "_law_numbers" = some (some (.ref f20))) (l20 : K.lookup f20 = some ⟨oc20, od20, .func (PySem.W.fnOf "_law_numbers" "_law_numbers" (defArgs s_l_numbers) (defBody s_l_numbers) (defScope s_l_numbers) .none kV20 dc20 pm20 an20 cd20 ct20), sl20⟩) (c20 : PySem.W.codeIn K cd20 "_law_numbers" = true) (k20 : PySem.W.keepIn K (.ref f20) = true)
  (a21 : PySem.W.nsIn K mainGlobals "_law_due" = some (some (.ref f21))) (l21 : K.lookup f21 = some ⟨oc21, od21, .func (PySem.W.fnOf "_law_due" "_law_due" (defArgs s_l_due) (defBody s_l_due) (defScope s_l_due) .none kV21 dc21 pm21 an21 (.ref cA21) ct21), sl21⟩) (c21 : PySem.W.codeIn K (.ref cA21) "_law_due" = true) (k21 : PySem.W.keepIn K (.ref f21) = true)
  (lc21 : K.lookup cA21 = some ⟨.type "code", cod21, .fields cvs21, csl21⟩) (lv21 : cvs21[11]? = some (.ref tA21))
  (le21 : ((match (cvs21[11]? : Option Value) with | some (.ref P') => P' == tA21 | _ => false) && (match cvs21.getD 18 .none with | .str _ _ => true | _ => false) && (match cvs21.getD 7 .none with | .int _ _ => true | _ => false) && (match cvs21.getD 9 .none with | .bool _ => true | _ => false) && (match cvs21.getD 10 .none with | .int _ _ => true | _ => false) && cA21 != tA21) = true)
  (ln21 : K.lookup tA21 = none) (lt21 : h.get? tA21 = some (PySem.W.tabObj #[]))
  (a22 : PySem.W.nsIn K mainGlobals "_law_ring" = some (some (.ref f22))) (l22 : K.lookup f22 = some ⟨oc22, od22, .func (PySem.W.fnOf "_law_ring" "_law_ring" (defArgs s_l_ring) (defBody s_l_ring) (defScope s_l_ring) .none kV22 dc22 pm22 an22 cd22 ct22), sl22⟩) (c22 : PySem.W.codeIn K cd22 "_law_ring" = true) (k22 : PySem.W.keepIn K (.ref f22) = true)
  (a23 : PySem.W.nsIn K mainGlobals "_law_two_rings" = some (some (.ref f23))) (l23 : K.lookup f23 = some ⟨oc23, od23, .func (PySem.W.fnOf "_law_two_rings" "_law_two_rings" (defArgs s_l_two_rings) (defBody s_l_two_rings) (defScope s_l_two_rings) .none kV23 dc23 pm23 an23 cd23 ct23), sl23⟩) (c23 : PySem.W.codeIn K cd23 "_law_two_rings" = true) (k23 : PySem.W.keepIn K (.ref f23) = true)
  (a24 : PySem.W.nsIn K mainGlobals "law" = some (some (.ref f24))) (l24 : K.lookup f24 = some ⟨oc24, od24, .func (PySem.W.fnOf "law" "law" (defArgs s_law) (defBody s_law) (defScope s_law) .none kV24 dc24 pm24 an24 cd24 ct24), sl24⟩) (c24 : PySem.W.codeIn K cd24 "law" = true) (k24 : PySem.W.keepIn K (.ref f24) = true)
  (z0 : PySem.W.nsIn K mainGlobals "range" = some none)
  (z1 : PySem.W.nsIn K mainGlobals "tuple" = some none)
  (z2 : PySem.W.nsIn K mainGlobals "len" = some none)
  (z3 : PySem.W.nsIn K mainGlobals "sorted" = some none)
  (z4 : PySem.W.nsIn K mainGlobals "abs" = some none)
  (z5 : PySem.W.nsIn K mainGlobals "isinstance" = some none)
  (z6 : PySem.W.nsIn K mainGlobals "list" = some none)
  (z7 : PySem.W.nsIn K mainGlobals "zip" = some none)
  (z8 : PySem.W.nsIn K mainGlobals "bool" = some none)
  (z9 : PySem.W.nsIn K mainGlobals "set" = some none)
  (z10 : PySem.W.nsIn K mainGlobals "min" = some none)
  (z11 : PySem.W.nsIn K mainGlobals "all" = some none)
  (z12 : PySem.W.nsIn K mainGlobals "int" = some none)
  (tne01 : tA6 ≠ tA7)
  (tne02 : tA6 ≠ tA8)
  (tne03 : tA6 ≠ tA21)
  (tne12 : tA7 ≠ tA8)
  (tne13 : tA7 ≠ tA21)
  (tne23 : tA8 ≠ tA21)
  : ∃ (fd : FuncData) (ts : List Addr), (∀ T ∈ ts, (∃ c, PySem.W.CodeHd h c T) ∧ h.get? T = some (PySem.W.tabObj #[]) ∧ K.lookup T = none) ∧ (∀ (s : Shared) (v : Value), BindsTo s fd ⟨[v], []⟩ [("_law_script", v)]) ∧ ∀ base : Heap, K.In base → base.Ns mainGlobals mg → BltAt mg base → FnOk l.prog w K mg base CX0 7 fa fd ["_law_script"] (spLaw K ts) := by
 have e := hfa.symm.trans (PySem.W.mg_of X G a24)
 cases e
 have F0 := fun_mk (st := s_all_letters) l0 c0 k0
 have b0 := F0.binds (ps := ["base", "many"]) fun _ _ _ _ _ _ us hl => ln2 us hl fun _ _ => rfl
 have F1 := func_mk (st := s_grown_from) l1 c1 k1
 have b1 : Binds K (PySem.W.fnOf "grown_from" "grown_from" (defArgs s_grown_from) (defBody s_grown_from) (defScope s_grown_from) (.ref dT1) kV1 dc1 pm1 an1 (.ref cA1) ct1) ["first", "many", "onward", "is_yes", "most"] [] := fun s us hK hl => ln5 us (by rw [List.append_nil] at hl; exact hl) fun _ _ _ _ _ => BindsTo.of_defaults (T := dT1) rfl (hK _ _ ld1) rfl rfl rfl
 have d1 : ∃ t, Binds K (PySem.W.fnOf "grown_from" "grown_from" (defArgs s_grown_from) (defBody s_grown_from) (defScope s_grown_from) (.ref dT1) kV1 dc1 pm1 an1 (.ref cA1) ct1) ["first", "many", "onward", "is_yes", "most"] [.int 2000 t] := ⟨dtk1, fun s us hK hl => have h3 : us.length = 4 := (by simpa using hl); ln4 us h3 fun _ _ _ _ => BindsTo.of_defaults (T := dT1) rfl (hK _ _ ld1) rfl rfl rfl⟩
 have F2 := fun_mk (st := s_machine_of) l2 c2 k2
 have b2 := F2.binds (ps := ["base", "names", "growth", "most"]) fun _ _ _ _ _ _ us hl => ln4 us hl fun _ _ _ _ => rfl
 have F3 := fun_mk (st := s_own_letters) l3 c3 k3
 have b3 := F3.binds (ps := ["base", "names", "own"]) fun _ _ _ _ _ _ us hl => ln3 us hl fun _ _ _ => rfl
 have F4 := fun_mk (st := s_turned_no) l4 c4 k4
 have b4 := F4.binds (ps := ["machine"]) fun _ _ _ _ _ _ us hl => ln1 us hl fun _ => rfl
 have F5 := fun_mk (st := s_names_of_both) l5 c5 k5
 have b5 := F5.binds (ps := ["one", "other"]) fun _ _ _ _ _ _ us hl => ln2 us hl fun _ _ => rfl
 have F6 := func_mk (st := s_pairs_onward) l6 c6 k6
 have H6 := codeHd_in lc6 le6
 have b6 : Binds K (PySem.W.fnOf "pairs_onward" "pairs_onward" (defArgs s_pairs_onward) (defBody s_pairs_onward) (defScope s_pairs_onward) .none kV6 dc6 pm6 an6 (.ref cA6) ct6) ["base", "one", "other"] [] := .all fun us hl => ln3 us hl fun _ _ _ => rfl
 have F7 := func_mk (st := s_both_growth) l7 c7 k7
 have H7 := codeHd_in lc7 le7
 have b7 : Binds K (PySem.W.fnOf "both_growth" "both_growth" (defArgs s_both_growth) (defBody s_both_growth) (defScope s_both_growth) .none kV7 dc7 pm7 an7 (.ref cA7) ct7) ["base", "one", "other"] [] := .all fun us hl => ln3 us hl fun _ _ _ => rfl
 have F8 := func_mk (st := s_either_growth) l8 c8 k8
 have H8 := codeHd_in lc8 le8
 have b8 : Binds K (PySem.W.fnOf "either_growth" "either_growth" (defArgs s_either_growth) (defBody s_either_growth) (defScope s_either_growth) .none kV8 dc8 pm8 an8 (.ref cA8) ct8) ["base", "one", "other"] [] := .all fun us hl => ln3 us hl fun _ _ _ => rfl
 have F9 := func_mk (st := s_both_of) l9 c9 k9
 have b9 : Binds K (PySem.W.fnOf "both_of" "both_of" (defArgs s_both_of) (defBody s_both_of) (defScope s_both_of) (.ref dT9) kV9 dc9 pm9 an9 (.ref cA9) ct9) ["base", "one", "other", "most"] [] := fun s us hK hl => ln4 us (by rw [List.append_nil] at hl; exact hl) fun _ _ _ _ => BindsTo.of_defaults (T := dT9) rfl (hK _ _ ld9) rfl rfl rfl
 have d9 : ∃ t, Binds K (PySem.W.fnOf "both_of" "both_of" (defArgs s_both_of) (defBody s_both_of) (defScope s_both_of) (.ref dT9) kV9 dc9 pm9 an9 (.ref cA9) ct9) ["base", "one", "other", "most"] [.int 2000 t] := ⟨dtk9, fun s us hK hl => have h3 : us.length = 3 := (by simpa using hl); ln3 us h3 fun _ _ _ => BindsTo.of_defaults (T := dT9) rfl (hK _ _ ld9) rfl rfl rfl⟩
 have F10 := func_mk (st := s_either_of) l10 c10 k10
 have b10 : Binds K (PySem.W.fnOf "either_of" "either_of" (defArgs s_either_of) (defBody s_either_of) (defScope s_either_of) (.ref dT10) kV10 dc10 pm10 an10 (.ref cA10) ct10) ["base", "one", "other", "most"] [] := fun s us hK hl => ln4 us (by rw [List.append_nil] at hl; exact hl) fun _ _ _ _ => BindsTo.of_defaults (T := dT10) rfl (hK _ _ ld10) rfl rfl rfl
 have d10 : ∃ t, Binds K (PySem.W.fnOf "either_of" "either_of" (defArgs s_either_of) (defBody s_either_of) (defScope s_either_of) (.ref dT10) kV10 dc10 pm10 an10 (.ref cA10) ct10) ["base", "one", "other", "most"] [.int 2000 t] := ⟨dtk10, fun s us hK hl => have h3 : us.length = 3 := (by simpa using hl); ln3 us h3 fun _ _ _ => BindsTo.of_defaults (T := dT10) rfl (hK _ _ ld10) rfl rfl rfl⟩
 have F11 := fun_mk (st := s_l_feed) l11 c11 k11
 have b11 := F11.binds (ps := ["_law_script"]) fun _ _ _ _ _ _ us hl => ln1 us hl fun _ => rfl
 have F12 := fun_mk (st := s_l_draw) l12 c12 k12
 have b12 := F12.binds (ps := ["_law_feed_here", "_law_many"]) fun _ _ _ _ _ _ us hl => ln2 us hl fun _ _ => rfl
 have F13 := fun_mk (st := s_l_after) l13 c13 k13
 have b13 := F13.binds (ps := ["_law_word"]) fun _ _ _ _ _ _ us hl => ln1 us hl fun _ => rfl
 have F14 := fun_mk (st := s_l_names) l14 c14 k14
 have b14 := F14.binds (ps := ["_law_feed_here", "_law_many"]) fun _ _ _ _ _ _ us hl => ln2 us hl fun _ _ => rfl
 have F15 := fun_mk (st := s_l_rings) l15 c15 k15
 have b15 := F15.binds (ps := ["_law_moves"]) fun _ _ _ _ _ _ us hl => ln1 us hl fun _ => rfl
 have F16 := fun_mk (st := s_l_machine) l16 c16 k16
 have b16 := F16.binds (ps := ["_law_feed_here", "_law_base", "_law_names_here", "_law_most"]) fun _ _ _ _ _ _ us hl => ln4 us hl fun _ _ _ _ => rfl
 have F17 := fun_mk (st := s_l_letters) l17 c17 k17
 have b17 := F17.binds (ps := ["_law_base", "_law_many"]) fun _ _ _ _ _ _ us hl => ln2 us hl fun _ _ => rfl
 have F18 := fun_mk (st := s_l_grown) l18 c18 k18
 have b18 := F18.binds (ps := ["_law_first", "_law_many", "_law_onward", "_law_most"]) fun _ _ _ _ _ _ us hl => ln4 us hl fun _ _ _ _ => rfl
 have F19 := fun_mk (st := s_l_alike) l19 c19 k19
 have b19 := F19.binds (ps := ["_law_found", "_law_due_here"]) fun _ _ _ _ _ _ us hl => ln2 us hl fun _ _ => rfl
 have F20 := fun_mk (st := s_l_numbers) l20 c20 k20
 have b20 := F20.binds (ps := ["_law_base", "_law_names_here", "_law_own"]) fun _ _ _ _ _ _ us hl => ln3 us hl fun _ _ _ => rfl
 have F21 := func_mk (st := s_l_due) l21 c21 k21
 have H21 := codeHd_in lc21 le21
 have b21 : Binds K (PySem.W.fnOf "_law_due" "_law_due" (defArgs s_l_due) (defBody s_l_due) (defScope s_l_due) .none kV21 dc21 pm21 an21 (.ref cA21) ct21) ["_law_base", "_law_one", "_law_other"] [] := .all fun us hl => ln3 us hl fun _ _ _ => rfl
 have F22 := fun_mk (st := s_l_ring) l22 c22 k22
 have b22 := F22.binds (ps := ["_law_rooms"]) fun _ _ _ _ _ _ us hl => ln1 us hl fun _ => rfl
 have F23 := fun_mk (st := s_l_two_rings) l23 c23 k23
 have b23 := F23.binds (ps := ["_law_rooms"]) fun _ _ _ _ _ _ us hl => ln1 us hl fun _ => rfl
 have F24 := fun_mk (st := s_law) l24 c24 k24
 have T : Txt K mg ⟨f0, _, f1, _, cA1, f2, _, f3, _, f4, _, f5, _, f6, _, cA6, tA6, f7, _, cA7, tA7, f8, _, cA8, tA8, f9, _, cA9, f10, _, cA10, f11, _, f12, _, f13, _, f14, _, f15, _, f16, _, f17, _, f18, _, f19, _, f20, _, f21, _, cA21, tA21, f22, _, f23, _, fa, _⟩ := ⟨F0, PySem.W.mg_of X G a0, k0, b0, F1, PySem.W.mg_of X G a1, k1, b1, d1, F2, PySem.W.mg_of X G a2, k2, b2, F3, PySem.W.mg_of X G a3, k3, b3, F4, PySem.W.mg_of X G a4, k4, b4, F5, PySem.W.mg_of X G a5, k5, b5, F6, H6, PySem.W.mg_of X G a6, k6, b6, F7, H7, PySem.W.mg_of X G a7, k7, b7, F8, H8, PySem.W.mg_of X G a8, k8, b8, F9, PySem.W.mg_of X G a9, k9, b9, d9, F10, PySem.W.mg_of X G a10, k10, b10, d10, F11, PySem.W.mg_of X G a11, k11, b11, F12, PySem.W.mg_of X G a12, k12, b12, F13, PySem.W.mg_of X G a13, k13, b13, F14, PySem.W.mg_of X G a14, k14, b14, F15, PySem.W.mg_of X G a15, k15, b15, F16, PySem.W.mg_of X G a16, k16, b16, F17, PySem.W.mg_of X G a17, k17, b17, F18, PySem.W.mg_of X G a18, k18, b18, F19, PySem.W.mg_of X G a19, k19, b19, F20, PySem.W.mg_of X G a20, k20, b20, F21, H21, PySem.W.mg_of X G a21, k21, b21, F22, PySem.W.mg_of X G a22, k22, b22, F23, PySem.W.mg_of X G a23, k23, b23, F24, PySem.W.mg_of X G a24, PySem.W.mg_none_of X G z0, PySem.W.mg_none_of X G z1, PySem.W.mg_none_of X G z2, PySem.W.mg_none_of X G z3, PySem.W.mg_none_of X G z4, PySem.W.mg_none_of X G z5, PySem.W.mg_none_of X G z6, PySem.W.mg_none_of X G z7, PySem.W.mg_none_of X G z8, PySem.W.mg_none_of X G z9, PySem.W.mg_none_of X G z10, PySem.W.mg_none_of X G z11, PySem.W.mg_none_of X G z12, tne01, tne02, tne03, tne12, tne13, tne23⟩
 exact ⟨PySem.W.fnOf "law" "law" (defArgs s_law) (defBody s_law) (defScope s_law) .none kV24 dc24 pm24 an24 cd24 ct24, [tA6, tA7, tA8, tA21], (List.forall_mem_cons.mpr ⟨⟨⟨_, PySem.W.codeHd_of_K X H6⟩, lt6, ln6⟩, (List.forall_mem_cons.mpr ⟨⟨⟨_, PySem.W.codeHd_of_K X H7⟩, lt7, ln7⟩, (List.forall_mem_cons.mpr ⟨⟨⟨_, PySem.W.codeHd_of_K X H8⟩, lt8, ln8⟩, (List.forall_mem_cons.mpr ⟨⟨⟨_, PySem.W.codeHd_of_K X H21⟩, lt21, ln21⟩, (fun _ h => nomatch h)⟩)⟩)⟩)⟩), fun s v => .of_eq rfl, fun base _ _ hB => ok_law T hB⟩
theorem walk {l : PySem.W.OpenLaw} {q : Program} {loose : List Str} {XP : (Str → Option Value) → Heap → Prop} {YP : World → Heap → Prop} {d : DefRec} {K : Params → PySem.W.Frag} (hn : l.most = some 63) (hdf : d.params.defaults = [])
  (hY : ∀ (w : World) (h : Heap), YP w h → (K w.params).In h)
  (F : ∀ (w : World) (mg : Str → Option Value) (fa : Addr) (h : Heap), (K w.params).In h → h.Ns mainGlobals mg → mg d.name = some (.ref fa) → YP w h →
   ∃ (fd : FuncData) (ts : List Addr), (∀ T ∈ ts, (∃ c, PySem.W.CodeHd h c T) ∧ h.get? T = some (PySem.W.tabObj #[]) ∧ (K w.params).lookup T = none) ∧ (∀ (s : Shared) (u : Value), BindsTo s fd ⟨[u], []⟩ [("_law_script", u)]) ∧
    ∀ base : Heap, (K w.params).In base → base.Ns mainGlobals mg → BltAt mg base → FnOk l.prog w (K w.params) mg base CX0 7 fa fd ["_law_script"] (spLaw (K w.params) ts)) :
  PySem.W.WalkO q loose XP YP l.row.toRowW d [] (fun f vs => PySem.call f vs) :=
 L2.walk_ofT (n := 63) (k := 7) (x := "_law_script") (sp := fun w ts => spLaw (K w.params) ts) hn (by decide) hdf ⟨rfl, by decide, by decide, rfl⟩ hY F (fun _ _ a ns _ hl hO hS => ⟨a, ns, rfl, hS, hl, hO, fun _ => rfl⟩)
end
end My
open PySem PySem.W PyProof.Rows
set_option maxRecDepth 100000 in
set_option maxHeartbeats 0 in
theorem PySem.Challenge.cw_figurejudge_k41_not_and_or_by_own_names_holds : PySem.Challenge.rw_figurejudge_k41_not_and_or_by_own_names.Holds := by
 w_on; o_law; k_head; (case hw => w_witness2)
 k_fill
 refine My.walk (l := PySem.Challenge.rw_figurejudge_k41_not_and_or_by_own_names) rfl rfl (fun w h Y => PySem.W.km_in_of Y) ?F
 case F =>
  intro w mg fa h KX G hmg Y
  refine' My.all_mk KX G hmg ?a0 ?l0 ?c0 ?k0 ?a1 ?l1 ?c1 ?k1 ?ld1 ?a2 ?l2 ?c2 ?k2 ?a3 ?l3 ?c3 ?k3 ?a4 ?l4 ?c4 ?k4 ?a5 ?l5 ?c5 ?k5 ?a6 ?l6 ?c6 ?k6 ?lc6 ?lv6 ?le6 ?ln6 ?lt6 ?a7 ?l7 ?c7 ?k7 ?lc7 ?lv7 ?le7 ?ln7 ?lt7 ?a8 ?l8 ?c8 ?k8 ?lc8 ?lv8 ?le8 ?ln8 ?lt8 ?a9 ?l9 ?c9 ?k9 ?ld9 ?a10 ?l10 ?c10 ?k10 ?ld10 ?a11 ?l11 ?c11 ?k11 ?a12 ?l12 ?c12 ?k12 ?a13 ?l13 ?c13 ?k13 ?a14 ?l14 ?c14 ?k14 ?a15 ?l15 ?c15 ?k15 ?a16 ?l16 ?c16 ?k16 ?a17 ?l17 ?c17 ?k17 ?a18 ?l18 ?c18 ?k18 ?a19 ?l19 ?c19 ?k19 ?a20 ?l20 ?c20 ?k20 ?a21 ?l21 ?c21 ?k21 ?lc21 ?lv21 ?le21 ?ln21 ?lt21 ?a22 ?l22 ?c22 ?k22 ?a23 ?l23 ?c23 ?k23 ?a24 ?l24 ?c24 ?k24 ?z0 ?z1 ?z2 ?z3 ?z4 ?z5 ?z6 ?z7 ?z8 ?z9 ?z10 ?z11 ?z12 ?tne01 ?tne02 ?tne03 ?tne12 ?tne13 ?tne23
  (case a0 => k_is)
  (case l0 => k_is)
  (case c0 => k_is)
  (case k0 => k_is)
  (case a1 => k_is)
  (case l1 => k_is)
  (case c1 => k_is)
  (case k1 => k_is)
  (case ld1 => k_is)
  (case a2 => k_is)
  (case l2 => k_is)
  (case c2 => k_is)
  (case k2 => k_is)
  (case a3 => k_is)
  (case l3 => k_is)
  (case c3 => k_is)
  (case k3 => k_is)
  (case a4 => k_is)
  (case l4 => k_is)
  (case c4 => k_is)
  (case k4 => k_is)
  (case a5 => k_is)
  (case l5 => k_is)
  (case c5 => k_is)
  (case k5 => k_is)
  (case a6 => k_is)
  (case l6 => k_is)
  (case c6 => k_is)
  (case k6 => k_is)
  (case lc6 => k_is)
  (case lv6 => rfl)
  (case le6 => rfl)
  (case ln6 => kernel_rfl)
  (case lt6 => exact PySem.W.km_tabs_of Y _ (by decide))
  (case a7 => k_is)
  (case l7 => k_is)
  (case c7 => k_is)
  (case k7 => k_is)
  (case lc7 => k_is)
  (case lv7 => rfl)
  (case le7 => rfl)
  (case ln7 => kernel_rfl)
  (case lt7 => exact PySem.W.km_tabs_of Y _ (by decide))
  (case a8 => k_is)
  (case l8 => k_is)
  (case c8 => k_is)
  (case k8 => k_is)
  (case lc8 => k_is)
  (case lv8 => rfl)
  (case le8 => rfl)
  (case ln8 => kernel_rfl)
  (case lt8 => exact PySem.W.km_tabs_of Y _ (by decide))
  (case a9 => k_is)
  (case l9 => k_is)
  (case c9 => k_is)
  (case k9 => k_is)
  (case ld9 => k_is)
  (case a10 => k_is)
  (case l10 => k_is)
  (case c10 => k_is)
  (case k10 => k_is)
  (case ld10 => k_is)
  (case a11 => k_is)
  (case l11 => k_is)
  (case c11 => k_is)
  (case k11 => k_is)
  (case a12 => k_is)
  (case l12 => k_is)
  (case c12 => k_is)
  (case k12 => k_is)
  (case a13 => k_is)
  (case l13 => k_is)
  (case c13 => k_is)
  (case k13 => k_is)
  (case a14 => k_is)
  (case l14 => k_is)
  (case c14 => k_is)
  (case k14 => k_is)
  (case a15 => k_is)
  (case l15 => k_is)
  (case c15 => k_is)
  (case k15 => k_is)
  (case a16 => k_is)
  (case l16 => k_is)
  (case c16 => k_is)
  (case k16 => k_is)
  (case a17 => k_is)
  (case l17 => k_is)
  (case c17 => k_is)
  (case k17 => k_is)
  (case a18 => k_is)
  (case l18 => k_is)
  (case c18 => k_is)
  (case k18 => k_is)
  (case a19 => k_is)
  (case l19 => k_is)
  (case c19 => k_is)
  (case k19 => k_is)
  (case a20 => k_is)
  (case l20 => k_is)
  (case c20 => k_is)
  (case k20 => k_is)
  (case a21 => k_is)
  (case l21 => k_is)
  (case c21 => k_is)
  (case k21 => k_is)
  (case lc21 => k_is)
  (case lv21 => rfl)
  (case le21 => rfl)
  (case ln21 => kernel_rfl)
  (case lt21 => exact PySem.W.km_tabs_of Y _ (by decide))
  (case a22 => k_is)
  (case l22 => k_is)
  (case c22 => k_is)
  (case k22 => k_is)
  (case a23 => k_is)
  (case l23 => k_is)
  (case c23 => k_is)
  (case k23 => k_is)
  (case a24 => k_is)
  (case l24 => k_is)
  (case c24 => k_is)
  (case k24 => k_is)
  (case z0 => k_is)
  (case z1 => k_is)
  (case z2 => k_is)
  (case z3 => k_is)
  (case z4 => k_is)
  (case z5 => k_is)
  (case z6 => k_is)
  (case z7 => k_is)
  (case z8 => k_is)
  (case z9 => k_is)
  (case z10 => k_is)
  (case z11 => k_is)
  (case z12 => k_is)
  (case tne01 => decide)
  (case tne02 => decide)
  (case tne03 => decide)
  (case tne12 => decide)
  (case tne13 => decide)
  (case tne23 => decide)
#print axioms PySem.Challenge.cw_figurejudge_k41_not_and_or_by_own_names_holds
