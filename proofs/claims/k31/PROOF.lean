import PyProof.Rows.All
import Wide.All
import OpenK.AllK
import Wide.FinOn
import Lean
import PyProof.EqAt
import PyProof.EqKinds
import PyProof.TupleCall
import PyProof.NeKinds
import PyProof.ListRange
import PyProof.Draws
import PyProof.Rows.SortStr
import KE.KDictSum
import KE.KEqDict
import KE.KDictOf
import KE.KRevSl
import PyProof.StrWalks
import PyProof.StrBlock2
import PyProof.SetKind
import PyProof.SetRoads
import PyProof.Rows.SetFrom
import PyProof.ReprRoads
import PyProof.ReprLen
import PyProof.NsDelKeeps
import PyProof.ListMulRoad
import PyProof.FactsAll.tuple_2
import KE.KLam
import KE.KNestM
import PyProof.AttrMissHeap
import PyProof.Rows.SortShell
import PySem.Challenge.RW_figurejudge_k31_rooms_as_they_come_up
set_option Elab.async false
set_option linter.all false
set_option maxRecDepth 100000
set_option maxHeartbeats 4000000
namespace L2
open PySem PySem.Spec PyProof.Rows
abbrev Key := Sum Int Str
def keyIs : Key → Value → Bool
 | .inl k, v => Value.isInt k v
 | .inr x, v => Value.isStrOf x v
def keyH (w : World) : Key → Int
 | .inl k => hashInt k
 | .inr x => hashStr w x
theorem keyIs_shape : ∀ {k : Key} {v : Value}, keyIs k v = true → (∃ i t, k = Sum.inl i ∧ v = Value.int i t) ∨ (∃ x t, k = Sum.inr x ∧ v = Value.str x t)
 | .inl i, v, h => by
  obtain ⟨t, e⟩ := Value.isInt_shape (k := i) (v := v) h
  exact .inl ⟨i, t, rfl, e⟩
 | .inr x, v, h => by
  obtain ⟨t, e⟩ := Value.isStrOf_shape (x := x) (v := v) h
  exact .inr ⟨x, t, rfl, e⟩
theorem keyIs_int (i : Int) (t : Tok) : keyIs (.inl i) (.int i t) = true := by simp [keyIs, Value.isInt]
theorem keyIs_str (x : Str) (t : Tok) : keyIs (.inr x) (.str x t) = true := by simp [keyIs, Value.isStrOf]
theorem key_ll (a b : Int) : decide ((Sum.inl a : Key) = Sum.inl b) = (a == b) := by
 by_cases e : a = b
 ·subst e; simp
 ·have h : ¬ (Sum.inl a : Key) = Sum.inl b := fun q => e (Sum.inl.inj q)
  rw [decide_eq_false h]
  exact (beq_eq_false_iff_ne.mpr e).symm
theorem key_rr (a b : Str) : decide ((Sum.inr a : Key) = Sum.inr b) = decide (a = b) := by
 by_cases e : a = b
 ·subst e; simp
 ·have h : ¬ (Sum.inr a : Key) = Sum.inr b := fun q => e (Sum.inr.inj q)
  rw [decide_eq_false h, decide_eq_false e]
theorem key_lr (a : Int) (b : Str) : decide ((Sum.inl a : Key) = Sum.inr b) = false := decide_eq_false (fun q => nomatch q)
theorem key_rl (a : Str) (b : Int) : decide ((Sum.inr a : Key) = Sum.inl b) = false := decide_eq_false (fun q => nomatch q)
def mixKind (prog : Program) (w : World) : PySem.KeyKind prog w Key where
 is := keyIs
 hash := keyH w
 inj := fun v a b ha hb => by
  rcases keyIs_shape ha with ⟨i, t, rfl, rfl⟩ | ⟨x, t, rfl, rfl⟩
  ·rcases keyIs_shape hb with ⟨j, u, rfl, e⟩ | ⟨y, u, rfl, e⟩
   ·injection e with e1 _; rw [e1]
   ·exact nomatch e
  ·rcases keyIs_shape hb with ⟨j, u, rfl, e⟩ | ⟨y, u, rfl, e⟩
   ·exact nomatch e
   ·injection e with e1 _; rw [e1]
 byValue := fun k v h => by
  rcases keyIs_shape h with ⟨i, t, rfl, rfl⟩ | ⟨x, t, rfl, rfl⟩ <;> rfl
 pyHash := fun hv h => by
  rcases keyIs_shape hv with ⟨i, t, rfl, rfl⟩ | ⟨x, t, rfl, rfl⟩
  ·exact wpAny_pyHash_int h
  ·exact wpAny_pyHash_str h
 eqBool := fun hu hv h => by
  rcases keyIs_shape hu with ⟨i, t, rfl, rfl⟩ | ⟨x, t, rfl, rfl⟩
  ·rcases keyIs_shape hv with ⟨j, u, rfl, rfl⟩ | ⟨y, u, rfl, rfl⟩
   ·rw [key_ll] at h; exact wpAny_eqBool_int h
   ·rw [key_lr] at h; exact SeqAt.EqAt.int_str i t y u _ _ _ _ h
  ·rcases keyIs_shape hv with ⟨j, u, rfl, rfl⟩ | ⟨y, u, rfl, rfl⟩
   ·rw [key_rl] at h; exact SeqAt.EqAt.str_int x t j u _ _ _ _ h
   ·rw [key_rr] at h; exact wpAny_eqBool_str h
 «strs» := fun k x t v h => by
  rcases keyIs_shape h with ⟨i, u, rfl, e⟩ | ⟨y, u, rfl, e⟩
  ·exact nomatch e
  ·injection e with e1 _
   subst e1
   cases v <;> rfl
theorem mixKind_int (prog : Program) (w : World) (i : Int) (t : Tok) : (mixKind prog w).is (.inl i) (.int i t) = true := keyIs_int i t
theorem mixKind_str (prog : Program) (w : World) (x : Str) (t : Tok) : (mixKind prog w).is (.inr x) (.str x t) = true := keyIs_str x t
inductive V where
 | non | bl (b : Bool) | int (i : Int) | str (x : Str) | byt (b : Array UInt8) | flt (b : UInt64) | ref (a : Addr) | ty (n : String)
 deriving DecidableEq
def RelV : V → Value → Prop
 | .non, u => u = Value.none
 | .bl b, u => u = Value.bool b
 | .int i, u => ∃ t, u = Value.int i t
 | .str x, u => ∃ t, u = Value.str x t
 | .byt b, u => ∃ t, u = Value.bytes b t
 | .flt b, u => ∃ t, u = Value.float b t
 | .ref a, u => u = Value.ref a
 | .ty n, u => u = Value.type n
abbrev Vals : List V → List Value → Prop := Paired RelV
theorem Vals.length {xs : List V} {us : List Value} (r : Vals xs us) : xs.length = us.length := Paired.length r
theorem Vals.get : ∀ {xs : List V} {us : List Value} {i : Nat} {x : V}, Vals xs us → xs[i]? = some x → ∃ u, us[i]? = some u ∧ RelV x u
 | _, _, _, _, .nil, e => by simp at e
 | _, _, 0, _, .cons r _, e => by simp at e; subst e; exact ⟨_, rfl, r⟩
 | _, _, i + 1, x, .cons _ t, e => by
  obtain ⟨u, h1, h2⟩ := Vals.get (i := i) (x := x) t (by simpa using e)
  exact ⟨u, by simpa using h1, h2⟩
theorem Vals.set {x : V} {u : Value} (r : RelV x u) : ∀ {xs : List V} {us : List Value} (i : Nat), Vals xs us → Vals (xs.set i x) (us.set i u)
 | _, _, _, .nil => .nil
 | _, _, 0, .cons _ t => .cons r t
 | _, _, i + 1, .cons q t => .cons q (Vals.set r i t)
theorem Vals.append : ∀ {xs ys : List V} {us ws : List Value}, Vals xs us → Vals ys ws → Vals (xs ++ ys) (us ++ ws)
 | _, _, _, _, .nil, s => s
 | _, _, _, _, .cons r t, s => .cons r (Vals.append t s)
theorem Vals.take : ∀ {xs : List V} {us : List Value} (n : Nat), Vals xs us → Vals (xs.take n) (us.take n)
 | _, _, 0, _ => .nil
 | _, _, _ + 1, .nil => .nil
 | _, _, n + 1, .cons r t => .cons r (Vals.take n t)
theorem Vals.drop : ∀ {xs : List V} {us : List Value} (n : Nat), Vals xs us → Vals (xs.drop n) (us.drop n)
 | _, _, 0, r => r
 | _, _, _ + 1, .nil => .nil
 | _, _, n + 1, .cons _ t => Vals.drop n t
def RelO : Option V → Option Value → Prop
 | some v, some u => RelV v u
 | none, none => True
 | _, _ => False
def KV {κ : Type} : List (κ × V) → List (κ × Value) → Prop := Paired fun (p : κ × V) (q : κ × Value) => p.1 = q.1 ∧ RelV p.2 q.2
def kV : Key → V
 | .inl i => .int i
 | .inr x => .str x
inductive HO where
 | lst (xs : List V)
 | tup (xs : List V)
 | dK (kvs : List (Key × V)) | dT (kvs : List (List Key × V))
 | set (S : Int → Bool) (n : Nat)
 | ins (C dx : Addr) (fs : List (Str × V))
 | own (x : Addr)
 | xd (fs : List (Str × V))
 | met (f x : Addr)
 | rng (lo hi : Int)
 | frz (o : Obj) (u : HO)
 | tbl (ps : Array Value)
 | ext (φ : Heap → Prop)
abbrev Hp := Addr → Option HO
def upd (H : Hp) (a : Addr) (o : HO) : Hp := fun b => if b = a then some o else H b
theorem upd_same {H : Hp} {a : Addr} {o : HO} : upd H a o a = some o := by unfold upd; rw [if_pos rfl]
theorem upd_ne {H : Hp} {a b : Addr} {o : HO} (h : b ≠ a) : upd H a o b = H b := by unfold upd; rw [if_neg h]
theorem ne_of {H : Hp} {a b : Addr} {o u : HO} (h : H a = some o) (h' : H b = some u) (d : o ≠ u) : a ≠ b := by
 intro e; subst e; rw [h] at h'; exact d (Option.some.inj h')
theorem ne_of_none {H : Hp} {a b : Addr} {o : HO} (h : H a = some o) (h' : H b = none) : a ≠ b := by
 intro e; subst e; rw [h] at h'; cases h'
section
variable (P : Program) (w : World)
def ObjOk (H : Hp) (h : Heap) (a : Addr) : HO → Prop
 | .lst xs => xs.length ≤ sizeLine ∧ ∃ (its : List Value) (n : Nat), Vals xs its ∧ h.get? a = some { cls := .type "list", data := .seq its.toArray n }
 | .tup xs => (xs.length ≤ sizeLine ∧ ∃ o, h.get? a = some o ∧ o.dict = none) ∧ ∃ its : List Value, Vals xs its ∧ IsTup h a its.toArray
 | .dK kvs => kvs.length ≤ sizeLine ∧ (a == sysModules) = false ∧ ∃ vs, KV kvs vs ∧ h.DictOf (mixKind P w) a vs
 | .dT kvs => kvs.length ≤ sizeLine ∧ (a == sysModules) = false ∧ ∃ xs : List (List Key × Addr × Value),
   Paired (fun (p : List Key × V) (q : List Key × Addr × Value) => p.1 = q.1 ∧ H q.2.1 = some (.tup (p.1.map kV)) ∧ RelV p.2 q.2.2) kvs xs ∧
   ∃ o es ep, h.get? a = some o ∧ o.ExactDict ∧ o.data = .dict es ep ∧ es.toList = xs.map (entryOfKey (tupleKind (mixKind P w))) ∧ (xs.map (·.1)).Nodup
 | .set S n => h.SetOf (intKind P w) a S n
 | .ins C dx fs => H dx = some (.own a) ∧ fs.length ≤ 1000 ∧ dx ≠ a ∧ h.get? a = some (PySem.W.instObj C dx) ∧
   ∃ mA, h.Ns1 dx mA ∧ (∀ f, RelO (fs.lookup f) (mA f)) ∧ PySem.Within mA (fs.map (·.1))
 | .own _ => ∃ o, h.get? a = some o
 | .xd fs => ∃ mA, h.Ns1 a mA ∧ ∀ f, RelO (fs.lookup f) (mA f)
 | .rng lo hi => ∃ t u v, h.get? a = some { cls := .type "range", data := .fields #[.int lo t, .int hi u, .int 1 v] }
 | .frz o u => h.get? a = some o ∧ ObjOk H h a u
 | .tbl ps => h.get? a = some { cls := .none, data := .fields ps }
 | .met f x => h.get? a = some (PySem.W.methodObj (.ref f) (.ref x))
 | .ext φ => φ h ∧ (∃ o, h.get? a = some o) ∧ ∀ h1 h2 : Heap, φ h1 → (∀ o, h1.get? a = some o → h2.get? a = some o) → φ h2
def HOk (H : Hp) (h : Heap) : Prop := ∀ a o, H a = some o → ObjOk P w H h a o
end
section
variable {P : Program} {w : World} {H H' : Hp} {h h' : Heap} {a : Addr} {o : HO}
theorem ObjOk.lt (x : ObjOk P w H h a o) : a < h.objs.size := by
 cases o with
 | lst xs => obtain ⟨_, _, _, _, e⟩ := x; exact Heap.lt_size e
 | tup xs => obtain ⟨_, _, _, p⟩ := x; exact p.lt
 | dK kvs => obtain ⟨_, _, _, _, o, _, _, e, _⟩ := x; exact Heap.lt_size e
 | dT kvs => obtain ⟨_, _, _, _, o, _, _, e, _⟩ := x; exact Heap.lt_size e
 | set S n => obtain ⟨o, _, _, _, e, _⟩ := x; exact Heap.lt_size e
 | ins C dx fs => obtain ⟨_, _, _, e, _⟩ := x; exact Heap.lt_size e
 | own y => obtain ⟨_, e⟩ := x; exact Heap.lt_size e
 | xd fs => obtain ⟨_, ⟨_, _, _, e, _⟩, _⟩ := x; exact Heap.lt_size e
 | rng lo hi => obtain ⟨_, _, _, e⟩ := x; exact Heap.lt_size e
 | frz ob u => obtain ⟨e, _⟩ := x; exact Heap.lt_size e
 | tbl ps => exact Heap.lt_size (show h.get? a = some _ from x)
 | met f y => exact Heap.lt_size (show h.get? a = some _ from x)
 | ext φ => obtain ⟨_, ⟨_, e⟩, _⟩ := x; exact Heap.lt_size e
theorem Paired.mapP {α β : Type} {F G : α → β → Prop} : ∀ {l₁ : List α} {l₂ : List β}, Paired F l₁ l₂ → (∀ a b, F a b → G a b) → Paired G l₁ l₂
 | _, _, .nil, _ => .nil
 | _, _, .cons r t, f => .cons (f _ _ r) (Paired.mapP t f)
theorem ObjOk.stay (x : ObjOk P w H h a o) (k : ∀ b u, (b = a ∨ H b = some (.own a)) → h.get? b = some u → h'.get? b = some u)
  (ho : ∀ b, H b = some (.own a) → H' b = some (.own a)) (ht : ∀ b xs, H b = some (.tup xs) → H' b = some (.tup xs)) : ObjOk P w H' h' a o := by
 induction o with
 | lst xs => obtain ⟨z, its, n, r, e⟩ := x; exact ⟨z, its, n, r, k _ _ (.inl rfl) e⟩
 | tup xs => obtain ⟨⟨z, o2, e2, d2⟩, its, r, ob, e, c⟩ := x; exact ⟨⟨z, o2, k _ _ (.inl rfl) e2, d2⟩, its, r, ob, k _ _ (.inl rfl) e, c⟩
 | dK kvs => obtain ⟨z, y, vs, r, ob, es, ep, e, c⟩ := x; exact ⟨z, y, vs, r, ob, es, ep, k _ _ (.inl rfl) e, c⟩
 | dT kvs =>
  obtain ⟨z, y, xs, r, ob, es, ep, e, c⟩ := x
  exact ⟨z, y, xs, Paired.mapP r fun p q z => ⟨z.1, ht _ _ z.2.1, z.2.2⟩, ob, es, ep, k _ _ (.inl rfl) e, c⟩
 | set S n => obtain ⟨ob, es, ep, t, e, c⟩ := x; exact ⟨ob, es, ep, t, k _ _ (.inl rfl) e, c⟩
 | ins C dx fs =>
  obtain ⟨d, z, ne, e, mA, ⟨od, es, ep, e2, c⟩, r⟩ := x
  exact ⟨ho _ d, z, ne, k _ _ (.inl rfl) e, mA, ⟨od, es, ep, k _ _ (.inr d) e2, c⟩, r⟩
 | own y => obtain ⟨ob, e⟩ := x; exact ⟨ob, k _ _ (.inl rfl) e⟩
 | xd fs => obtain ⟨mA, ⟨od, es, ep, e, c⟩, r⟩ := x; exact ⟨mA, ⟨od, es, ep, k _ _ (.inl rfl) e, c⟩, r⟩
 | rng lo hi => obtain ⟨t, u, v, e⟩ := x; exact ⟨t, u, v, k _ _ (.inl rfl) e⟩
 | frz ob u ih => obtain ⟨e, q⟩ := x; exact ⟨k _ _ (.inl rfl) e, ih q⟩
 | tbl ps =>
  have e : h.get? a = some { cls := .none, data := .fields ps } := x
  show h'.get? a = some { cls := .none, data := .fields ps }
  exact k a _ (.inl rfl) e
 | met f y =>
  have e : h.get? a = some (PySem.W.methodObj (.ref f) (.ref y)) := x
  show h'.get? a = some (PySem.W.methodObj (.ref f) (.ref y))
  exact k a _ (.inl rfl) e
 | ext φ => obtain ⟨p, ⟨o, e⟩, st⟩ := x; exact ⟨st _ _ p fun o q => k _ _ (.inl rfl) q, ⟨o, k _ _ (.inl rfl) e⟩, st⟩
theorem HOk.lt (x : HOk P w H h) (e : H a = some o) : a < h.objs.size := (x a o e).lt
theorem HOk.fresh (x : HOk P w H h) (e : h.objs.size ≤ a) : H a = none := by
 cases q : H a with
 | none => rfl
 | some u => exact absurd (Nat.lt_of_lt_of_le (x.lt q) e) (Nat.lt_irrefl _)
theorem HOk.kept (x : HOk P w H h) (k : ∀ b u, h.get? b = some u → h'.get? b = some u) : HOk P w H h' := fun a o e =>
 (x a o e).stay (fun b u _ q => k b u q) (fun _ q => q) fun _ _ q => q
theorem HOk.laid (x : HOk P w H h) (k : ∀ b u, h.get? b = some u → h'.get? b = some u) (hp : h.objs.size ≤ a) (new : ObjOk P w (upd H a o) h' a o) : HOk P w (upd H a o) h' := fun b u e => by
 have hn := x.fresh hp
 by_cases hb : b = a
 ·subst hb; rw [upd_same] at e; cases e; exact new
 ·rw [upd_ne hb] at e
  exact (x b u e).stay (fun c v _ q => k c v q) (fun c q => by rw [upd_ne (ne_of_none q hn)]; exact q) fun c xs q => by rw [upd_ne (ne_of_none q hn)]; exact q
end
def Rd (H : Hp) (a : Addr) (u : HO) : Prop := H a = some u ∨ ∃ o, H a = some (.frz o u)
theorem Rd.ok {P : Program} {w : World} {H : Hp} {h : Heap} {a : Addr} {u : HO} (r : Rd H a u) (x : HOk P w H h) : ObjOk P w H h a u := by
 rcases r with r | ⟨o, r⟩
 ·exact x a u r
 ·obtain ⟨_, q⟩ := x a _ r
  exact q
def Mut : Option HO → Prop
 | some (.lst _) => True
 | some (.dK _) => True
 | some (.dT _) => True
 | some (.set _ _) => True
 | some (.ins _ _ _) => True
 | some (.ext _) => True
 | _ => False
section
variable {P : Program} {w : World} {H : Hp} {h h' : Heap} {x e : Addr} {o' : HO}
theorem HOk.write (ok : HOk P w H h) (mu : Mut (H x)) (he : e = x ∨ H e = some (.own x)) (k : ∀ b u, b ≠ e → h.get? b = some u → h'.get? b = some u) (heo : ∃ u, h'.get? e = some u)
  (new : ObjOk P w (upd H x o') h' x o') : HOk P w (upd H x o') h' := fun b u q => by
 have nown : ∀ c y, H c = some (.own y) → c ≠ x := fun c y r z => by subst z; rw [r] at mu; exact mu
 have ntup : ∀ c xs, H c = some (.tup xs) → c ≠ x := fun c xs r z => by subst z; rw [r] at mu; exact mu
 by_cases hb : b = x
 ·subst hb; rw [upd_same] at q; cases q; exact new
 ·rw [upd_ne hb] at q
  by_cases hbe : b = e
  ·have q' : H b = some (.own x) := by
    rcases he with z | z
    ·exact absurd (hbe.trans z) hb
    ·rw [hbe]; exact z
   rw [q] at q'; cases q'
   obtain ⟨v, hv⟩ := heo
   exact ⟨v, by rw [hbe]; exact hv⟩
  ·refine (ok b u q).stay (fun c v hc r => k c v ?_ r) (fun c r => by rw [upd_ne (nown c b r)]; exact r) fun c xs r => by rw [upd_ne (ntup c xs r)]; exact r
   rcases hc with rfl | hc
   ·exact hbe
   ·rintro rfl
    rcases he with z | z
    ·exact nown c b hc z
    ·rw [hc] at z; cases z; exact hb rfl
end
structure Un (fs ex : List Addr) (H H' : Hp) (h h' : Heap) : Prop where
 keep : ∀ b o, h.get? b = some o → H b = none → b ∉ fs → b ∉ ex → h'.get? b = some o
 slot : ∀ b o, h.get? b = some o → H b = none → b ∈ fs → b ∉ ex → ∃ sl, h'.get? b = some { o with slots := sl }
 free : ∀ b o, h.get? b = some o → H b = none → b ∉ ex → H' b = none
 there : ∀ b o, h.get? b = some o → b ∉ ex → ∃ o', h'.get? b = some o'
 tups : ∀ b xs, H b = some (.tup xs) → H' b = some (.tup xs)
 frzs : ∀ b o u, H b = some (.frz o u) → H' b = some (.frz o u)
 tbls : ∀ b ps, H b = some (.tbl ps) → ∃ more, H' b = some (.tbl (ps ++ more))
section
variable {fs fs' ex ex' : List Addr} {H H1 H2 : Hp} {h h1 h2 h' : Heap} {a x e : Addr} {o : HO}
theorem Un.any (u : Un fs ex H H1 h h1) {b : Addr} {ob : Obj} (q : h.get? b = some ob) (n : H b = none) (hx : b ∉ ex) : ∃ sl, h1.get? b = some { ob with slots := sl } := by
 by_cases hb : b ∈ fs
 ·exact u.slot b ob q n hb hx
 ·exact ⟨ob.slots, u.keep b ob q n hb hx⟩
theorem Un.kept (k : ∀ b u, h.get? b = some u → h'.get? b = some u) : Un fs ex H H h h' :=
 ⟨fun b ob q _ _ _ => k b ob q, fun b ob q _ _ _ => ⟨ob.slots, k b ob q⟩, fun _ _ _ n _ => n, fun b ob q _ => ⟨ob, k b ob q⟩, fun _ _ q => q, fun _ _ _ q => q, fun _ ps q => ⟨#[], by rw [q]; simp⟩⟩
theorem Un.refl : Un fs ex H H h h := Un.kept fun _ _ q => q
theorem Un.laid (k : ∀ b u, h.get? b = some u → h'.get? b = some u) (hp : h.objs.size ≤ a) (hn : H a = none) : Un fs ex H (upd H a o) h h' where
 keep := fun b u q _ _ _ => k b u q
 slot := fun b u q _ _ _ => ⟨u.slots, k b u q⟩
 free := fun b u q n _ => by rw [upd_ne (Nat.ne_of_lt (Nat.lt_of_lt_of_le (Heap.lt_size q) hp))]; exact n
 there := fun b u q _ => ⟨u, k b u q⟩
 tups := fun b xs q => by rw [upd_ne (ne_of_none q hn)]; exact q
 frzs := fun b u xs q => by rw [upd_ne (ne_of_none q hn)]; exact q
 tbls := fun b ps q => ⟨#[], by rw [upd_ne (ne_of_none q hn), q]; simp⟩
theorem Un.write (mu : Mut (H x)) (he : e = x ∨ H e = some (.own x)) (k : ∀ b u, b ≠ e → h.get? b = some u → h'.get? b = some u) (heo : ∃ u, h'.get? e = some u) : Un fs ex H (upd H x o) h h' := by
 have hx : ∀ b, H b = none → b ≠ x := fun b n z => by subst z; rw [n] at mu; exact mu
 have hb : ∀ b, H b = none → b ≠ e := fun b n z => by
  subst z
  rcases he with r | r
  ·exact hx b n r
  ·rw [n] at r; cases r
 have hm : ∀ b u, H b = some u → ¬ Mut (some u) → b ≠ x := fun b u q nm z => by subst z; rw [q] at mu; exact nm mu
 refine ⟨fun b u q n _ _ => k b u (hb b n) q, fun b u q n _ _ => ⟨u.slots, k b u (hb b n) q⟩, fun b u q n _ => by rw [upd_ne (hx b n)]; exact n, fun b u q _ => ?_,
  fun b xs q => by rw [upd_ne (hm b _ q fun z => z)]; exact q, fun b u xs q => by rw [upd_ne (hm b _ q fun z => z)]; exact q, fun b ps q => ⟨#[], by rw [upd_ne (hm b _ q fun z => z), q]; simp⟩⟩
 by_cases hbe : b = e
 ·subst hbe; exact heo
 ·exact ⟨u, k b u hbe q⟩
end
def trk (h : Heap) (H : Hp) : List Addr := (List.range h.objs.size).filter fun a => (H a).isSome
def hidT (h : Heap) (H : Hp) : Heap := PySem.W.hideAll h (trk h H)
theorem hidT_size (h : Heap) (H : Hp) : (hidT h H).objs.size = h.objs.size := PySem.W.hideAll_size _ _
theorem hidT_get {h : Heap} {H : Hp} {b : Addr} {o : Obj} (e : h.get? b = some o) (n : H b = none) : (hidT h H).get? b = some o :=
 PySem.W.hideAll_get _ e fun hm => by
  have q : (H b).isSome = true := (List.mem_filter.mp hm).2
  rw [n] at q; simp at q
theorem of_hidT {h : Heap} {H : Hp} {b : Addr} {o : Obj} (e : (hidT h H).get? b = some o) : h.get? b = some o ∧ H b = none := by
 have e' : h.get? b = some o := PySem.W.of_hideAll (trk h H) e
 refine ⟨e', ?_⟩
 cases q : H b with
 | none => rfl
 | some x =>
  have hm : b ∈ trk h H := List.mem_filter.mpr ⟨List.mem_range.mpr (Heap.lt_size e'), by simp [q]⟩
  have z : (hidT h H).get? b = none := PySem.W.hideAll_none (trk h H) hm
  rw [z] at e; cases e
structure Mod (K : PySem.W.Frag) (mg : Str → Option Value) (base : Heap) : Prop where
 kin : K.In base
 glob : base.Ns mainGlobals mg
 blt : ∃ mb, base.Ns builtinsNs mb ∧ ∀ x : Str, x ≠ "__name__" → mb x = bootBuiltins x
 nolimit : base.NoLimit
structure Cx where
 prog : Program
 w : World
 K : PySem.W.Frag
 mg : Str → Option Value
 base : Heap
 A : Around
 N : List Str
 s₀ : Shared
 H₀ : Hp
 env : Env
 outer : List Env
 stack : List Env
 ex : List Addr
 fn : Str → Bool
 calm : Bool
 pn : List (Addr × Obj)
 xe : Value → Shared → Prop
def frs (l : List Env) : List Addr := l.filterMap (·.frame)
abbrev Cx.fs (X : Cx) : List Addr := frs X.outer
def Vis (sc : Scope) (x : Str) : Prop := sc.names.lookup x = some .local ∨ sc.names.lookup x = some .cell ∨ sc.names.lookup x = some .free
def Loc (sc : Scope) (x : Str) : Prop := sc.names.lookup x = some .local ∨ sc.names.lookup x = some .cell
def Look (env : Env) (h : Heap) (m : Str → Option Value) (x : Str) (u : Value) : Prop :=
 (env.kindOf x = some .local ∧ m x = some u) ∨ ((env.kindOf x = some .cell ∨ env.kindOf x = some .free) ∧ ∃ c, env.cells.lookup x = some c ∧ h.IsCell c (some u))
structure Cx.Ok (X : Cx) : Prop where
 mod : Mod X.K X.mg X.base
 kind : X.env.scope.kind = .function
 glob : X.env.globals = mainGlobals
 blt : X.env.builtins = builtinsNs
 above : X.s₀.heap.objs.size ≤ X.env.locals
 inj : ∀ x y c, X.env.cells.lookup x = some c → X.env.cells.lookup y = some c → x = y
 has : ∀ x, (X.env.kindOf x = some .cell ∨ X.env.kindOf x = some .free) → ∃ c, X.env.cells.lookup x = some c
 cab : ∀ x c, X.fn x = true → X.env.cells.lookup x = some c → X.s₀.heap.objs.size ≤ c
 hd : X.calm = true → X.A.handled = none
 frames : X.A.frames = some X.stack
 stk : X.stack = X.outer ∨ (X.stack = X.env :: X.outer ∧ X.env.frame = some X.env.locals)
 exf : ∀ b ∈ X.ex, b ≠ X.env.locals ∧ ∀ x c, X.env.cells.lookup x = some c → c ≠ b
 bs : ∀ b o, X.base.get? b = some o → X.s₀.heap.get? b = some o ∧ X.H₀ b = none
 bsz : X.base.objs.size ≤ X.s₀.heap.objs.size
 noex : ∀ b o, X.base.get? b = some o → b ∉ X.ex
 exfs : ∀ b ∈ X.ex, b ∉ X.fs
 funs : X.s₀.heap.FunFrames X.base X.outer
 frf : ∀ b ∈ X.fs, X.H₀ b = none
structure Inv (X : Cx) (pins : List (Addr × Obj)) (σ : List (Option V)) (H : Hp) (s : Shared) : Prop where
 ok : X.Ok
 os : s.os = X.s₀.os
 bare : AllBare s.gens
 base : Un X.fs X.ex X.H₀ H X.s₀.heap s.heap
 loc : ∃ m, s.heap.Ns X.env.locals m ∧ ∀ (i : Nat) (x : Str) (v : V), X.N[i]? = some x → σ[i]? = some (some v) → Vis X.env.scope x → ∃ u, RelV v u ∧ Look X.env s.heap m x u
 cell : ∀ x c, X.env.cells.lookup x = some c → ∃ v, s.heap.IsCell c v
 free : H X.env.locals = none
 freeC : ∀ x c, X.env.cells.lookup x = some c → H c = none
 pin : ∀ p ∈ X.pn ++ pins, s.heap.get? p.1 = some p.2 ∧ H p.1 = none ∧ p.1 ≠ X.env.locals ∧ p.1 ∉ X.fs ∧ ∀ v, p.2.data ≠ .cell v
 hok : HOk X.prog X.w H s.heap
 len : σ.length = X.N.length
section
variable {X : Cx} {pins : List (Addr × Obj)} {σ : List (Option V)} {H H' : Hp} {s : Shared} {h' : Heap}
theorem Cx.Ok.nofr (ok : X.Ok) {b : Addr} {o : Obj} (e : X.base.get? b = some o) : b ∉ X.fs := fun hb => by
 have := (ok.funs.mem hb).1
 rw [e] at this; cases this
theorem Inv.bs (I : Inv X pins σ H s) : ∀ b o, X.base.get? b = some o → s.heap.get? b = some o ∧ H b = none := fun b o e =>
 ⟨I.base.keep b o (I.ok.bs b o e).1 (I.ok.bs b o e).2 (I.ok.nofr e) (I.ok.noex b o e), I.base.free b o (I.ok.bs b o e).1 (I.ok.bs b o e).2 (I.ok.noex b o e)⟩
theorem Inv.bk (I : Inv X pins σ H s) : ∀ b o, X.base.get? b = some o → s.heap.get? b = some o := fun b o e => (I.bs b o e).1
theorem Inv.mod (I : Inv X pins σ H s) : Mod X.K X.mg X.base := I.ok.mod
theorem Inv.kIn (I : Inv X pins σ H s) : X.K.In s.heap := I.ok.mod.kin.keeps I.bk
theorem Inv.lt (I : Inv X pins σ H s) : X.env.locals < s.heap.objs.size := let ⟨_, hn, _⟩ := I.loc; hn.lt
theorem Inv.sz (I : Inv X pins σ H s) : X.s₀.heap.objs.size ≤ s.heap.objs.size := Nat.le_trans I.ok.above (Nat.le_of_lt I.lt)
theorem Inv.nofs (I : Inv X pins σ H s) {a : Addr} (h : s.heap.objs.size ≤ a) : a ∉ X.fs := fun hb => by
 obtain ⟨_, o, ho, _⟩ := I.ok.funs.mem hb
 exact absurd (Nat.lt_of_lt_of_le (Heap.lt_size ho) (Nat.le_trans I.sz h)) (Nat.lt_irrefl _)
theorem Inv.cne (I : Inv X pins σ H s) : ∀ x c, X.env.cells.lookup x = some c → c ≠ X.env.locals := fun x c e z => by
 obtain ⟨v, o, ho, hd⟩ := I.cell x c e
 obtain ⟨m, ⟨o', es, ep, ho', hd', _⟩, _⟩ := I.loc
 rw [z, ho'] at ho; cases ho; rw [hd'] at hd; cases hd
theorem Inv.funs (I : Inv X pins σ H s) : s.heap.FunFrames X.base X.outer := by
 have all : ∀ (l : List Env), (∀ b ∈ frs l, b ∈ X.fs) → X.s₀.heap.FunFrames X.base l → s.heap.FunFrames X.base l := by
  intro l
  induction l with
  | nil => intro _ _; trivial
  | cons env r ih =>
   intro hs hl
   obtain ⟨hk, ⟨L, o, hf, hn, ho, hd⟩, hr⟩ := hl
   have hL : L ∈ X.fs := hs L (by unfold frs; rw [List.filterMap_cons, hf]; exact List.mem_cons_self)
   obtain ⟨sl, e⟩ := I.base.slot L o ho (I.ok.frf L hL) hL fun z => I.ok.exfs L z hL
   exact ⟨hk, ⟨L, _, hf, hn, e, hd⟩, ih (fun b hb => hs b (by unfold frs; rw [List.filterMap_cons, hf]; exact List.mem_cons_of_mem _ hb)) hr⟩
 exact all X.outer (fun _ hb => hb) I.ok.funs
theorem Inv.stack (I : Inv X pins σ H s) : s.heap.FunFrames X.base X.stack := by
 rcases I.ok.stk with e | ⟨e, hf⟩
 ·rw [e]; exact I.funs
 ·rw [e]
  obtain ⟨m, hn, _⟩ := I.loc
  refine .cons (by rw [I.ok.kind]; decide) hf hn ?_ I.funs
  exact Heap.get?_none_of_le (Nat.le_trans I.ok.bsz I.ok.above)
theorem Inv.stkSub (I : Inv X pins σ H s) : ∀ b ∈ frs X.stack, b ∈ X.env.locals :: X.fs := fun b hb => by
 rcases I.ok.stk with e | ⟨e, hf⟩
 ·rw [e] at hb; exact List.mem_cons_of_mem _ hb
 ·rw [e] at hb
  unfold frs at hb
  rw [List.filterMap_cons, hf] at hb
  exact hb
theorem Inv.stkFree (I : Inv X pins σ H s) : ∀ b ∈ frs X.stack, H b = none := fun b hb => by
 rcases List.mem_cons.mp (I.stkSub b hb) with e | hb
 ·rw [e]; exact I.free
 ·obtain ⟨_, o, ho, _⟩ := I.ok.funs.mem hb
  exact I.base.free b o ho (I.ok.frf b hb) fun z => I.ok.exfs b z hb
theorem Inv.step {g' : Array GenState} {t' : Nat} {d' : Drawn} {ch : List Addr} (I : Inv X pins σ H s)
  (hch : ∀ b ∈ ch, (b ∈ X.ex ∨ X.s₀.heap.objs.size ≤ b) ∧ b ≠ X.env.locals ∧ (∀ x c, X.env.cells.lookup x = some c → c ≠ b) ∧ ∀ p ∈ X.pn ++ pins, p.1 ≠ b)
  (keep : ∀ b o, b ≠ X.env.locals → b ∉ X.fs → b ∉ ch → s.heap.get? b = some o → H b = none → h'.get? b = some o)
  (slot : ∀ b o, b ≠ X.env.locals → b ∈ X.fs → b ∉ ch → s.heap.get? b = some o → H b = none → ∃ sl, h'.get? b = some { o with slots := sl }) (free : ∀ b o, b ∉ ch → s.heap.get? b = some o → H b = none → H' b = none)
  (there : ∀ b o, b ∉ ch → s.heap.get? b = some o → ∃ o', h'.get? b = some o')
  (tups : ∀ b xs, H b = some (.tup xs) → H' b = some (.tup xs)) (frzs : ∀ b o u, H b = some (.frz o u) → H' b = some (.frz o u)) (tbls : ∀ b ps, H b = some (.tbl ps) → ∃ more, H' b = some (.tbl (ps ++ more)))
  (ns : ∀ m, s.heap.Ns X.env.locals m → h'.Ns X.env.locals m) (hok : HOk X.prog X.w H' h') (hg : AllBare g') :
  Inv X pins σ H' { s with heap := h', gens := g', drawn := d', toks := t' } := by
 have neL : ∀ b o, X.s₀.heap.get? b = some o → b ≠ X.env.locals := fun b o e => Nat.ne_of_lt (Nat.lt_of_lt_of_le (Heap.lt_size e) I.ok.above)
 have neC : ∀ b o, X.s₀.heap.get? b = some o → b ∉ X.ex → b ∉ ch := fun b o e hx hb => by
  rcases (hch b hb).1 with z | z
  ·exact hx z
  ·exact absurd (Nat.lt_of_lt_of_le (Heap.lt_size e) z) (Nat.lt_irrefl _)
 have cellK : ∀ x c, X.env.cells.lookup x = some c → ∀ v, s.heap.IsCell c v → h'.IsCell c v := fun x c e v ⟨o, ho, hd⟩ => by
  have nch : c ∉ ch := fun z => (hch c z).2.2.1 x c e rfl
  by_cases hc : c ∈ X.fs
  ·obtain ⟨sl, q⟩ := slot c o (I.cne x c e) hc nch ho (I.freeC x c e)
   exact ⟨_, q, hd⟩
  ·exact ⟨o, keep c o (I.cne x c e) hc nch ho (I.freeC x c e), hd⟩
 refine ⟨I.ok, I.os, hg, ⟨fun b o e n hb hx => ?_, fun b o e n hb hx => ?_, fun b o e n hx => ?_, fun b o e hx => ?_, fun b xs e => tups b xs (I.base.tups b xs e), fun b o xs e => frzs b o xs (I.base.frzs b o xs e), fun b ps e => ?_⟩, ?_, fun x c e => ?_, ?_, fun x c e => ?_, fun p hp => ?_, hok, I.len⟩
 ·exact keep b o (neL b o e) hb (neC b o e hx) (I.base.keep b o e n hb hx) (I.base.free b o e n hx)
 ·obtain ⟨sl, e1⟩ := I.base.slot b o e n hb hx
  obtain ⟨sl', e2⟩ := slot b _ (neL b o e) hb (neC b o e hx) e1 (I.base.free b o e n hx)
  exact ⟨sl', e2⟩
 ·obtain ⟨o', e1⟩ := I.base.there b o e hx
  exact free b o' (neC b o e hx) e1 (I.base.free b o e n hx)
 ·obtain ⟨o', e1⟩ := I.base.there b o e hx
  exact there b o' (neC b o e hx) e1
 ·obtain ⟨m1, e1⟩ := I.base.tbls b ps e
  obtain ⟨m2, e2⟩ := tbls b _ e1
  exact ⟨m1 ++ m2, by rw [e2, Array.append_assoc]⟩
 ·obtain ⟨m, hn, hl⟩ := I.loc
  refine ⟨m, ns m hn, fun i x v e1 e2 e3 => ?_⟩
  obtain ⟨u, r, l⟩ := hl i x v e1 e2 e3
  refine ⟨u, r, ?_⟩
  rcases l with l | ⟨k, c, e, z⟩
  ·exact .inl l
  ·exact .inr ⟨k, c, e, cellK x c e _ z⟩
 ·obtain ⟨v, z⟩ := I.cell x c e
  exact ⟨v, cellK x c e v z⟩
 ·obtain ⟨m, ⟨o, _, _, ho, _⟩, _⟩ := I.loc
  exact free _ o (fun z => (hch _ z).2.1 rfl) ho I.free
 ·obtain ⟨v, o, ho, hd⟩ := I.cell x c e
  exact free c o (fun z => (hch c z).2.2.1 x c e rfl) ho (I.freeC x c e)
 ·obtain ⟨e, n, ne, nf, d⟩ := I.pin p hp
  have nch : p.1 ∉ ch := fun z => (hch p.1 z).2.2.2 p hp rfl
  exact ⟨keep p.1 p.2 ne nf nch e n, free p.1 p.2 nch e n, ne, nf, d⟩
theorem Inv.un {t' : Nat} (I : Inv X pins σ H s) (u : Un X.fs [] H H' s.heap h') (hok : HOk X.prog X.w H' h') : Inv X pins σ H' { s with heap := h', toks := t' } := by
 obtain ⟨m, ⟨o, es, ep, ho, r⟩, _⟩ := id I.loc
 obtain ⟨sl, hL⟩ := u.any ho I.free (by simp)
 exact I.step (g' := s.gens) (d' := s.drawn) (ch := []) (fun _ z => nomatch z) (fun b o _ hb _ e n => u.keep b o e n hb (by simp)) (fun b o _ hb _ e n => u.slot b o e n hb (by simp)) (fun b o _ e n => u.free b o e n (by simp)) (fun b o _ e => u.there b o e (by simp)) u.tups u.frzs u.tbls (fun m' hm => by
  obtain ⟨o', es', ep', ho', r'⟩ := hm
  rw [ho] at ho'; cases ho'
  exact ⟨_, es', ep', hL, r'⟩) hok I.bare
theorem Inv.call {g' : Array GenState} {t' : Nat} {d' : Drawn} {ch : List Addr} (I : Inv X pins σ H s) (u : Un (frs X.stack) ch H H' s.heap h') (hok : HOk X.prog X.w H' h') (hg : AllBare g')
  (hch : ∀ b ∈ ch, (b ∈ X.ex ∨ X.s₀.heap.objs.size ≤ b) ∧ b ≠ X.env.locals ∧ (∀ x c, X.env.cells.lookup x = some c → c ≠ b) ∧ ∀ p ∈ X.pn ++ pins, p.1 ≠ b) :
  Inv X pins σ H' { s with heap := h', gens := g', drawn := d', toks := t' } := by
 obtain ⟨m, ⟨o, es, ep, ho, r⟩, _⟩ := id I.loc
 obtain ⟨sl, hL⟩ := u.any ho I.free fun z => (hch _ z).2.1 rfl
 exact I.step (ch := ch) hch (fun b o hL hb hc e n => u.keep b o e n (fun z => (List.mem_cons.mp (I.stkSub b z)).elim hL hb) hc) (fun b o _ _ hc e n => u.any e n hc) (fun b o hc e n => u.free b o e n hc) (fun b o hc e => u.there b o e hc) u.tups u.frzs u.tbls (fun m' hm => by
  obtain ⟨o', es', ep', ho', r'⟩ := hm
  rw [ho] at ho'; cases ho'
  exact ⟨_, es', ep', hL, r'⟩) hok hg
theorem Inv.turned {t' : Nat} {it : Addr} (I : Inv X pins σ H s) (k : ∀ b o, b ≠ it → s.heap.get? b = some o → h'.get? b = some o) (hn : H it = none) (hL : it ≠ X.env.locals)
  (h1 : it ∈ X.ex ∨ X.s₀.heap.objs.size ≤ it) (h2 : ∀ x c, X.env.cells.lookup x = some c → c ≠ it) (h3 : ∀ p ∈ X.pn ++ pins, p.1 ≠ it) : Inv X pins σ H { s with heap := h', toks := t' } := by
 have nit : ∀ b u, H b = some u → b ≠ it := fun b u e z => by rw [z, hn] at e; cases e
 refine I.step (g' := s.gens) (d' := s.drawn) (ch := [it]) (fun b hb => ?_) (fun b o _ _ hc e _ => k b o (fun z => hc (by simp [z])) e) (fun b o _ _ hc e _ => ⟨o.slots, k b o (fun z => hc (by simp [z])) e⟩) (fun _ _ _ _ n => n)
  (fun b o hc e => ⟨o, k b o (fun z => hc (by simp [z])) e⟩) (fun _ _ e => e) (fun _ _ _ e => e) (fun b ps e => ⟨#[], by rw [e]; simp⟩) (fun m hm => ?_) (fun b u e => ?_) I.bare
 ·have e : b = it := by simpa using hb
  subst e
  exact ⟨h1, hL, h2, h3⟩
 ·obtain ⟨o, es, ep, ho, r⟩ := hm
  exact ⟨o, es, ep, k _ o (Ne.symm hL) ho, r⟩
 ·refine (I.hok b u e).stay (fun c v hc q => k c v ?_ q) (fun _ q => q) fun _ _ q => q
  rcases hc with z | z
  ·rw [z]; exact nit b u e
  ·exact nit c _ z
theorem Inv.tok (I : Inv X pins σ H s) (t : Nat) : Inv X pins σ H { s with toks := t } := I.un (h' := s.heap) (t' := t) Un.refl I.hok
theorem Inv.kept {t' : Nat} (I : Inv X pins σ H s) (k : ∀ b u, s.heap.get? b = some u → h'.get? b = some u) : Inv X pins σ H { s with heap := h', toks := t' } := I.un (Un.kept k) (I.hok.kept k)
theorem Inv.laid {a : Addr} {o : HO} {t' : Nat} (I : Inv X pins σ H s) (k : ∀ b u, s.heap.get? b = some u → h'.get? b = some u) (hp : s.heap.objs.size ≤ a) (new : ObjOk X.prog X.w (upd H a o) h' a o) :
  Inv X pins σ (upd H a o) { s with heap := h', toks := t' } := I.un (Un.laid k hp (I.hok.fresh hp)) (I.hok.laid k hp new)
theorem Inv.write {x e : Addr} {o : HO} {t' : Nat} (I : Inv X pins σ H s) (mu : Mut (H x)) (he : e = x ∨ H e = some (.own x)) (k : ∀ b u, b ≠ e → s.heap.get? b = some u → h'.get? b = some u) (heo : ∃ u, h'.get? e = some u)
  (new : ObjOk X.prog X.w (upd H x o) h' x o) : Inv X pins σ (upd H x o) { s with heap := h', toks := t' } := I.un (Un.write mu he k heo) (I.hok.write mu he k heo new)
theorem Inv.pins_of {pins' : List (Addr × Obj)} (I : Inv X pins σ H s) (h : ∀ p ∈ pins', s.heap.get? p.1 = some p.2 ∧ H p.1 = none ∧ p.1 ≠ X.env.locals ∧ p.1 ∉ X.fs ∧ ∀ v, p.2.data ≠ .cell v) : Inv X pins' σ H s :=
 ⟨I.ok, I.os, I.bare, I.base, I.loc, I.cell, I.free, I.freeC, fun p hp => (List.mem_append.mp hp).elim (fun z => I.pin p (List.mem_append_left _ z)) (h p), I.hok, I.len⟩
theorem nodup_ix {N : List Str} (hN : N.Nodup) {i j : Nat} {x : Str} (a : N[i]? = some x) (b : N[j]? = some x) : i = j := by
 obtain ⟨h1, e1⟩ := List.getElem?_eq_some_iff.mp a
 obtain ⟨h2, e2⟩ := List.getElem?_eq_some_iff.mp b
 exact (List.getElem_inj hN).mp (e1.trans e2.symm)
theorem store_ok2 {M : Model} {A : Around} {E : Value → Shared → Prop} {i : Nat} {x : Str} {v : V} {u : Value} {Q : Unit → Shared → Prop} (I : Inv X pins σ H s) (hN : X.N.Nodup) (hi : X.N[i]? = some x) (hx : Loc X.env.scope x) (r : RelV v u)
  (h : ∀ s', Inv X pins (σ.set i (some v)) H s' → (∃ a, Heap.SameBut a s.heap s'.heap ∧ (a = X.env.locals ∨ X.env.cells.lookup x = some a)) → Q () s') (hf : X.fn x = true ∨ X.env.scope.names.lookup x = some .local := by first | exact .inl rfl | exact .inr rfl | assumption) : wpAny M A (storeName X.env x u) Q E s := by
 obtain ⟨m, hn, hl⟩ := id I.loc
 have hcls : (X.env.scope.kind == .class || (X.env.scope.kind == .module && X.env.locals != X.env.globals)) = false := by rw [I.ok.kind]; rfl
 have hiσ : i < σ.length := by rw [I.len]; exact (List.getElem?_eq_some_iff.mp hi).1
 have cne := I.cne
 have tracked : ∀ {a : Addr} {h' : Heap}, (∃ o, s.heap.get? a = some o ∧ H a = none) → Heap.SameBut a s.heap h' → HOk X.prog X.w H h' := fun {a h'} ha hs b ob e => by
  obtain ⟨_, _, hfree⟩ := ha
  refine (I.hok b ob e).stay (fun c w' hc q => (hs.2 c ?_).trans q) (fun _ q => q) fun _ _ q => q
  rintro rfl
  rcases hc with rfl | hc
  ·rw [hfree] at e; cases e
  ·rw [hfree] at hc; cases hc
 rcases hx with hk | hk
 ·refine wpAny_storeName_local hk hn (fun h' hn' hs => ?_) hcls
  obtain ⟨oL, _, _, hoL, _⟩ := id hn
  refine h _ ⟨I.ok, I.os, I.bare, ⟨fun b o e n hb hx => ?_, fun b o e n hb hx => ?_, I.base.free, fun b o e hx => ?_, I.base.tups, I.base.frzs, I.base.tbls⟩, ⟨_, hn', fun j y v' e1 e2 e3 => ?_⟩, fun y c e => ?_, I.free, I.freeC, fun p hp => ?_, tracked ⟨oL, hoL, I.free⟩ hs, by simpa using I.len⟩ ⟨_, hs, .inl rfl⟩
  ·exact (hs.2 b (Nat.ne_of_lt (Nat.lt_of_lt_of_le (Heap.lt_size e) I.ok.above))).trans (I.base.keep b o e n hb hx)
  ·obtain ⟨sl, e1⟩ := I.base.slot b o e n hb hx
   exact ⟨sl, (hs.2 b (Nat.ne_of_lt (Nat.lt_of_lt_of_le (Heap.lt_size e) I.ok.above))).trans e1⟩
  ·obtain ⟨o', e1⟩ := I.base.there b o e hx
   exact ⟨o', (hs.2 b (Nat.ne_of_lt (Nat.lt_of_lt_of_le (Heap.lt_size e) I.ok.above))).trans e1⟩
  ·by_cases hj : j = i
   ·subst hj
    rw [hi] at e1; cases e1
    rw [List.getElem?_set_self hiσ] at e2
    cases e2
    exact ⟨u, r, .inl ⟨hk, by simp⟩⟩
   ·rw [List.getElem?_set_ne (Ne.symm hj)] at e2
    obtain ⟨u', r', q⟩ := hl j y v' e1 e2 e3
    refine ⟨u', r', ?_⟩
    rcases q with ⟨k, e⟩ | ⟨k, c, e, z⟩
    ·refine .inl ⟨k, ?_⟩
     have : y ≠ x := fun e => hj (nodup_ix hN e1 (e ▸ hi))
     simp [this, e]
    ·exact .inr ⟨k, c, e, z.sameBut hs (cne y c e)⟩
  ·obtain ⟨w', z⟩ := I.cell y c e
   exact ⟨w', z.sameBut hs (cne y c e)⟩
  ·obtain ⟨e, n, ne, nf, d⟩ := I.pin p hp
   exact ⟨(hs.2 p.1 ne).trans e, n, ne, nf, d⟩
 ·have hfn : X.fn x = true := by
   rcases hf with z | z
   ·exact z
   ·rw [z] at hk; cases hk
  obtain ⟨c, hc⟩ := I.ok.has x (.inl hk)
  obtain ⟨w', z⟩ := I.cell x c hc
  refine wpAny_storeName_cell I.ok.kind hk hc z (fun h' hc' hs => ?_)
  obtain ⟨oc, hoc, hocd⟩ := id z
  refine h { s with heap := h' } ⟨I.ok, I.os, I.bare, ⟨fun b o e n hb hx => ?_, fun b o e n hb hx => ?_, I.base.free, fun b o e hx => ?_, I.base.tups, I.base.frzs, I.base.tbls⟩, ⟨m, hn.sameBut hs (Ne.symm (cne x c hc)), fun j y v' e1 e2 e3 => ?_⟩, fun y c' e => ?_, I.free, I.freeC, fun p hp => ?_, tracked ⟨oc, hoc, I.freeC x c hc⟩ hs, by simpa using I.len⟩ ⟨c, hs, .inr hc⟩
  ·exact (hs.2 b (Nat.ne_of_lt (Nat.lt_of_lt_of_le (Heap.lt_size e) (I.ok.cab x c hfn hc)))).trans (I.base.keep b o e n hb hx)
  ·obtain ⟨sl, e1⟩ := I.base.slot b o e n hb hx
   exact ⟨sl, (hs.2 b (Nat.ne_of_lt (Nat.lt_of_lt_of_le (Heap.lt_size e) (I.ok.cab x c hfn hc)))).trans e1⟩
  ·obtain ⟨o', e1⟩ := I.base.there b o e hx
   exact ⟨o', (hs.2 b (Nat.ne_of_lt (Nat.lt_of_lt_of_le (Heap.lt_size e) (I.ok.cab x c hfn hc)))).trans e1⟩
  ·by_cases hj : j = i
   ·subst hj
    rw [hi] at e1; cases e1
    rw [List.getElem?_set_self hiσ] at e2
    cases e2
    exact ⟨u, r, .inr ⟨.inl hk, c, hc, hc'⟩⟩
   ·rw [List.getElem?_set_ne (Ne.symm hj)] at e2
    obtain ⟨u', r', q⟩ := hl j y v' e1 e2 e3
    refine ⟨u', r', ?_⟩
    rcases q with q | ⟨k, c', e, z'⟩
    ·exact .inl q
    ·refine .inr ⟨k, c', e, z'.sameBut hs ?_⟩
     rintro rfl
     exact hj (nodup_ix hN e1 (I.ok.inj _ _ _ e hc ▸ hi))
  ·by_cases hcc : c' = c
   ·subst hcc; exact ⟨_, hc'⟩
   ·obtain ⟨w2, z2⟩ := I.cell y c' e
    exact ⟨w2, z2.sameBut hs hcc⟩
  ·obtain ⟨e, n, ne, nf, d⟩ := I.pin p hp
   refine ⟨(hs.2 p.1 ?_).trans e, n, ne, nf, d⟩
   intro q
   rw [q, hoc] at e
   have q' : oc = p.2 := Option.some.inj e
   exact d w' (by rw [← q']; exact hocd)
theorem store_ok {M : Model} {A : Around} {E : Value → Shared → Prop} {i : Nat} {x : Str} {v : V} {u : Value} {Q : Unit → Shared → Prop} (I : Inv X pins σ H s) (hN : X.N.Nodup) (hi : X.N[i]? = some x) (hx : Loc X.env.scope x) (r : RelV v u)
  (h : ∀ s', Inv X pins (σ.set i (some v)) H s' → Q () s') (hf : X.fn x = true ∨ X.env.scope.names.lookup x = some .local := by first | exact .inl rfl | exact .inr rfl | assumption) : wpAny M A (storeName X.env x u) Q E s :=
 store_ok2 I hN hi hx r (fun s' I' _ => h s' I') hf
theorem Inv.call' {s' : Shared} {ch : List Addr} (I : Inv X pins σ H s) (ho : s'.os = s.os) (u : Un (frs X.stack) ch H H' s.heap s'.heap) (hok : HOk X.prog X.w H' s'.heap) (hg : AllBare s'.gens)
  (hch : ∀ b ∈ ch, (b ∈ X.ex ∨ X.s₀.heap.objs.size ≤ b) ∧ b ≠ X.env.locals ∧ (∀ x c, X.env.cells.lookup x = some c → c ≠ b) ∧ ∀ p ∈ X.pn ++ pins, p.1 ≠ b) : Inv X pins σ H' s' := by
 obtain ⟨h', g', d', t', o'⟩ := s'
 have e : o' = s.os := ho
 subst e
 exact I.call (g' := g') (t' := t') (d' := d') u hok hg hch
end
abbrev XK := Value → Option Addr → Hp → Prop
abbrev St := List (Option V)
abbrev VK := V → Hp → Prop
abbrev TE := St → Hp → VK → Prop
abbrev TT := St → Hp → (Bool → Hp → Prop) → Prop
abbrev TA := St → Hp → (List V → Hp → Prop) → Prop
structure Ends where
 nx : St → Hp → Prop
 rt : VK
 bk : St → Hp → Prop := fun _ _ => False
 ct : St → Hp → Prop := fun _ _ => False
abbrev TS := Ends → St → Hp → Prop
def EP (X : Cx) (pins : List (Addr × Obj)) (σ : St) (Q : VK) (u : Value) (s' : Shared) : Prop := ∃ v H', Inv X pins σ H' s' ∧ RelV v u ∧ Q v H'
def TP (X : Cx) (pins : List (Addr × Obj)) (σ : St) (Q : Bool → Hp → Prop) (b : Bool) (s' : Shared) : Prop := ∃ H', Inv X pins σ H' s' ∧ Q b H'
def AP (X : Cx) (pins : List (Addr × Obj)) (σ : St) (Q : List V → Hp → Prop) (us : List Value) (s' : Shared) : Prop := ∃ vs H', Inv X pins σ H' s' ∧ Vals vs us ∧ Q vs H'
def SP (X : Cx) (pins : List (Addr × Obj)) (D : Ends) (f : Flow) (s' : Shared) : Prop :=
 match f with
 | .next => ∃ σ' H', Inv X pins σ' H' s' ∧ D.nx σ' H'
 | .brk => ∃ σ' H', Inv X pins σ' H' s' ∧ D.bk σ' H'
 | .cont => ∃ σ' H', Inv X pins σ' H' s' ∧ D.ct σ' H'
 | .ret u => ∃ v σ' H', Inv X pins σ' H' s' ∧ RelV v u ∧ D.rt v H'
def PE (X : Cx) (e : Expr) (t : TE) : Prop :=
 ∀ (pins : List (Addr × Obj)) (s : Shared) (σ : St) (H : Hp) (Q : VK), Inv X pins σ H s → t σ H Q → wpAny (model X.prog X.w) X.A (eval e X.env) (EP X pins σ Q) X.xe s
def PT (X : Cx) (e : Expr) (t : TT) : Prop :=
 ∀ (pins : List (Addr × Obj)) (s : Shared) (σ : St) (H : Hp) (Q : Bool → Hp → Prop), Inv X pins σ H s → t σ H Q → wpAny (model X.prog X.w) X.A (isTrue e X.env (eval e X.env)) (TP X pins σ Q) X.xe s
def PW (X : Cx) (e : Expr) (t : TT) : Prop :=
 ∀ (whole : Sem Value) (pins : List (Addr × Obj)) (s : Shared) (σ : St) (H : Hp) (Q : Bool → Hp → Prop), Inv X pins σ H s → t σ H Q → wpAny (model X.prog X.w) X.A (isTrue e X.env whole) (TP X pins σ Q) X.xe s
theorem PW.pt {X : Cx} {e : Expr} {t : TT} (h : PW X e t) : PT X e t := h _
def PA (X : Cx) (es : List Expr) (t : TA) : Prop :=
 ∀ (pos : Pos) (pins : List (Addr × Obj)) (s : Shared) (σ : St) (H : Hp) (Q : List V → Hp → Prop), Inv X pins σ H s → t σ H Q → wpAny (model X.prog X.w) X.A (spliced (backTo pos (starEach es X.env))) (AP X pins σ Q) X.xe s
def PS (X : Cx) (st : Stmt) (t : TS) : Prop :=
 ∀ (pins : List (Addr × Obj)) (s : Shared) (σ : St) (H : Hp) (D : Ends), Inv X pins σ H s → t D σ H → wpAny (model X.prog X.w) X.A (exec st X.env) (SP X pins D) X.xe s
def PSs (X : Cx) (st : List Stmt) (t : TS) : Prop :=
 ∀ (pins : List (Addr × Obj)) (s : Shared) (σ : St) (H : Hp) (D : Ends), Inv X pins σ H s → t D σ H → wpAny (model X.prog X.w) X.A (execs st X.env) (SP X pins D) X.xe s
theorem thn {α : Type} {t : Sem α} {Q Q' : α → Shared → Prop} {M : Model} {A : Around} {E : Value → Shared → Prop} {s : Shared} (h : wpAny M A t Q E s) (hQ : ∀ a s, Q a s → Q' a s) : wpAny M A t Q' E s := wpAny_mono h hQ fun _ _ x => x
section
variable {X : Cx}
def tVar (i : Nat) : TE := fun σ H Q => ∃ v, σ[i]? = some (some v) ∧ Q v H
def tC (v : V) : TE := fun _ H Q => Q v H
theorem pe_var {i : Nat} {x : Str} {pos : Pos} (hN : X.N[i]? = some x) (hv : Vis X.env.scope x) (hd : (x == ("__debug__" : Str)) = false := by decide) (hcd : (x == ("__classdict__" : Str)) = false := by decide) : PE X (.Name x pos) (tVar i) := by
 intro pins s σ H Q I h
 obtain ⟨v, e, h⟩ := h
 obtain ⟨m, hn, hl⟩ := I.loc
 obtain ⟨u, r, l⟩ := hl i x v hN e hv
 have fin : EP X pins σ Q u s := ⟨v, H, I, r, h⟩
 rcases l with ⟨hk, hm⟩ | ⟨hk, c, hc, hcell⟩
 ·exact wpAny_Name (wpAny_loadName_local I.ok.kind hk hn hm fin) hd
 ·rcases hk with hk | hk
  ·exact wpAny_Name (wpAny_loadName_cell I.ok.kind hk hc hcell fin) hd
  ·exact wpAny_Name (wpAny_loadName_free I.ok.kind hk hc hcell fin hcd) hd
theorem pe_int {i j pos} : PE X (.Constant (.int i) j pos) (tC (.int i)) := fun _ _ _ H _ I h => wpAny_Constant_int ⟨.int i, H, I.tok _, ⟨_, rfl⟩, h⟩
theorem pe_bl {b j pos} : PE X (.Constant (.bool b) j pos) (tC (.bl b)) := fun _ _ _ H _ I h => Constant_bool ⟨.bl b, H, I, rfl, h⟩
theorem pe_non {j pos} : PE X (.Constant .none j pos) (tC .non) := fun _ _ _ H _ I h => Constant_none ⟨.non, H, I, rfl, h⟩
theorem pe_str {x j pos} : PE X (.Constant (.str x) j pos) (tC (.str x)) := fun _ _ _ H _ I h => Calls.Constant_str ⟨.str x, H, I.tok _, ⟨_, rfl⟩, h⟩
def Gl (X : Cx) (x : Str) : Prop := X.env.kindOf x = some .globalImplicit
theorem ld_glob {E : Value → Shared → Prop} {pins : List (Addr × Obj)} {s : Shared} {σ : St} {H : Hp} {x : Str} {u : Value} {pos : Pos} {Q : Value → Shared → Prop} (I : Inv X pins σ H s) (hg : Gl X x) (hm : X.mg x = some u) (h : Q u s)
  (hd : (x == ("__debug__" : Str)) = false := by decide) : wpAny (model X.prog X.w) X.A (eval (.Name x pos) X.env) Q E s :=
 Calls.Name_function_global I.ok.kind hg (Calls.loadGlobal_global (by rw [I.ok.glob]; exact I.mod.glob.keeps I.bk) hm h) hd
theorem ld_blt {E : Value → Shared → Prop} {pins : List (Addr × Obj)} {s : Shared} {σ : St} {H : Hp} {x : Str} {u : Value} {pos : Pos} {Q : Value → Shared → Prop} (I : Inv X pins σ H s) (hg : Gl X x) (hm : X.mg x = none) (hv : bootBuiltins x = some u) (h : Q u s)
  (hn : x ≠ "__name__" := by decide) (hd : (x == ("__debug__" : Str)) = false := by decide) : wpAny (model X.prog X.w) X.A (eval (.Name x pos) X.env) Q E s := by
 obtain ⟨mb, h1, h2⟩ := I.mod.blt
 exact Calls.Name_function_global I.ok.kind hg (Calls.loadGlobal_builtin (by rw [I.ok.glob]; exact I.mod.glob.keeps I.bk) hm (by rw [I.ok.blt]; exact h1.keeps I.bk) ((h2 x hn).trans hv) h) hd
theorem pe_bltn {x : Str} {v : V} {u : Value} {pos : Pos} (hg : Gl X x) (hm : X.mg x = none) (hv : bootBuiltins x = some u) (r : RelV v u) (hn : x ≠ "__name__" := by decide) (hd : (x == ("__debug__" : Str)) = false := by decide) : PE X (.Name x pos) (tC v) :=
 fun _ _ _ H _ I h => ld_blt I hg hm hv ⟨v, H, I, r, h⟩ hn hd
variable {a b : Expr} {ta tb : TE} {pos : Pos}
def PC (X : Cx) (op : CmpOp) (a b : Expr) (t : TE) : Prop :=
 ∀ (pins : List (Addr × Obj)) (s : Shared) (σ : St) (H : Hp) (Q : VK), Inv X pins σ H s → t σ H Q →
  wpAny (model X.prog X.w) X.A (eval a X.env) (fun v s₁ => wpAny (model X.prog X.w) X.A (eval b X.env) (fun u s₂ => wpAny (model X.prog X.w) X.A (compareOp op v u) (EP X pins σ Q) X.xe s₂) X.xe s₁) X.xe s
def tB (t : TE) : TT := fun σ H Q => t σ H fun x H1 => ∃ c, x = .bl c ∧ Q c H1
theorem pt_cmp {op : CmpOp} {t : TE} (h : PC X op a b t) (h1 : behindInMarks op b = false := by first | exact nobehind _ (by decide) (by decide) | rfl) : PT X (.Compare a [op] [b] pos) (tB t) := by
 intro pins s σ H Q I hw
 refine wpAny_isTrue_Compare1 (thn (h pins s σ H _ I hw) fun v s1 h1 => thn h1 fun u s2 h2 => thn h2 fun c s3 ⟨x, H1, I1, r1, q1⟩ => ?_) h1
 obtain ⟨d, rfl, q⟩ := q1
 cases r1
 exact wpAny_truthy_bool ⟨H1, I1, q⟩
variable {tA tB' : TT} {rest : List Expr}
def tAnd (t u : TT) : TT := fun σ H Q => t σ H fun c H1 => if c = true then u σ H1 Q else Q false H1
def tOr (t u : TT) : TT := fun σ H Q => t σ H fun c H1 => if c = true then Q true H1 else u σ H1 Q
def tNot (t : TT) : TT := fun σ H Q => t σ H fun c H1 => Q (!c) H1
theorem pw_and1 (ha : PT X a tA) : PW X (.BoolOp .And [a] pos) tA := by
 intro wh pins s σ H Q I h
 refine isTrue_and (thn (ha pins s σ H Q I h) fun c s1 e => ?_)
 cases c with
 | true => exact isTrue_and_nil e
 | false => exact e
theorem pw_or1 (ha : PT X a tA) : PW X (.BoolOp .Or [a] pos) tA := by
 intro wh pins s σ H Q I h
 refine isTrue_or (thn (ha pins s σ H Q I h) fun c s1 e => ?_)
 cases c with
 | false => exact isTrue_or_nil e
 | true => exact e
theorem pw_and (ha : PT X a tA) (hb : PW X (.BoolOp .And (b :: rest) pos) tB') : PW X (.BoolOp .And (a :: b :: rest) pos) (tAnd tA tB') := by
 intro wh pins s σ H Q I h
 refine isTrue_and (thn (ha pins s σ H _ I h) fun c s1 ⟨H1, I1, q1⟩ => ?_)
 cases c with
 | true => exact hb wh pins s1 σ H1 Q I1 q1
 | false => exact ⟨H1, I1, q1⟩
theorem pw_or (ha : PT X a tA) (hb : PW X (.BoolOp .Or (b :: rest) pos) tB') : PW X (.BoolOp .Or (a :: b :: rest) pos) (tOr tA tB') := by
 intro wh pins s σ H Q I h
 refine isTrue_or (thn (ha pins s σ H _ I h) fun c s1 ⟨H1, I1, q1⟩ => ?_)
 cases c with
 | true => exact ⟨H1, I1, q1⟩
 | false => exact hb wh pins s1 σ H1 Q I1 q1
theorem pt_not (ha : PT X a tA) : PT X (.UnaryOp .Not a pos) (tNot tA) := by
 intro pins s σ H Q I h
 exact isTrue_not (ha pins s σ H (fun c H1 => Q (!c) H1) I h)
def tAndV (ta tb : TE) : TE := fun σ H Q => ta σ H fun x H1 => ∃ c, x = .bl c ∧ if c = true then tb σ H1 Q else Q (.bl false) H1
theorem pe_one {op} {t : TE} (h : PE X a t) : PE X (.BoolOp op [a] pos) t := fun pins s σ H Q I hw => BoolOp_one (h pins s σ H Q I hw)
theorem pe_and (ha : PE X a ta) (hb : PE X (.BoolOp .And (b :: rest) pos) tb) : PE X (.BoolOp .And (a :: b :: rest) pos) (tAndV ta tb) := by
 intro pins s σ H Q I h
 refine BoolOp_and (thn (ha pins s σ H _ I h) fun v s1 ⟨x, H1, I1, r1, q1⟩ => ?_)
 obtain ⟨c, rfl, q1⟩ := q1
 cases r1
 refine wpAny_truthy_bool ?_
 cases c with
 | true => exact hb pins s1 σ H1 Q I1 q1
 | false => exact ⟨.bl false, H1, I1, rfl, q1⟩
end
def SqL (K : PySem.W.Frag) (H : Hp) (a : Addr) (xs : List V) : Prop :=
 Rd H a (.lst xs) ∨
  ∃ (o : Obj) (its : Array Value) (n : Nat), K.lookup a = some o ∧ o.cls = .type "list" ∧ o.dict = none ∧ o.data = .seq its n ∧ its.size ≤ sizeLine ∧ Vals xs its.toList
def SqT (K : PySem.W.Frag) (H : Hp) (a : Addr) (xs : List V) : Prop :=
 Rd H a (.tup xs) ∨
  ∃ (o : Obj) (its : Array Value) (n : Nat), K.lookup a = some o ∧ o.cls = .type "tuple" ∧ o.data = .seq its n ∧ its.size ≤ sizeLine ∧ Vals xs its.toList
def absV : Value → Option V
 | .none => some .non
 | .bool b => some (.bl b)
 | .int i _ => some (.int i)
 | .str x _ => some (.str x)
 | .bytes b _ => some (.byt b)
 | .float b _ => some (.flt b)
 | .ref a => some (.ref a)
 | .type n => some (.ty n)
 | _ => none
theorem RelV.abs {x : V} {u : Value} (r : RelV x u) : absV u = some x := by
 cases x with
 | non => cases r; rfl
 | bl _ => cases r; rfl
 | int _ => obtain ⟨t, rfl⟩ := r; rfl
 | str _ => obtain ⟨t, rfl⟩ := r; rfl
 | byt _ => obtain ⟨t, rfl⟩ := r; rfl
 | flt _ => obtain ⟨t, rfl⟩ := r; rfl
 | ref _ => cases r; rfl
 | ty _ => cases r; rfl
theorem RelV.inj {x y : V} {u : Value} (r : RelV x u) (q : RelV y u) : x = y := Option.some.inj (r.abs.symm.trans q.abs)
theorem Vals.inj : ∀ {xs ys : List V} {us : List Value}, Vals xs us → Vals ys us → xs = ys
 | _, _, _, .nil, .nil => rfl
 | _, _, _, .cons r t, .cons r' t' => by rw [r.inj r', Vals.inj t t']
section
variable {X : Cx} {pins : List (Addr × Obj)} {σ : St} {H : Hp} {s : Shared} {a : Addr} {xs ys : List V}
theorem SqL.of {K : PySem.W.Frag} (h : H a = some (.lst xs)) : SqL K H a xs := .inl (.inl h)
theorem SqT.of {K : PySem.W.Frag} (h : H a = some (.tup xs)) : SqT K H a xs := .inl (.inl h)
theorem Inv.list (I : Inv X pins σ H s) (h : SqL X.K H a xs) : ∃ its : List Value, Vals xs its ∧ PlainL s.heap a its.toArray ∧ xs.length ≤ sizeLine := by
 rcases h with h | ⟨o, its, n, hk, hc, hd, hs, hz, r⟩
 ·obtain ⟨z, its, n, r, e⟩ := h.ok I.hok
  exact ⟨its, r, ⟨_, n, e, rfl, rfl, rfl⟩, z⟩
 ·refine ⟨its.toList, r, ⟨o, n, I.kIn a o hk, hc, hd, by simpa using hs⟩, ?_⟩
  have e := r.length
  simp only [Array.length_toList] at e
  omega
theorem Inv.tuple (I : Inv X pins σ H s) (h : SqT X.K H a xs) : ∃ its : List Value, Vals xs its ∧ IsTup s.heap a its.toArray ∧ xs.length ≤ sizeLine := by
 rcases h with h | ⟨o, its, n, hk, hc, hs, hz, r⟩
 ·obtain ⟨z, its, r, p⟩ := h.ok I.hok
  exact ⟨its, r, p, z.1⟩
 ·refine ⟨its.toList, r, ⟨o, I.kIn a o hk, hc, n, by simpa using hs⟩, ?_⟩
  have e := r.length
  simp only [Array.length_toList] at e
  omega
theorem Inv.list_inj (I : Inv X pins σ H s) (h : SqL X.K H a xs) (h' : SqL X.K H a ys) : xs = ys := by
 obtain ⟨its, r, ⟨o, n, e, _, _, d⟩, _⟩ := I.list h
 obtain ⟨its', r', ⟨o', n', e', _, _, d'⟩, _⟩ := I.list h'
 rw [e] at e'; cases e'
 rw [d] at d'
 injection d' with d1 _
 have : its = its' := by simpa using congrArg Array.toList d1
 subst this
 exact r.inj r'
theorem Inv.tuple_inj (I : Inv X pins σ H s) (h : SqT X.K H a xs) (h' : SqT X.K H a ys) : xs = ys := by
 obtain ⟨its, r, ⟨o, e, _, n, d⟩, _⟩ := I.tuple h
 obtain ⟨its', r', ⟨o', e', _, n', d'⟩, _⟩ := I.tuple h'
 rw [e] at e'; cases e'
 rw [d] at d'
 injection d' with d1 _
 have : its = its' := by simpa using congrArg Array.toList d1
 subst this
 exact r.inj r'
end
abbrev Cx.wish (X : Cx) (E : Value → Shared → Prop) : Cx := { X with xe := E }
abbrev Cx.nox (X : Cx) : Cx := X.wish fun _ _ => False
theorem Cx.Ok.wish {X : Cx} (ok : X.Ok) (E : Value → Shared → Prop) : (X.wish E).Ok :=
 ⟨ok.mod, ok.kind, ok.glob, ok.blt, ok.above, ok.inj, ok.has, ok.cab, ok.hd, ok.frames, ok.stk, ok.exf, ok.bs, ok.bsz, ok.noex, ok.exfs, ok.funs, ok.frf⟩
theorem Cx.Ok.unwish {X : Cx} {E : Value → Shared → Prop} (ok : (X.wish E).Ok) : X.Ok :=
 ⟨ok.mod, ok.kind, ok.glob, ok.blt, ok.above, ok.inj, ok.has, ok.cab, ok.hd, ok.frames, ok.stk, ok.exf, ok.bs, ok.bsz, ok.noex, ok.exfs, ok.funs, ok.frf⟩
section
variable {X : Cx} {pins : List (Addr × Obj)} {σ : St} {H : Hp} {s : Shared} {E : Value → Shared → Prop}
theorem Inv.wish (I : Inv X pins σ H s) (E : Value → Shared → Prop) : Inv (X.wish E) pins σ H s := ⟨I.ok.wish E, I.os, I.bare, I.base, I.loc, I.cell, I.free, I.freeC, I.pin, I.hok, I.len⟩
theorem Inv.unwish (I : Inv (X.wish E) pins σ H s) : Inv X pins σ H s := ⟨I.ok.unwish, I.os, I.bare, I.base, I.loc, I.cell, I.free, I.freeC, I.pin, I.hok, I.len⟩
theorem SP.unwish {D : Ends} {f : Flow} {s' : Shared} (h : SP (X.wish E) pins D f s') : SP X pins D f s' := by
 cases f with
 | next => obtain ⟨σ', H', I, q⟩ := h; exact ⟨σ', H', I.unwish, q⟩
 | brk => obtain ⟨σ', H', I, q⟩ := h; exact ⟨σ', H', I.unwish, q⟩
 | cont => obtain ⟨σ', H', I, q⟩ := h; exact ⟨σ', H', I.unwish, q⟩
 | ret u => obtain ⟨v, σ', H', I, r, q⟩ := h; exact ⟨v, σ', H', I.unwish, r, q⟩
theorem PSs.nox {st : List Stmt} {t : TS} (h : PSs X.nox st t) : PSs X st t := fun pins s σ H D I hw =>
 wpAny_mono (h pins s σ H D (I.wish _) hw) (fun _ _ q => q.unwish) fun _ _ z => False.elim z
end
section
variable {X : Cx} {st : Stmt} {rest : List Stmt} {t u : TS} {e : Expr} {te : TE} {pos : Pos}
def tNext : TS := fun D σ H => D.nx σ H
def tSeq (t u : TS) : TS := fun D σ H => t { D with nx := u D } σ H
theorem pss_nil : PSs X [] tNext := fun _ _ σ H _ I h => wpAny_execs_nil ⟨σ, H, I, h⟩
theorem pss_cons (h1 : PS X st t) (h2 : PSs X rest u) : PSs X (st :: rest) (tSeq t u) := by
 intro pins s σ H D I h
 refine wpAny_execs_cons (thn (h1 pins s σ H { D with nx := u D } I h) fun f s1 q => ?_)
 cases f with
 | next =>
  obtain ⟨σ', H', I', q⟩ := q
  exact h2 pins s1 σ' H' D I' q
 | ret v => exact q
 | brk => exact q
 | cont => exact q
theorem pss_one (h1 : PS X st t) : PSs X [st] t := by
 intro pins s σ H D I h
 refine wpAny_execs_cons (thn (h1 pins s σ H D I h) fun f s1 q => ?_)
 cases f with
 | next => exact wpAny_execs_nil q
 | ret v => exact q
 | brk => exact q
 | cont => exact q
theorem Inv.quiet {pins : List (Addr × Obj)} {σ : St} {H : Hp} {s : Shared} (I : Inv X pins σ H s) : interactive X.env = false := by simp [interactive, I.ok.kind]
def tDrop (te : TE) : TS := fun D σ H => te σ H fun _ H1 => D.nx σ H1
theorem ps_expr (he : PE X e te) (hs : swapsWith e none pos.line X.env = pure false := by rfl) : PS X (.Expr e pos) (tDrop te) := by
 intro pins s σ H D I h
 exact wpAny_Expr_any (thn (he pins s σ H _ I h) fun v s1 ⟨x, H1, I1, r1, q1⟩ => ⟨σ, H1, I1, q1⟩) I.quiet hs
def tRet (te : TE) : TS := fun D σ H => te σ H D.rt
theorem ps_ret (he : PE X e te) : PS X (.Return (some e) pos) (tRet te) := by
 intro pins s σ H D I h
 exact wpAny_Return_some (thn (he pins s σ H _ I h) fun v s1 ⟨x, H1, I1, r1, q1⟩ => ⟨x, σ, H1, I1, r1, q1⟩)
def tIfS (c : TT) (t u : TS) : TS := fun D σ H => c σ H fun b H1 => if b = true then t D σ H1 else u D σ H1
theorem ps_if {c : Expr} {a b : List Stmt} {tc : TT} (hc : PT X c tc) (ha : PSs X a t) (hb : PSs X b u) : PS X (.If c a b pos) (tIfS tc t u) := by
 intro pins s σ H D I h
 refine wpAny_If (thn (hc pins s σ H _ I h) fun d s1 ⟨H1, I1, q1⟩ => ?_)
 cases d with
 | true => exact ha pins s1 σ H1 D I1 q1
 | false => exact hb pins s1 σ H1 D I1 q1
end
abbrev TG := V → St → Hp → (St → Hp → Prop) → Prop
abbrev TGs := List V → St → Hp → (St → Hp → Prop) → Prop
def PG (X : Cx) (target : Expr) (t : TG) : Prop :=
 ∀ (pins : List (Addr × Obj)) (s : Shared) (σ : St) (H : Hp) (v : V) (u : Value) (Q : St → Hp → Prop), Inv X pins σ H s → RelV v u → t v σ H Q →
  wpAny (model X.prog X.w) X.A (assign target X.env u) (fun _ s' => ∃ σ' H', Inv X pins σ' H' s' ∧ Q σ' H') X.xe s
def PGs (X : Cx) (ts : List Expr) (t : TGs) : Prop :=
 ∀ (pins : List (Addr × Obj)) (s : Shared) (σ : St) (H : Hp) (vs : List V) (us : List Value) (Q : St → Hp → Prop), Inv X pins σ H s → Vals vs us → t vs σ H Q →
  wpAny (model X.prog X.w) X.A (assignInOrder ((assignEach ts X.env).map (·.2)) us) (fun _ s' => ∃ σ' H', Inv X pins σ' H' s' ∧ Q σ' H') X.xe s
abbrev TSet := V → V → V → Hp → (Hp → Prop) → Prop
def PSet (X : Cx) (t : TSet) : Prop :=
 ∀ (pins : List (Addr × Obj)) (s : Shared) (σ : St) (H : Hp) (o i v : V) (ov iv u : Value) (Q : Hp → Prop), Inv X pins σ H s → RelV o ov → RelV i iv → RelV v u → t o i v H Q →
  wpAny (model X.prog X.w) X.A (setItem ov iv u) (fun _ s' => ∃ H', Inv X pins σ H' s' ∧ Q H') X.xe s
section
variable {X : Cx} {pos : Pos}
def gName (i : Nat) : TG := fun v σ H Q => Q (σ.set i (some v)) H
theorem pg_name {i : Nat} {x : Str} (hN : X.N.Nodup) (hi : X.N[i]? = some x) (hx : Loc X.env.scope x) (hf : X.fn x = true ∨ X.env.scope.names.lookup x = some .local := by first | exact .inl rfl | exact .inr rfl | assumption) : PG X (.Name x pos) (gName i) := by
 intro pins s σ H v u Q I r h
 exact wpAny_assign_Name (store_ok I hN hi hx r (fun s' I' => ⟨_, H, I', h⟩) hf)
def gNil : TGs := fun vs σ H Q => vs = [] ∧ Q σ H
def gCons (t : TG) (u : TGs) : TGs := fun vs σ H Q => ∃ v r, vs = v :: r ∧ t v σ H fun σ' H' => u r σ' H' Q
theorem pgs_nil : PGs X [] gNil := by
 intro pins s σ H vs us Q I r h
 obtain ⟨e, h⟩ := h
 subst e
 cases r
 exact assignInOrder_nil ⟨σ, H, I, h⟩
theorem pgs_cons {e : Expr} {es : List Expr} {t : TG} {u : TGs} (h1 : PG X e t) (h2 : PGs X es u)
  (hs : (assignEach (e :: es) X.env).map (·.2) = assign e X.env :: (assignEach es X.env).map (·.2) := by rfl) : PGs X (e :: es) (gCons t u) := by
 intro pins s σ H vs us Q I r h
 obtain ⟨v, vr, e1, h⟩ := h
 subst e1
 cases r with
 | cons r rr =>
  rw [hs]
  refine assignInOrder_cons (thn (h1 pins s σ H _ _ _ I r h) fun _ s1 ⟨σ1, H1, I1, q1⟩ => ?_)
  exact h2 pins s1 σ1 H1 _ _ Q I1 rr q1
def gTup (K : PySem.W.Frag) (n : Nat) (t : TGs) : TG := fun v σ H Q => ∃ a xs, v = .ref a ∧ SqT K H a xs ∧ xs.length = n ∧ t xs σ H Q
theorem pg_tup {es : List Expr} {k : Nat} {t : TGs} {n : Nat} (hc : X.calm = true) (h : PGs X es t)
  (hn : (assignEach es X.env).length = n := by rfl) (hst : (assignEach es X.env).findIdx? (·.1) = none := by rfl) : PG X (.Tuple es k pos) (gTup X.K n t) := by
 intro pins s σ H v u Q I r hw
 obtain ⟨a, xs, e1, hq, hl, hw⟩ := hw
 subst e1
 cases r
 obtain ⟨its, rv, ht, hz⟩ := I.tuple hq
 refine assign_Tuple_tuple (I.ok.hd hc) ht (by simp [hn, ← hl, rv.length]) hst fun h' hx => ?_
 have I1 : Inv X pins σ H { s with heap := h' } := I.kept (t' := s.toks) fun b o e => hx b o (Nat.ne_of_lt (Heap.lt_size e)) e
 exact h pins _ σ H xs _ Q I1 (by simpa using rv) hw
def gSub (to ti : TE) (t : TSet) : TG := fun v σ H Q => to σ H fun o H1 => ti σ H1 fun i H2 => t o i v H2 fun H3 => Q σ H3
theorem pg_sub {o i : Expr} {to ti : TE} {t : TSet} (ho : PE X o to) (hi : PE X i ti) (hs : PSet X t)
  (ha : ∀ v, assign (.Subscript o i pos) X.env v = (do
   let ov ← holding [v] (eval o X.env)
   let iv ← holding [v, ov] (eval i X.env)
   standAt pos
   holding [v, ov, iv] (setItem ov iv v)
   release [v, ov, iv] []) := by intro _; rfl) : PG X (.Subscript o i pos) (gSub to ti t) := by
 intro pins s σ H v u Q I r h
 rw [ha]
 refine wpAny_bind (wpAny_holding (thn (ho pins s σ H _ I h) fun ov s1 ⟨x, H1, I1, r1, q1⟩ => ?_))
 refine wpAny_bind (wpAny_holding (thn (hi pins s1 σ H1 _ I1 q1) fun iv s2 ⟨y, H2, I2, r2, q2⟩ => ?_))
 refine wpAny_bind (wpAny_standAt (wpAny_bind (wpAny_holding (thn (hs pins s2 σ H2 x y v ov iv u _ I2 r1 r2 r q2) fun _ s3 ⟨H3, I3, q3⟩ => ?_))))
 exact wpAny_release ⟨σ, H3, I3, q3⟩
def tAsg (te : TE) (g : TG) : TS := fun D σ H => te σ H fun x H1 => g x σ H1 D.nx
theorem ps_asg {tg e : Expr} {te : TE} {g : TG} (he : PE X e te) (hg : PG X tg g) (hs : swapsWithSole [tg] e pos.line X.env = pure false := by rfl) (hw : swappedStores [tg] e X.env = pure none := by rfl)
  (h1 : (assignEach [tg] X.env).map (·.2) = [assign tg X.env] := by rfl) : PS X (.Assign [tg] e pos) (tAsg te g) := by
 intro pins s σ H D I h
 refine wpAny_Assign_stores (thn (he pins s σ H _ I h) fun v s1 ⟨x, H1, I1, r1, q1⟩ => ?_) hs hw
 rw [h1]
 exact thn (hg pins s1 σ H1 x v _ I1 r1 q1) fun _ s2 q => q
theorem ps_set {i : Nat} {x : Str} {e : Expr} {te : TE} {pos' : Pos} (hN : X.N.Nodup) (hi : X.N[i]? = some x) (hx : Loc X.env.scope x) (he : PE X e te) (hs : swapsWith e (some (.Name x pos')) pos.line X.env = pure false := by rfl) (hf : X.fn x = true ∨ X.env.scope.names.lookup x = some .local := by first | exact .inl rfl | exact .inr rfl | assumption) :
  PS X (.Assign [.Name x pos'] e pos) (tAsg te (gName i)) := by
 intro pins s σ H D I h
 refine wpAny_Assign_Name (thn (he pins s σ H _ I h) fun v s1 ⟨y, H1, I1, r1, q1⟩ => ?_) hs
 exact store_ok I1 hN hi hx r1 (fun s2 I2 => ⟨_, H1, I2, q1⟩) hf
def tWhile (c : TT) (tb : TS) : TS := fun D σ H => ∃ W : Nat → St → Hp → Prop, (∃ m, W m σ H) ∧ ∀ m σ H, W m σ H →
 c σ H fun b H1 => if b = true then ∃ N : St → Hp → Prop, (∀ σ' H', N σ' H' → ∃ m', m' < m ∧ W m' σ' H') ∧ tb { D with nx := N, ct := N, bk := D.nx } σ H1 else D.nx σ H1
theorem ps_while {c : Expr} {body : List Stmt} {tc : TT} {tb : TS} (hp : PassesOwn (model X.prog X.w) X.A X.env X.xe) (hc : PT X c tc) (hb : PSs X body tb) : PS X (.While c body [] pos) (tWhile tc tb) := by
 intro pins s σ H D I h
 obtain ⟨W, ⟨m0, w0⟩, turn⟩ := h
 refine wpAny_While (codeAny_whileLoop (fun n s' => ∃ σ' H', Inv X pins σ' H' s' ∧ W n σ' H') ?_ m0 ⟨σ, H, I, w0⟩)
 rintro n s1 ⟨σ1, H1, I1, w1⟩
 refine wpAny_passesOwn hp (thn (hc pins s1 σ1 H1 _ I1 (turn n σ1 H1 w1)) fun b s2 ⟨H2, I2, q2⟩ => ?_)
 cases b with
 | true =>
  obtain ⟨N, hN, q2⟩ := q2
  rw [if_pos rfl]
  refine wpAny_passesOwn hp (thn (hb pins s2 σ1 H2 _ I2 q2) fun f s3 q3 => ?_)
  cases f with
  | next =>
   obtain ⟨σ3, H3, I3, n3⟩ := q3
   obtain ⟨m', hm, w3⟩ := hN σ3 H3 n3
   exact ⟨m', hm, σ3, H3, I3, w3⟩
  | cont =>
   obtain ⟨σ3, H3, I3, n3⟩ := q3
   obtain ⟨m', hm, w3⟩ := hN σ3 H3 n3
   exact ⟨m', hm, σ3, H3, I3, w3⟩
  | brk => exact q3
  | ret v => exact q3
 | false =>
  rw [if_neg Bool.false_ne_true]
  exact wpAny_execs_nil ⟨σ1, H2, I2, q2⟩
end
structure It where
 go : Nat → Hp → Prop
 yld : Nat → Hp → V → Hp → Prop
 stop : Nat → Hp → Prop
def FpOk (X : Cx) (pins : List (Addr × Obj)) (H : Hp) (b : Addr) : Prop :=
 H b = none ∧ b ≠ X.env.locals ∧ b ∉ X.fs ∧ (b ∈ X.ex ∨ X.s₀.heap.objs.size ≤ b) ∧ (∀ x c, X.env.cells.lookup x = some c → c ≠ b) ∧ ∀ p ∈ X.pn ++ pins, p.1 ≠ b
theorem Inv.fpOk {X : Cx} {pins : List (Addr × Obj)} {σ : St} {H H' : Hp} {s : Shared} {b : Addr} (I : Inv X pins σ H s) (hb : s.heap.objs.size ≤ b) (hn : H' b = none) : FpOk X pins H' b := by
 refine ⟨hn, Nat.ne_of_gt (Nat.lt_of_lt_of_le I.lt hb), I.nofs hb, .inr (Nat.le_trans I.sz hb), fun x c e z => ?_, fun p hp z => ?_⟩
 ·obtain ⟨v, q⟩ := I.cell x c e
  exact absurd (Nat.lt_of_lt_of_le q.lt (by rw [z]; exact hb)) (Nat.lt_irrefl _)
 ·exact absurd (Nat.lt_of_lt_of_le (Heap.lt_size (I.pin p hp).1) (by rw [z]; exact hb)) (Nat.lt_irrefl _)
structure Turn (P : Program) (w : World) (K : PySem.W.Frag) (tg : Expr) (J : It) (fp : List Addr) (it : Addr) (tn : Nat → Heap → Prop) : Prop where
 mem : it ∈ fp
 obj : ∀ i h, tn i h → ∀ b ∈ fp, ∃ o, h.get? b = some o ∧ ∀ v, o.data ≠ .cell v
 keep : ∀ i h h', tn i h → (∀ b ∈ fp, ∀ o, h.get? b = some o → h'.get? b = some o) → tn i h'
 item : ∀ (X : Cx), X.prog = P → X.w = w → X.K = K → X.calm = true → ∀ (i : Nat) (pins : List (Addr × Obj)) (s : Shared) (σ : St) (H : Hp) (E : Value → Shared → Prop), Inv X pins σ H s → (∀ b ∈ fp, FpOk X pins H b) → tn i s.heap → J.go i H →
  wpAny (model P w) X.A (pyNext (.ref it)) (fun r s1 => ∃ u, r = some u ∧
   wpAny (model P w) X.A (letOwnedTupleGo tg (.ref it) u) (fun _ s2 => ∃ x H', Inv X pins σ H' s2 ∧ RelV x u ∧ J.yld i H x H' ∧ tn (i + 1) s2.heap ∧ ∀ b ∈ fp, H' b = none) E s1) E s
 done : ∀ (X : Cx), X.prog = P → X.w = w → X.K = K → X.calm = true → ∀ (i : Nat) (pins : List (Addr × Obj)) (s : Shared) (σ : St) (H : Hp) (E : Value → Shared → Prop), Inv X pins σ H s → (∀ b ∈ fp, FpOk X pins H b) → tn i s.heap → J.stop i H →
  wpAny (model P w) X.A (pyNext (.ref it)) (fun r s1 => r = none ∧ Inv X pins σ H s1) E s
 self : ∀ (A : Around) (i : Nat) (s : Shared) (Q : Value → Shared → Prop) (E : Value → Shared → Prop), tn i s.heap → Q (.ref it) s → wpAny (model P w) A (pyIter (.ref it)) Q E s
abbrev TI := St → Hp → (It → Hp → Prop) → Prop
def PIE (X : Cx) (pins : List (Addr × Obj)) (σ : St) (tg : Expr) (R : It → Hp → Prop) (itv : Value) (s2 : Shared) : Prop :=
 ∃ (it : Addr) (fp : List Addr) (tn : Nat → Heap → Prop) (J : It) (H' : Hp), itv = .ref it ∧ Inv X pins σ H' s2 ∧ Turn X.prog X.w X.K tg J fp it tn ∧ tn 0 s2.heap ∧ (∀ b ∈ fp, FpOk X pins H' b) ∧ R J H'
def PI (X : Cx) (tg iter : Expr) (wi : TI) : Prop :=
 ∀ (pins : List (Addr × Obj)) (s : Shared) (σ : St) (H : Hp) (R : It → Hp → Prop), Inv X pins σ H s → wi σ H R →
  wpAny (model X.prog X.w) X.A (eval iter X.env) (fun v s1 => wpAny (model X.prog X.w) X.A (pyIter v) (PIE X pins σ tg R) X.xe s1) X.xe s
theorem go_of {M : Model} {A : Around} {E : Value → Shared → Prop} {s : Shared} {tg : Expr} {it : Addr} {u : Value} {o : Obj} {n : String} {vs : Array Value} {Q : Unit → Shared → Prop} (ho : s.heap.get? it = some o) (hc : o.cls = .type n) (hd : o.data = .fields vs)
  (hn : ["enumerate", "zip", "dict_itemiterator", "dict_reverseitemiterator", "odict_iterator", "itertools.zip_longest", "itertools.pairwise"].contains n = false) (hQ : Q () s) : wpAny M A (letOwnedTupleGo tg (.ref it) u) Q E s := by
 unfold letOwnedTupleGo
 cases tg <;> first
  | exact wpAny_pure hQ
  | (cases u <;> first
    | exact wpAny_pure hQ
    | (refine wpAny_bind (wpAny_load ho ?_)
       rw [hc, hd]
       show wpAny M A (if (["enumerate", "zip", "dict_itemiterator", "dict_reverseitemiterator", "odict_iterator", "itertools.zip_longest", "itertools.pairwise"].contains n && vs[0]? == some (rawInt _)) = true then _ else _) Q E s
       rw [if_neg (by intro h; rw [hn, Bool.false_and] at h; cases h)]
       exact wpAny_pure hQ))
def Itl (K : PySem.W.Frag) (a : Addr) : It :=
 ⟨fun i H => ∃ xs x, SqL K H a xs ∧ xs[i]? = some x, fun i H x H' => H' = H ∧ ∀ xs, SqL K H a xs → xs[i]? = some x, fun i H => ∃ xs, SqL K H a xs ∧ xs.length ≤ i⟩
def Itr (lo : Int) (n : Nat) : It := ⟨fun i _ => i < n, fun i H x H' => H' = H ∧ x = .int (lo + i), fun i _ => n ≤ i⟩
theorem turn_list {P : Program} {w : World} {K : PySem.W.Frag} {tg : Expr} (a it : Addr) : Turn P w K tg (Itl K a) [it] it (fun i h => h.IsListIter it a i) where
 mem := by simp
 obj := fun i h st b hb => by
  have e : b = it := by simpa using hb
  subst e
  obtain ⟨o, e, c, d⟩ := st
  exact ⟨o, e, fun v z => by rw [d] at z; cases z⟩
 keep := fun i h h' st k => st.at fun o e => k it (by simp) o e
 item := by
  intro X hP hw hK hc i pins s σ H E I hf st hg
  subst hP hw hK
  obtain ⟨xs, x, hq, hx⟩ := hg
  obtain ⟨its, rv, p, hz⟩ := I.list hq
  obtain ⟨u, hu, ru⟩ := rv.get hx
  obtain ⟨f0, f1, f2, f3, f4, f5⟩ := hf it (by simp)
  refine wpAny_pyNext_list_item st p.isList (x := u) (by simpa using hu) fun h' st' sb => ?_
  have I1 : Inv X pins σ H { s with heap := h' } := I.turned (t' := s.toks) (fun b o hb e => (sb.2 b hb).trans e) f0 f1 f3 f4 f5
  obtain ⟨o, e, c, d⟩ := id st'
  exact ⟨u, rfl, go_of (s := { s with heap := h' }) e c d (by decide) ⟨x, H, I1, ru, ⟨rfl, fun ys hy => by rw [I.list_inj hy hq]; exact hx⟩, st', fun b hb => (hf b hb).1⟩⟩
 done := by
  intro X hP hw hK hc i pins s σ H E I hf st hg
  subst hP hw hK
  obtain ⟨xs, hq, hx⟩ := hg
  obtain ⟨its, rv, p, hz⟩ := I.list hq
  obtain ⟨f0, f1, f2, f3, f4, f5⟩ := hf it (by simp)
  have hl := rv.length
  exact wpAny_pyNext_list_end (I.ok.hd hc) st p.isList (by simp; omega) fun h' eb => ⟨rfl, I.turned (t' := s.toks) (fun b o hb e => eb b o hb e) f0 f1 f3 f4 f5⟩
 self := fun _ _ _ _ _ st h => wpAny_pyIter_listiter st h
theorem turn_range {P : Program} {w : World} {K : PySem.W.Frag} {tg : Expr} (it : Addr) (lo : Int) (n : Nat) : Turn P w K tg (Itr lo n) [it] it (fun i h => IsRangeIter h it (lo + (i : Nat) * 1) ((n : Int) - (i : Nat)) 1) where
 mem := by simp
 obj := fun i h st b hb => by
  have e : b = it := by simpa using hb
  subst e
  exact ⟨_, st, fun v z => by
   have z' : Data.fields _ = Data.cell v := z
   cases z'⟩
 keep := fun i h h' st k => k it (by simp) _ st
 item := by
  intro X hP hw hK hc i pins s σ H E I hf st hg
  subst hP hw hK
  obtain ⟨f0, f1, f2, f3, f4, f5⟩ := hf it (by simp)
  have W := Walks.range (prog := X.prog) (w := X.w) (I.ok.hd hc) it lo 1 n
  refine W.item i s _ _ hg st fun v h' tk hv st' kk => ?_
  obtain ⟨t, rfl⟩ := hv
  have I1 : Inv X pins σ H { s with heap := h', toks := tk } := I.turned (fun b o hb e => kk b o (by simpa using hb) e) f0 f1 f3 f4 f5
  refine ⟨_, rfl, go_of (s := { s with heap := h', toks := tk }) (n := "range_iterator") st' rfl rfl (by decide) ⟨.int (lo + i), H, I1, ⟨t, ?_⟩, ⟨rfl, rfl⟩, st', fun b hb => (hf b hb).1⟩⟩
  rw [Int.mul_one]
 done := by
  intro X hP hw hK hc i pins s σ H E I hf st hg
  subst hP hw hK
  obtain ⟨f0, f1, f2, f3, f4, f5⟩ := hf it (by simp)
  exact wpAny_pyNext_range_end (I.ok.hd hc) st (by have : n ≤ i := hg; omega) fun h' eb => ⟨rfl, I.turned (t' := s.toks) (fun b o hb e => eb b o hb e) f0 f1 f3 f4 f5⟩
 self := fun _ _ _ _ _ st h => wpAny_pyIter_rangeiter st h
section
variable {X : Cx} {tg : Expr}
def iList (K : PySem.W.Frag) (tl : TE) : TI := fun σ H R => tl σ H fun x H1 => ∃ a, x = .ref a ∧ (∃ xs, SqL K H1 a xs) ∧ R (Itl K a) H1
theorem pi_list {l : Expr} {tl : TE} (hl : PE X l tl) : PI X tg l (iList X.K tl) := by
 intro pins s σ H R I h
 refine thn (hl pins s σ H _ I h) fun v s1 ⟨x, H1, I1, r1, q1⟩ => ?_
 obtain ⟨a, e, ⟨xs, hq⟩, q⟩ := q1
 subst e
 cases r1
 obtain ⟨its, rv, p, hz⟩ := I1.list hq
 refine wpAny_pyIter_list p.isList ?_
 refine ⟨s1.heap.objs.size, [s1.heap.objs.size], _, _, H1, rfl, I1.kept (t' := s1.toks) fun b o e => Heap.get?_push_of_some _ e, turn_list a _, ⟨_, Heap.get?_push_size _ rfl, rfl, rfl⟩, fun b hb => ?_, q⟩
 have e : b = s1.heap.objs.size := by simpa using hb
 subst e
 exact I1.fpOk (Nat.le_refl _) (I1.hok.fresh (Nat.le_refl _))
theorem range_it {pins : List (Addr × Obj)} {σ : St} {H : Hp} {s : Shared} {R : It → Hp → Prop} {E : Value → Shared → Prop} {lo hi : Int} {t u v : Tok} {tk : Nat} (I : Inv X pins σ H s) (h1 : -(2 ^ 62) ≤ lo) (h2 : lo < 2 ^ 62) (h3 : -(2 ^ 62) ≤ hi) (h4 : hi < 2 ^ 62)
  (q : R (Itr lo (hi - lo).toNat) H) : wpAny (model X.prog X.w) X.A (pyIter (.ref s.heap.objs.size)) (PIE X pins σ tg R) E { s with heap := s.heap.push { cls := .type "range", data := .fields #[.int lo t, .int hi u, .int 1 v] }, toks := tk } := by
 refine wpAny_pyIter_range (IsRange.new ..) (small_one h1 h2 h3 h4) ?_
 have I1 : Inv X pins σ H { s with heap := s.heap.push { cls := .type "range", data := .fields #[.int lo t, .int hi u, .int 1 v] }, toks := tk } := I.kept fun b o e => Heap.get?_push_of_some _ e
 refine ⟨(s.heap.push { cls := .type "range", data := .fields #[.int lo t, .int hi u, .int 1 v] }).objs.size, [(s.heap.push { cls := .type "range", data := .fields #[.int lo t, .int hi u, .int 1 v] }).objs.size], _, _, H, rfl,
  I1.kept (t' := tk) fun b o e => Heap.get?_push_of_some _ e, turn_range _ lo (hi - lo).toNat, ?_, fun b hb => ?_, q⟩
 ·have e1 : lo + ((0 : Nat) : Int) * 1 = lo := by simp
  have e2 : (((hi - lo).toNat : Nat) : Int) - ((0 : Nat) : Int) = Builtin.Range.rangeSize lo hi 1 := by rw [rangeSize_one]; split <;> omega
  show IsRangeIter _ _ (lo + ((0 : Nat) : Int) * 1) ((((hi - lo).toNat : Nat) : Int) - ((0 : Nat) : Int)) 1
  rw [e1, e2]
  exact Heap.get?_push_size _ rfl
 ·have e : b = (s.heap.push { cls := .type "range", data := .fields #[.int lo t, .int hi u, .int 1 v] }).objs.size := by simpa using hb
  subst e
  exact I1.fpOk (Nat.le_refl _) (I1.hok.fresh (Nat.le_refl _))
def iRng1 (ta : TA) : TI := fun σ H R => ta σ H fun vs H1 => ∃ j : Int, vs = [.int j] ∧ -(2 ^ 62) ≤ j ∧ j < 2 ^ 62 ∧ R (Itr 0 j.toNat) H1
theorem pi_range1 {a : Expr} {ta : TA} {p pos : Pos} (hg : Gl X "range") (hm : X.mg "range" = none) (ha : PA X [a] ta) (hs : starEach [a] X.env = [(false, eval a X.env)] := by rfl) : PI X tg (.Call (.Name "range" p) [a] [] pos) (iRng1 ta) := by
 intro pins s σ H R I h
 refine Call_ (ld_blt I hg hm boot_range (PyProof.Rows.callWith_type1 (thn (ha pos pins s σ H _ I h) fun us s1 ⟨vs, H1, I1, r1, q1⟩ => ?_) hs rfl))
 obtain ⟨j, e, q1, q2, q⟩ := q1
 subst e
 cases r1 with
 | cons r rr =>
  cases rr
  obtain ⟨t, rfl⟩ := r
  exact call_range_1 (range_it I1 (by omega) (by omega) q1 q2 (by simpa using q))
def tFor (wi : TI) (g : TG) (tb : TS) : TS := fun D σ H => wi σ H fun J H1 => ∃ W : Nat → Nat → St → Hp → Prop, (∃ m, W 0 m σ H1) ∧ ∀ i m σ H, W i m σ H →
 (J.stop i H ∧ D.nx σ H) ∨ (J.go i H ∧ ∃ N : St → Hp → Prop, (∀ σ' H', N σ' H' → ∃ m', m' < m ∧ W (i + 1) m' σ' H') ∧ ∀ x H', J.yld i H x H' → g x σ H' fun σ2 H2 => tb { D with nx := N, ct := N, bk := D.nx } σ2 H2)
def pinsAt (fp : List Addr) (h : Heap) : List (Addr × Obj) := fp.filterMap fun b => (h.get? b).map fun o => (b, o)
theorem mem_pinsAt {fp : List Addr} {h : Heap} {b : Addr} {o : Obj} (hb : b ∈ fp) (e : h.get? b = some o) : (b, o) ∈ pinsAt fp h := List.mem_filterMap.mpr ⟨b, hb, by rw [e]; rfl⟩
theorem of_pinsAt {fp : List Addr} {h : Heap} {p : Addr × Obj} (hp : p ∈ pinsAt fp h) : p.1 ∈ fp ∧ h.get? p.1 = some p.2 := by
 obtain ⟨b, hb, e⟩ := List.mem_filterMap.mp hp
 cases q : h.get? b with
 | none => rw [q] at e; cases e
 | some o =>
  rw [q] at e
  have e' : (b, o) = p := Option.some.inj e
  subst e'
  exact ⟨hb, q⟩
theorem Inv.pinned {pins : List (Addr × Obj)} {σ : St} {H : Hp} {s : Shared} {fp : List Addr} (I : Inv X pins σ H s) (hf : ∀ b ∈ fp, FpOk X pins H b) (ho : ∀ b ∈ fp, ∃ o, s.heap.get? b = some o ∧ ∀ v, o.data ≠ .cell v) : Inv X (pins ++ pinsAt fp s.heap) σ H s :=
 I.pins_of fun p hp => (List.mem_append.mp hp).elim (fun z => I.pin p (List.mem_append_right _ z)) fun z => by
  obtain ⟨hb, e⟩ := of_pinsAt z
  obtain ⟨f0, f1, f2, _⟩ := hf p.1 hb
  obtain ⟨o, e', d⟩ := ho p.1 hb
  rw [e] at e'; cases e'
  exact ⟨e, f0, f1, f2, d⟩
theorem Inv.unpinned {pins pl : List (Addr × Obj)} {σ : St} {H : Hp} {s : Shared} (I : Inv X (pins ++ pl) σ H s) : Inv X pins σ H s := I.pins_of fun p hp => I.pin p (List.mem_append_right _ (List.mem_append_left _ hp))
theorem ps_for {iter : Expr} {body : List Stmt} {wi : TI} {g : TG} {tb : TS} {pos : Pos} (hp : PassesOwn (model X.prog X.w) X.A X.env X.xe) (hc : X.calm = true) (hi : PI X tg iter wi) (hg : PG X tg g) (hb : PSs X body tb)
  (hs : ∀ x, foldedSetIterable iter X.env x = pure x := by intro _; rfl) : PS X (.For tg iter body [] pos) (tFor wi g tb) := by
 intro pins s σ H D I h
 refine wpAny_For (thn (hi pins s σ H _ I h) fun v s1 h1 => thn h1 fun itv s2 h2 => ?_) hs
 obtain ⟨it, fp, tn, J, H2, e, I2, T, st2, f2, W, ⟨m0, w0⟩, turn⟩ := h2
 subst e
 have stat : ∀ {H' : Hp}, (∀ b ∈ fp, H' b = none) → ∀ b ∈ fp, FpOk X pins H' b := fun hn b hb => ⟨hn b hb, (f2 b hb).2⟩
 refine codeAny_forLoop_any (fun n s' => ∃ i σ' H', Inv X pins σ' H' s' ∧ tn i s'.heap ∧ (∀ b ∈ fp, H' b = none) ∧ W i n σ' H') ?_ m0 ⟨0, σ, H2, I2, st2, fun b hb => (f2 b hb).1, w0⟩
 rintro n s3 ⟨i, σ3, H3, I3, st3, fr3, w3⟩
 rcases turn i n σ3 H3 w3 with ⟨stop, qn⟩ | ⟨go, N, hN, step⟩
 ·refine wpAny_passesOwn hp (thn (T.done X rfl rfl rfl hc i pins s3 σ3 H3 X.xe I3 (stat fr3) st3 stop) fun r s4 ⟨hr, I4⟩ => ?_)
  subst hr
  exact wpAny_execs_nil ⟨σ3, H3, I4, qn⟩
 ·refine wpAny_passesOwn hp (thn (T.item X rfl rfl rfl hc i pins s3 σ3 H3 X.xe I3 (stat fr3) st3 go) fun r s4 ⟨u, hr, h4⟩ => ?_)
  subst hr
  refine wpAny_passesOwn hp (thn h4 fun _ s5 ⟨x, H5, I5, r5, y5, st5, fr5⟩ => ?_)
  have I5' := I5.pinned (stat fr5) (T.obj _ _ st5)
  refine wpAny_passesOwn hp (thn (hg _ s5 σ3 H5 x u _ I5' r5 (step x H5 y5)) fun _ s6 ⟨σ6, H6, I6, q6⟩ => ?_)
  refine wpAny_passesOwn hp (thn (hb _ s6 σ6 H6 _ I6 q6) fun f s7 q7 => ?_)
  have again : ∀ {σ7 : St} {H7 : Hp}, Inv X (pins ++ pinsAt fp s5.heap) σ7 H7 s7 → N σ7 H7 → ∃ m, m < n ∧ ∃ i σ' H', Inv X pins σ' H' s7 ∧ tn i s7.heap ∧ (∀ b ∈ fp, H' b = none) ∧ W i m σ' H' := fun {σ7 H7} I7 n7 => by
   obtain ⟨m', hm, w7⟩ := hN σ7 H7 n7
   refine ⟨m', hm, i + 1, σ7, H7, I7.unpinned, T.keep _ _ _ st5 fun b hb o e => (I7.pin (b, o) (List.mem_append_right _ (List.mem_append_right _ (mem_pinsAt hb e)))).1, fun b hb => ?_, w7⟩
   obtain ⟨o, e, d⟩ := T.obj _ _ st5 b hb
   exact (I7.pin (b, o) (List.mem_append_right _ (List.mem_append_right _ (mem_pinsAt hb e)))).2.1
  cases f with
  | next => obtain ⟨σ7, H7, I7, n7⟩ := q7; exact again I7 n7
  | cont => obtain ⟨σ7, H7, I7, n7⟩ := q7; exact again I7 n7
  | brk => obtain ⟨σ7, H7, I7, q7⟩ := q7; exact ⟨σ7, H7, I7.unpinned, q7⟩
  | ret v => obtain ⟨x7, σ7, H7, I7, r7, q7⟩ := q7; exact ⟨x7, σ7, H7, I7.unpinned, r7, q7⟩
end
theorem for_list {K : PySem.W.Frag} {a : Addr} {xs : List V} {g : TG} {tb : TS} {D : Ends} {σ : St} {H : Hp} (Pv : Nat → St → Hp → Prop) (h0 : Pv 0 σ H) (hl : ∀ i σ H, i ≤ xs.length → Pv i σ H → SqL K H a xs)
  (hs : ∀ i x σ H, xs[i]? = some x → Pv i σ H → g x σ H fun σ2 H2 => tb { D with nx := Pv (i + 1), ct := Pv (i + 1), bk := D.nx } σ2 H2) (hd : ∀ σ H, Pv xs.length σ H → D.nx σ H) :
  ∃ W : Nat → Nat → St → Hp → Prop, (∃ m, W 0 m σ H) ∧ ∀ i m σ H, W i m σ H →
   ((Itl K a).stop i H ∧ D.nx σ H) ∨ ((Itl K a).go i H ∧ ∃ N : St → Hp → Prop, (∀ σ' H', N σ' H' → ∃ m', m' < m ∧ W (i + 1) m' σ' H') ∧ ∀ x H', (Itl K a).yld i H x H' → g x σ H' fun σ2 H2 => tb { D with nx := N, ct := N, bk := D.nx } σ2 H2) := by
 refine ⟨fun i m σ H => m = xs.length - i ∧ i ≤ xs.length ∧ Pv i σ H, ⟨xs.length, by simp, Nat.zero_le _, h0⟩, ?_⟩
 rintro i m σ H ⟨rfl, hi, p⟩
 have q := hl i σ H hi p
 by_cases hlt : i < xs.length
 ·refine .inr ⟨⟨xs, xs[i], q, by simp [hlt]⟩, Pv (i + 1), fun σ' H' p' => ⟨xs.length - (i + 1), by omega, rfl, hlt, p'⟩, fun x H' y => ?_⟩
  obtain ⟨e, y⟩ := y
  subst e
  exact hs i x σ _ (y xs q) p
 ·have e : i = xs.length := by omega
  subst e
  exact .inl ⟨⟨xs, q, Nat.le_refl _⟩, hd σ H p⟩
theorem for_range {lo : Int} {n : Nat} {g : TG} {tb : TS} {D : Ends} {σ : St} {H : Hp} (Pv : Nat → St → Hp → Prop) (h0 : Pv 0 σ H)
  (hs : ∀ i σ H, i < n → Pv i σ H → g (.int (lo + i)) σ H fun σ2 H2 => tb { D with nx := Pv (i + 1), ct := Pv (i + 1), bk := D.nx } σ2 H2) (hd : ∀ σ H, Pv n σ H → D.nx σ H) :
  ∃ W : Nat → Nat → St → Hp → Prop, (∃ m, W 0 m σ H) ∧ ∀ i m σ H, W i m σ H →
   ((Itr lo n).stop i H ∧ D.nx σ H) ∨ ((Itr lo n).go i H ∧ ∃ N : St → Hp → Prop, (∀ σ' H', N σ' H' → ∃ m', m' < m ∧ W (i + 1) m' σ' H') ∧ ∀ x H', (Itr lo n).yld i H x H' → g x σ H' fun σ2 H2 => tb { D with nx := N, ct := N, bk := D.nx } σ2 H2) := by
 refine ⟨fun i m σ H => m = n - i ∧ i ≤ n ∧ Pv i σ H, ⟨n, by simp, Nat.zero_le _, h0⟩, ?_⟩
 rintro i m σ H ⟨rfl, hi, p⟩
 by_cases hlt : i < n
 ·refine .inr ⟨hlt, Pv (i + 1), fun σ' H' p' => ⟨n - (i + 1), by omega, rfl, hlt, p'⟩, fun x H' y => ?_⟩
  obtain ⟨e, y⟩ := y
  subst e y
  exact hs i σ _ hlt p
 ·have e : i = n := by omega
  subst e
  exact .inl ⟨Nat.le_refl _, hd σ H p⟩
abbrev R2 := V → V → Hp → VK → Prop
def OpR (X : Cx) (f : Value → Value → Sem Value) (r : R2) : Prop :=
 ∀ (pins : List (Addr × Obj)) (s : Shared) (σ : St) (H : Hp) (x y : V) (v u : Value) (Q : VK), Inv X pins σ H s → RelV x v → RelV y u → r x y H Q →
  wpAny (model X.prog X.w) X.A (f v u) (EP X pins σ Q) X.xe s
def UnR (X : Cx) (f : Value → Sem Value) (r : V → Hp → VK → Prop) : Prop :=
 ∀ (pins : List (Addr × Obj)) (s : Shared) (σ : St) (H : Hp) (x : V) (v : Value) (Q : VK), Inv X pins σ H s → RelV x v → r x H Q →
  wpAny (model X.prog X.w) X.A (f v) (EP X pins σ Q) X.xe s
def CallR (X : Cx) (f : Value) (r : List V → Hp → VK → Prop) : Prop :=
 ∀ (pins : List (Addr × Obj)) (s : Shared) (σ : St) (H : Hp) (xs : List V) (us : List Value) (Q : VK), Inv X pins σ H s → Vals xs us → r xs H Q →
  wpAny (model X.prog X.w) X.A (call f us) (EP X pins σ Q) X.xe s
def TruR (X : Cx) (r : V → Hp → (Bool → Hp → Prop) → Prop) : Prop :=
 ∀ (pins : List (Addr × Obj)) (s : Shared) (σ : St) (H : Hp) (x : V) (v : Value) (Q : Bool → Hp → Prop), Inv X pins σ H s → RelV x v → r x H Q →
  wpAny (model X.prog X.w) X.A (truthy v) (TP X pins σ Q) X.xe s
def tOp (r : R2) (ta tb : TE) : TE := fun σ H Q => ta σ H fun x H1 => tb σ H1 fun y H2 => r x y H2 Q
def tUn (r : V → Hp → VK → Prop) (ta : TE) : TE := fun σ H Q => ta σ H fun x H1 => r x H1 Q
def rI (C : Int → Int → Prop) (g : Int → Int → V) : R2 := fun x y H Q => ∃ i j, x = .int i ∧ y = .int j ∧ C i j ∧ Q (g i j) H
def rI0 (g : Int → Int → V) : R2 := fun x y H Q => ∃ i j, x = .int i ∧ y = .int j ∧ Q (g i j) H
def rU (g : Int → V) : V → Hp → VK → Prop := fun x H Q => ∃ i, x = .int i ∧ Q (g i) H
section
variable {X : Cx} {a b c : Expr} {ta tb tc : TE} {pos : Pos}
theorem binT (ha : PE X a ta) (hb : PE X b tb) {pins : List (Addr × Obj)} {s : Shared} {σ : St} {H : Hp} {R : V → V → Hp → Prop} (I : Inv X pins σ H s)
  (h : ta σ H fun x H1 => tb σ H1 fun y H2 => R x y H2) {Q : Value → Shared → Prop} {f : Value → Value → Sem Value}
  (hf : ∀ v u s2 x y H2, Inv X pins σ H2 s2 → RelV x v → RelV y u → R x y H2 → wpAny (model X.prog X.w) X.A (f v u) Q X.xe s2) :
  wpAny (model X.prog X.w) X.A (eval a X.env) (fun v s₁ => wpAny (model X.prog X.w) X.A (eval b X.env) (fun u s₂ => wpAny (model X.prog X.w) X.A (f v u) Q X.xe s₂) X.xe s₁) X.xe s := by
 refine thn (ha pins s σ H _ I h) fun v s1 ⟨x, H1, I1, r1, q1⟩ => ?_
 refine thn (hb pins s1 σ H1 _ I1 q1) fun u s2 ⟨y, H2, I2, r2, q2⟩ => ?_
 exact hf v u s2 x y H2 I2 r1 r2 q2
theorem pe_op {op : Operator} {r : R2} (ho : OpR X (binaryOp op) r) (ha : PE X a ta) (hb : PE X b tb) : PE X (.BinOp a op b pos) (tOp r ta tb) := by
 intro pins s σ H Q I h
 exact wpAny_BinOp (binT ha hb I h fun v u s2 x y H2 I2 rx ry q => ho pins s2 σ H2 x y v u Q I2 rx ry q)
theorem pe_un {op : UnaryOp} {r : V → Hp → VK → Prop} (ho : UnR X (unaryOp op) r) (ha : PE X a ta) : PE X (.UnaryOp op a pos) (tUn r ta) := by
 intro pins s σ H Q I h
 exact UnaryOp_ (thn (ha pins s σ H _ I h) fun v s1 ⟨x, H1, I1, r1, q1⟩ => ho pins s1 σ H1 x v Q I1 r1 q1)
theorem opI {f : Value → Value → Sem Value} {C : Int → Int → Prop} {g : Int → Int → Int}
  (rule : ∀ (i j : Int) (t u : Tok) (s : Shared) (Q : Value → Shared → Prop) (E : Value → Shared → Prop), C i j → Q (.int (g i j) s.toks) { s with toks := s.toks + 1 } → wpAny (model X.prog X.w) X.A (f (.int i t) (.int j u)) Q E s) :
  OpR X f (rI C fun i j => .int (g i j)) := by
 intro pins s σ H x y v u Q I rx ry h
 obtain ⟨i, j, rfl, rfl, hc, q⟩ := h
 obtain ⟨t, rfl⟩ := rx
 obtain ⟨t', rfl⟩ := ry
 exact rule i j t t' s _ _ hc ⟨.int (g i j), H, I.tok _, ⟨_, rfl⟩, q⟩
theorem opI0 {f : Value → Value → Sem Value} {g : Int → Int → Int}
  (rule : ∀ (i j : Int) (t u : Tok) (s : Shared) (Q : Value → Shared → Prop) (E : Value → Shared → Prop), Q (.int (g i j) s.toks) { s with toks := s.toks + 1 } → wpAny (model X.prog X.w) X.A (f (.int i t) (.int j u)) Q E s) :
  OpR X f (rI0 fun i j => .int (g i j)) := by
 intro pins s σ H x y v u Q I rx ry h
 obtain ⟨i, j, rfl, rfl, q⟩ := h
 obtain ⟨t, rfl⟩ := rx
 obtain ⟨t', rfl⟩ := ry
 exact rule i j t t' s _ _ ⟨.int (g i j), H, I.tok _, ⟨_, rfl⟩, q⟩
theorem opB0 {f : Value → Value → Sem Value} {g : Int → Int → Bool}
  (rule : ∀ (i j : Int) (t u : Tok) (s : Shared) (Q : Value → Shared → Prop) (E : Value → Shared → Prop), Q (.bool (g i j)) s → wpAny (model X.prog X.w) X.A (f (.int i t) (.int j u)) Q E s) :
  OpR X f (rI0 fun i j => .bl (g i j)) := by
 intro pins s σ H x y v u Q I rx ry h
 obtain ⟨i, j, rfl, rfl, q⟩ := h
 obtain ⟨t, rfl⟩ := rx
 obtain ⟨t', rfl⟩ := ry
 exact rule i j t t' s _ _ ⟨.bl (g i j), H, I, rfl, q⟩
def CPow (i j : Int) : Prop := 0 ≤ j ∧ j ≤ 1000000 ∧ i.natAbs < 2 ^ 64
def CMul (i j : Int) : Prop := (-(2 ^ 64) < i ∧ i < 2 ^ 64) ∨ (-(2 ^ 64) < j ∧ j < 2 ^ 64)
theorem CMul.ok {i j : Int} (h : CMul i j) : IntMulOk i j := by
 rcases h with ⟨h1, h2⟩ | ⟨h1, h2⟩
 ·exact .of_left (intBits_le_64 h1 h2)
 ·exact .of_right (intBits_le_64 h1 h2)
theorem op_add : OpR X (binaryOp .Add) (rI0 fun i j => .int (i + j)) := opI0 fun _ _ _ _ _ _ _ q => add_int q
theorem op_sub : OpR X (binaryOp .Sub) (rI0 fun i j => .int (i - j)) := opI0 fun _ _ _ _ _ _ _ q => sub_int q
theorem op_mul : OpR X (binaryOp .Mult) (rI CMul fun i j => .int (i * j)) := opI fun _ _ _ _ _ _ _ hc q => mul_int q hc.ok
theorem op_mod : OpR X (binaryOp .Mod) (rI (fun _ j => 0 < j) fun i j => .int (i % j)) := opI fun i j _ _ _ _ _ hc q => by
 have h1 : (0 : Int) < j := hc
 exact mod_int' (by omega) (by rw [Int.fmod_eq_emod_of_nonneg i (by omega)]; exact q)
theorem op_pow : OpR X (binaryOp .Pow) (rI CPow fun i j => .int (i ^ j.toNat)) := opI fun _ _ _ _ _ _ _ hc q => pow_int_small hc.1 hc.2.1 hc.2.2 q
theorem unI {f : Value → Sem Value} {g : Int → Int}
  (rule : ∀ (i : Int) (t : Tok) (s : Shared) (Q : Value → Shared → Prop) (E : Value → Shared → Prop), Q (.int (g i) s.toks) { s with toks := s.toks + 1 } → wpAny (model X.prog X.w) X.A (f (.int i t)) Q E s) :
  UnR X f (rU fun i => .int (g i)) := by
 intro pins s σ H x v Q I rx h
 obtain ⟨i, rfl, q⟩ := h
 obtain ⟨t, rfl⟩ := rx
 exact rule i t s _ _ ⟨.int (g i), H, I.tok _, ⟨_, rfl⟩, q⟩
theorem un_neg : UnR X (unaryOp .USub) (rU fun i => .int (-i)) := unI fun _ _ _ _ _ q => neg_int q
end
def scal : V → V → Bool
 | .non, .non => true | .non, .int _ => true | .int _, .non => true | .non, .bl _ => true | .bl _, .non => true | .non, .str _ => true | .str _, .non => true
 | .int _, .int _ => true | .bl _, .bl _ => true | .str _, .str _ => true | .byt _, .byt _ => true
 | .int _, .str _ => true | .str _, .int _ => true | .bl _, .str _ => true | .str _, .bl _ => true
 | _, _ => false
def rEq : R2 := fun x y H Q => scal x y = true ∧ Q (.bl (decide (x = y))) H
def rNe : R2 := fun x y H Q => scal x y = true ∧ Q (.bl (!decide (x = y))) H
theorem dec_int {i j : Int} : decide (V.int i = V.int j) = (i == j) := by
 rw [Bool.eq_iff_iff]
 simp
theorem dec_bl {i j : Bool} : decide (V.bl i = V.bl j) = (i == j) := by
 rw [Bool.eq_iff_iff]
 simp
theorem dec_str {i j : Str} : decide (V.str i = V.str j) = (i == j) := by
 rw [Bool.eq_iff_iff]
 simp
theorem dec_byt {i j : Array UInt8} : decide (V.byt i = V.byt j) = (i.toList == j.toList) := by
 rw [Bool.eq_iff_iff]
 cases i
 cases j
 simp
section
variable {X : Cx} {a b c : Expr} {ta tb tc : TE} {pos : Pos}
theorem fin_bl {pins : List (Addr × Obj)} {σ : St} {H : Hp} {s : Shared} {Q : VK} {k k' : Bool} (I : Inv X pins σ H s) (q : Q (.bl k) H) (e : k = k') : EP X pins σ Q (.bool k') s := by
 subst e
 exact ⟨.bl k, H, I, rfl, q⟩
theorem op_eq : OpR X (compareOp .Eq) rEq := by
 intro pins s σ H x y v u Q I rx ry h
 obtain ⟨hs, q⟩ := h
 cases x with
 | non =>
  cases rx
  cases y with
  | non => cases ry; exact PySem.EqNone.eq_none_none (fin_bl I q (by simp))
  | bl j => cases ry; exact PySem.EqNone.eq_none_bool (fin_bl I q (by simp))
  | int j => obtain ⟨t', rfl⟩ := ry; exact PySem.EqNone.eq_none_int (fin_bl I q (by simp))
  | str j => obtain ⟨t', rfl⟩ := ry; exact PySem.EqNone.eq_none_str (fin_bl I q (by simp))
  | _ => exact absurd (show false = true from hs) Bool.false_ne_true
 | bl i =>
  cases rx
  cases y with
  | non => cases ry; exact PySem.EqNone.eq_bool_none (fin_bl I q (by simp))
  | bl j => cases ry; exact eq_bool (fin_bl I q dec_bl)
  | str j => obtain ⟨t', rfl⟩ := ry; exact PySem.EqMixed.eq_bool_str (fin_bl I q (by simp))
  | _ => exact absurd (show false = true from hs) Bool.false_ne_true
 | int i =>
  obtain ⟨t, rfl⟩ := rx
  cases y with
  | non => cases ry; exact PySem.EqNone.eq_int_none (fin_bl I q (by simp))
  | int j => obtain ⟨t', rfl⟩ := ry; exact eq_int (fin_bl I q dec_int)
  | str j => obtain ⟨t', rfl⟩ := ry; exact PySem.EqMixed.eq_int_str (fin_bl I q (by simp))
  | _ => exact absurd (show false = true from hs) Bool.false_ne_true
 | str i =>
  obtain ⟨t, rfl⟩ := rx
  cases y with
  | non => cases ry; exact PySem.EqNone.eq_str_none (fin_bl I q (by simp))
  | bl j => cases ry; exact PySem.EqMixed.eq_str_bool (fin_bl I q (by simp))
  | int j => obtain ⟨t', rfl⟩ := ry; exact PySem.EqMixed.eq_str_int (fin_bl I q (by simp))
  | str j => obtain ⟨t', rfl⟩ := ry; exact eq_str (fin_bl I q dec_str)
  | _ => exact absurd (show false = true from hs) Bool.false_ne_true
 | byt i =>
  obtain ⟨t, rfl⟩ := rx
  cases y with
  | byt j => obtain ⟨t', rfl⟩ := ry; exact PySem.W.eq_bytes (fin_bl I q dec_byt)
  | _ => exact absurd (show false = true from hs) Bool.false_ne_true
 | _ => cases y <;> exact absurd (show false = true from hs) Bool.false_ne_true
theorem op_ne : OpR X (compareOp .NotEq) rNe := by
 intro pins s σ H x y v u Q I rx ry h
 obtain ⟨hs, q⟩ := h
 cases x with
 | non =>
  cases rx
  cases y with
  | non => cases ry; exact PySem.EqNone.ne_none_none (fin_bl I q (by simp))
  | bl j => cases ry; exact PySem.EqNone.ne_none_bool (fin_bl I q (by simp))
  | int j => obtain ⟨t', rfl⟩ := ry; exact PySem.EqNone.ne_none_int (fin_bl I q (by simp))
  | str j => obtain ⟨t', rfl⟩ := ry; exact PySem.EqNone.ne_none_str (fin_bl I q (by simp))
  | _ => exact absurd (show false = true from hs) Bool.false_ne_true
 | bl i =>
  cases rx
  cases y with
  | non => cases ry; exact PySem.EqNone.ne_bool_none (fin_bl I q (by simp))
  | bl j => cases ry; exact ne_bool (fin_bl I q (congrArg not dec_bl))
  | str j => obtain ⟨t', rfl⟩ := ry; exact PySem.EqMixed.ne_bool_str (fin_bl I q (by simp))
  | _ => exact absurd (show false = true from hs) Bool.false_ne_true
 | int i =>
  obtain ⟨t, rfl⟩ := rx
  cases y with
  | non => cases ry; exact PySem.EqNone.ne_int_none (fin_bl I q (by simp))
  | int j => obtain ⟨t', rfl⟩ := ry; exact ne_int (fin_bl I q (congrArg not dec_int))
  | str j => obtain ⟨t', rfl⟩ := ry; exact PySem.EqMixed.ne_int_str (fin_bl I q (by simp))
  | _ => exact absurd (show false = true from hs) Bool.false_ne_true
 | str i =>
  obtain ⟨t, rfl⟩ := rx
  cases y with
  | non => cases ry; exact PySem.EqNone.ne_str_none (fin_bl I q (by simp))
  | bl j => cases ry; exact PySem.EqMixed.ne_str_bool (fin_bl I q (by simp))
  | int j => obtain ⟨t', rfl⟩ := ry; exact PySem.EqMixed.ne_str_int (fin_bl I q (by simp))
  | str j => obtain ⟨t', rfl⟩ := ry; exact ne_str (fin_bl I q (congrArg not dec_str))
  | _ => exact absurd (show false = true from hs) Bool.false_ne_true
 | byt i =>
  obtain ⟨t, rfl⟩ := rx
  cases y with
  | byt j => obtain ⟨t', rfl⟩ := ry; exact PySem.W.ne_bytes (fin_bl I q (congrArg not dec_byt))
  | _ => exact absurd (show false = true from hs) Bool.false_ne_true
 | _ => cases y <;> exact absurd (show false = true from hs) Bool.false_ne_true
theorem op_lt : OpR X (compareOp .Lt) (rI0 fun i j => .bl (decide (i < j))) := opB0 fun _ _ _ _ _ _ _ q => lt_int q
theorem op_le : OpR X (compareOp .LtE) (rI0 fun i j => .bl (decide (i ≤ j))) := opB0 fun _ _ _ _ _ _ _ q => le_int q
theorem op_gt : OpR X (compareOp .Gt) (rI0 fun i j => .bl (decide (j < i))) := opB0 fun _ _ _ _ _ _ _ q => gt_int q
theorem op_ge : OpR X (compareOp .GtE) (rI0 fun i j => .bl (decide (j ≤ i))) := opB0 fun _ _ _ _ _ _ _ q => ge_int q
theorem op_isN : OpR X (compareOp .Is) (fun x y H Q => y = .non ∧ Q (.bl (decide (x = .non))) H) := by
 intro pins s σ H x y v u Q I rx ry h
 obtain ⟨rfl, q⟩ := h
 cases ry
 refine is_none_gen (fin_bl I q ?_)
 cases x <;> first
  | (cases rx; rfl)
  | (obtain ⟨t, rfl⟩ := rx; rfl)
theorem op_notN : OpR X (compareOp .IsNot) (fun x y H Q => y = .non ∧ Q (.bl (!decide (x = .non))) H) := by
 intro pins s σ H x y v u Q I rx ry h
 obtain ⟨rfl, q⟩ := h
 cases ry
 refine isnot_none_gen (fin_bl I q ?_)
 cases x <;> first
  | (cases rx; rfl)
  | (obtain ⟨t, rfl⟩ := rx; rfl)
theorem nomark (b : Expr) {op : CmpOp} (h : op ≠ .In := by decide) (h2 : op ≠ .NotIn := by decide) : behindInMarks op b = false := by
 have e1 : (op == CmpOp.In) = false := by cases op <;> first | rfl | exact absurd rfl h
 have e2 : (op == CmpOp.NotIn) = false := by cases op <;> first | rfl | exact absurd rfl h2
 cases b <;> simp [behindInMarks, e1, e2]
theorem pe_cmpR {op : CmpOp} {r : R2} (ho : OpR X (compareOp op) r) (ha : PE X a ta) (hb : PE X b tb) (hm : behindInMarks op b = false) : PE X (.Compare a [op] [b] pos) (tOp r ta tb) := by
 intro pins s σ H Q I h
 exact wpAny_Compare1 (binT ha hb I h fun v u s2 x y H2 I2 rx ry q => ho pins s2 σ H2 x y v u Q I2 rx ry q) hm
def tTest (t : TE) : TT := fun σ H Q => t σ H fun x H' => ∃ k, x = .bl k ∧ Q k H'
theorem pt_cmpR {op : CmpOp} {r : R2} (ho : OpR X (compareOp op) r) (ha : PE X a ta) (hb : PE X b tb) (hm : behindInMarks op b = false) : PT X (.Compare a [op] [b] pos) (tTest (tOp r ta tb)) := by
 intro pins s σ H Q I h
 refine wpAny_isTrue_Compare1 (thn (ha pins s σ H _ I h) fun v s1 ⟨x, H1, I1, r1, q1⟩ => thn (hb pins s1 σ H1 _ I1 q1) fun u s2 ⟨y, H2, I2, r2, q2⟩ =>
  thn (ho pins s2 σ H2 x y v u _ I2 r1 r2 q2) fun c s3 ⟨z, H3, I3, r3, k, e, q3⟩ => ?_) hm
 subst e
 cases r3
 exact wpAny_truthy_bool ⟨H3, I3, q3⟩
def tChain (r r' : R2) (ta tb tc : TE) : TE := fun σ H Q => ta σ H fun x H1 => tb σ H1 fun y H2 => r x y H2 fun z H3 => ∃ k, z = .bl k ∧
 (if k = true then tc σ H3 fun w' H4 => r' y w' H4 Q else Q (.bl false) H3)
theorem pt_chain {op op' : CmpOp} {r r' : R2} (ho : OpR X (compareOp op) r) (ho' : OpR X (compareOp op') r') (ha : PE X a ta) (hb : PE X b tb) (hc : PE X c tc)
  (hm : lastMarks [op, op'] [b, c] = false := by with_unfolding_all rfl) : PT X (.Compare a [op, op'] [b, c] pos) (tTest (tChain r r' ta tb tc)) := by
 intro pins s σ H Q I h
 refine isTrue_chain (thn (ha pins s σ H _ I h) fun v s1 ⟨x, H1, I1, r1, q1⟩ => test_link (thn (hb pins s1 σ H1 _ I1 q1) fun u s2 ⟨y, H2, I2, r2, q2⟩ =>
  thn (ho pins s2 σ H2 x y v u _ I2 r1 r2 q2) fun d s3 ⟨z, H3, I3, r3, k, e, q3⟩ => ?_)) hm
 subst e
 cases r3
 refine wpAny_truthy_bool ?_
 cases k with
 | false =>
  obtain ⟨k', e', q'⟩ := q3
  cases e'
  exact ite_ff ⟨H3, I3, q'⟩
 | true =>
  refine ite_tt (test_last (thn (hc pins s3 σ H3 _ I3 q3) fun w' s4 ⟨z', H4, I4, r4, q4⟩ => thn (ho' pins s4 σ H4 y z' u w' _ I4 r2 r4 q4) fun d' s5 ⟨z2, H5, I5, r5, k2, e2, q5⟩ => ?_))
  subst e2
  cases r5
  exact wpAny_truthy_bool ⟨H5, I5, q5⟩
def TruV (K : PySem.W.Frag) (x : V) (H : Hp) (k : Bool) : Prop :=
 match x with
 | .non => k = false
 | .bl b => k = b
 | .int i => k = (i != 0)
 | .str y => y.length ≤ sizeLine ∧ k = ((y.length : Int) != 0)
 | .byt y => y.size ≤ sizeLine ∧ k = ((y.size : Int) != 0)
 | .ref p => (∃ xs, SqL K H p xs ∧ k = !xs.isEmpty) ∨ (∃ xs, SqT K H p xs ∧ k = !xs.isEmpty) ∨ ∃ kvs, H p = some (.dK kvs) ∧ k = !kvs.isEmpty
 | _ => False
theorem isEmpty_kv {κ : Type} {kvs : List (κ × V)} {vs : List (κ × Value)} (r : KV kvs vs) : (!vs.isEmpty) = !kvs.isEmpty := by
 cases r <;> rfl
theorem isEmpty_of {xs : List V} {its : List Value} (r : Vals xs its) : (!its.toArray.isEmpty) = !xs.isEmpty := by
 cases r <;> simp
theorem line63 : (sizeLine : Nat) < 2 ^ 63 := by rw [sizeLine_eq]; decide
theorem tru_ok : TruR X (fun x H Q => ∃ k, TruV X.K x H k ∧ Q k H) := by
 intro pins s σ H x v Q I rx h
 obtain ⟨k, e, q⟩ := h
 have hl := line63
 have hs : sizeLine = 16777216 := sizeLine_eq
 cases x with
 | non =>
  cases rx
  have e' : k = false := e
  subst e'
  exact truthy_none ⟨H, I, q⟩
 | bl b =>
  cases rx
  have e' : k = b := e
  subst e'
  exact wpAny_truthy_bool ⟨H, I, q⟩
 | int i =>
  obtain ⟨t, rfl⟩ := rx
  have e' : k = (i != 0) := e
  subst e'
  exact PySem.P.truthy_int ⟨H, I, q⟩
 | str y =>
  obtain ⟨t, rfl⟩ := rx
  obtain ⟨hy, e'⟩ : y.length ≤ sizeLine ∧ k = ((y.length : Int) != 0) := e
  subst e'
  exact PySem.P.truthy_str (by omega) ⟨H, I.tok _, q⟩
 | byt y =>
  obtain ⟨t, rfl⟩ := rx
  obtain ⟨hy, e'⟩ : y.size ≤ sizeLine ∧ k = ((y.size : Int) != 0) := e
  subst e'
  exact PySem.W.truthy_bytes (by omega) ⟨H, I.tok _, q⟩
 | ref p =>
  cases rx
  have e' : (∃ xs, SqL X.K H p xs ∧ k = !xs.isEmpty) ∨ (∃ xs, SqT X.K H p xs ∧ k = !xs.isEmpty) ∨ ∃ kvs, H p = some (.dK kvs) ∧ k = !kvs.isEmpty := e
  rcases e' with ⟨xs, hx, e'⟩ | ⟨xs, hx, e'⟩ | ⟨kvs, hx, e'⟩
  ·subst e'
   obtain ⟨its, r, pl, hz⟩ := I.list hx
   have hlen := r.length
   exact wpAny_truthy_list pl.isList (by simp only [List.size_toArray]; omega) ⟨H, I.tok _, by rw [isEmpty_of r]; exact q⟩
  ·subst e'
   obtain ⟨its, r, pl, hz⟩ := I.tuple hx
   have hlen := r.length
   exact truthy_tuple pl (by simp only [List.size_toArray]; omega) ⟨H, I.tok _, by rw [isEmpty_of r]; exact q⟩
  ·subst e'
   obtain ⟨hz, hS, vs, r, m⟩ : kvs.length ≤ sizeLine ∧ (p == sysModules) = false ∧ ∃ vs, KV kvs vs ∧ s.heap.DictOf (mixKind X.prog X.w) p vs := I.hok p _ hx
   have hlen : kvs.length = vs.length := Paired.length r
   exact wpAny_truthy_dict hS m (by omega) ⟨H, I.tok _, by rw [isEmpty_kv r]; exact q⟩
 | _ => exact (show False from e).elim
theorem pt_truth (ha : PE X a ta) (he : ∀ whole, isTrue a X.env whole = (do let v ← whole; standAt a.pos; holding [v] (truthy v))) :
  PT X a (fun σ H Q => ta σ H fun x H' => ∃ k, TruV X.K x H' k ∧ Q k H') := by
 intro pins s σ H Q I h
 exact isTrue_plain (thn (ha pins s σ H _ I h) fun v s1 ⟨x, H1, I1, r1, q1⟩ => tru_ok pins s1 σ H1 x v Q I1 r1 q1) (he _)
theorem op_add_str : OpR X (binaryOp .Add) (fun x y H Q => ∃ i j, x = .str i ∧ y = .str j ∧ i.length + j.length ≤ sizeLine ∧ Q (.str (i ++ j)) H) := by
 intro pins s σ H x y v u Q I rx ry h
 obtain ⟨i, j, rfl, rfl, hz, q⟩ := h
 obtain ⟨t, rfl⟩ := rx
 obtain ⟨t', rfl⟩ := ry
 exact add_str (fun t' tk => ⟨.str (i ++ j), H, I.tok _, ⟨_, rfl⟩, q⟩) hz
theorem vals1 {x : V} {us : List Value} (r : Vals [x] us) : ∃ u, us = [u] ∧ RelV x u := by
 cases r with
 | cons r1 r2 => cases r2; exact ⟨_, rfl, r1⟩
theorem vals2 {x y : V} {us : List Value} (r : Vals [x, y] us) : ∃ u w', us = [u, w'] ∧ RelV x u ∧ RelV y w' := by
 cases r with
 | cons r1 r2 =>
  cases r2 with
  | cons r3 r4 => cases r4; exact ⟨_, _, rfl, r1, r3⟩
theorem call_abs : CallR X (.builtin "abs") (fun xs H Q => ∃ i, xs = [.int i] ∧ Q (.int (if i < 0 then -i else i)) H) := by
 intro pins s σ H xs us Q I r h
 obtain ⟨i, rfl, q⟩ := h
 obtain ⟨u, rfl, t, rfl⟩ := vals1 r
 exact call_abs_int fun u tk => ⟨.int (if i < 0 then -i else i), H, I.tok _, ⟨_, rfl⟩, q⟩
theorem call_bool1 : CallR X (.type "bool") (fun xs H Q => (∃ i, xs = [.int i] ∧ Q (.bl (i != 0)) H) ∨ ∃ k, xs = [.bl k] ∧ Q (.bl k) H) := by
 intro pins s σ H xs us Q I r h
 rcases h with ⟨i, rfl, q⟩ | ⟨k, rfl, q⟩
 ·obtain ⟨u, rfl, t, rfl⟩ := vals1 r
  exact call_bool_int ⟨.bl (i != 0), H, I, rfl, q⟩
 ·obtain ⟨u, rfl, r1⟩ := vals1 r
  cases r1
  exact call_bool_bool ⟨.bl k, H, I, rfl, q⟩
theorem call_str_int : CallR X (.type "str") (fun xs H Q => ∃ i, xs = [.int i] ∧ i.natAbs.log2 < 1920 ∧ Q (.str (toString i)) H) := by
 intro pins s σ H xs us Q I r h
 obtain ⟨i, rfl, hz, q⟩ := h
 obtain ⟨u, rfl, t, rfl⟩ := vals1 r
 exact PySem.P.str_of_int hz ⟨.str _, H, I.tok _, ⟨_, rfl⟩, q⟩
def LenV (K : PySem.W.Frag) (x : V) (H : Hp) (n : Nat) : Prop :=
 match x with
 | .str y => y.length ≤ sizeLine ∧ n = y.length
 | .byt y => y.size ≤ sizeLine ∧ n = y.size
 | .ref p => (∃ xs, SqL K H p xs ∧ n = xs.length) ∨ ∃ xs, SqT K H p xs ∧ n = xs.length
 | _ => False
theorem call_len : CallR X (.builtin "len") (fun xs H Q => ∃ x n, xs = [x] ∧ LenV X.K x H n ∧ Q (.int n) H) := by
 intro pins s σ H xs us Q I r h
 obtain ⟨x, n, rfl, e, q⟩ := h
 obtain ⟨u, rfl, rx⟩ := vals1 r
 have hl := line63
 have hs : sizeLine = 16777216 := sizeLine_eq
 cases x with
 | str y =>
  obtain ⟨t, rfl⟩ := rx
  obtain ⟨hy, e'⟩ : y.length ≤ sizeLine ∧ n = y.length := e
  subst e'
  exact len_str (by omega) ⟨.int _, H, I.tok _, ⟨_, rfl⟩, q⟩
 | byt y =>
  obtain ⟨t, rfl⟩ := rx
  obtain ⟨hy, e'⟩ : y.size ≤ sizeLine ∧ n = y.size := e
  subst e'
  exact PySem.W.len_bytes (by omega) ⟨.int _, H, I.tok _, ⟨_, rfl⟩, q⟩
 | ref p =>
  cases rx
  have e' : (∃ xs, SqL X.K H p xs ∧ n = xs.length) ∨ ∃ xs, SqT X.K H p xs ∧ n = xs.length := e
  rcases e' with ⟨xs, hx, e'⟩ | ⟨xs, hx, e'⟩
  ·subst e'
   obtain ⟨its, r', pl, hz⟩ := I.list hx
   have hlen := r'.length
   exact Calls.call_len_list pl.isList (by simp only [List.size_toArray]; omega) ⟨.int xs.length, H, I.tok _, ⟨_, by simp only [List.size_toArray]; rw [hlen]⟩, q⟩
  ·subst e'
   obtain ⟨its, r', pl, hz⟩ := I.tuple hx
   have hlen := r'.length
   exact len_tuple pl (by simp only [List.size_toArray]; omega) ⟨.int xs.length, H, I.tok _, ⟨_, by simp only [List.size_toArray]; rw [hlen]⟩, q⟩
 | _ => exact (show False from e).elim
end
structure ObjM (h : Heap) (x dx C : Addr) (mA : Str → Option Value) : Prop where
 obj : h.get? x = some (PySem.W.instObj C dx)
 ns : h.Ns1 dx mA
 ne : dx ≠ x
theorem lookIn_ns {h : Heap} {dx : Addr} {mA : Str → Option Value} (n : h.Ns1 dx mA) : ∃ od, h.get? dx = some od ∧ ∀ name, PySem.W.lookIn name od = some (mA name) := by
 obtain ⟨o, es, ep, ho, hd, hk, _, hm⟩ := n
 refine ⟨o, ho, fun name => ?_⟩
 have e := hm name
 unfold nsFind findBy at e
 rw [← Array.find?_toList] at e
 unfold PySem.W.lookIn
 rw [hd]
 dsimp only
 split
 ·rename_i y q
  rw [q] at e
  exact congrArg some e
 ·rename_i q
  rw [q] at e
  have a : es.toList.any (·.refKey) = false := by
   rw [List.any_eq_false]
   intro y hy
   obtain ⟨z, t, hkey⟩ := hk y (Array.mem_toList_iff.mp hy)
   simp [DictEntry.refKey, hkey]
  have a' : ¬ es.toList.any (·.refKey) = true := by rw [a]; exact Bool.false_ne_true
  rw [if_neg a']
  exact congrArg some e
theorem ObjM.look {h : Heap} {x dx C : Addr} {mA : Str → Option Value} (I : ObjM h x dx C mA) : ∃ od, PySem.W.InstAt h x (PySem.W.instObj C dx) C (some od) ∧ ∀ name, PySem.W.lookIn name od = some (mA name) :=
 let ⟨od, ho, hl⟩ := lookIn_ns I.ns
 ⟨od, ⟨I.obj, rfl, rfl, ho⟩, hl⟩
theorem RelO.some_of {v : V} {o : Option Value} (r : RelO (some v) o) : ∃ u, o = some u ∧ RelV v u := by
 cases o with
 | none => exact (show False from r).elim
 | some u => exact ⟨u, rfl, r⟩
section
variable {P : Program} {w : World} {H H' : Hp} {h h' : Heap} {a C dx : Addr} {fs fs' : List (Str × V)}
theorem ins_get (hok : HOk P w H h) (e : H a = some (.ins C dx fs)) : ∃ mA, ObjM h a dx C mA ∧ (∀ f, RelO (fs.lookup f) (mA f)) ∧ PySem.Within mA (fs.map (·.1)) ∧ fs.length ≤ 1000 ∧ H dx = some (.own a) := by
 obtain ⟨d, z, ne, ob, mA, n, r, q⟩ := (show ObjOk P w H h a (.ins C dx fs) from hok a _ e)
 exact ⟨mA, ⟨ob, n, ne⟩, r, q, z, d⟩
end
structure Cls (K : PySem.W.Frag) (C : Addr) : Prop where
 pg : PySem.W.plainGet K C Str.empty = true
 hd : PySem.W.hasDictIn K C = true
 po : PySem.W.plainOver K C = true
 sa : PySem.W.findIn K (.ref C) "__setattr__" = some (some (.builtin "object.__setattr__"))
theorem Cls.get {K : PySem.W.Frag} {C : Addr} (c : Cls K C) (f : Str) : PySem.W.plainGet K C f = true := c.pg
section
variable {X : Cx} {pins : List (Addr × Obj)} {σ : St} {H : Hp} {s : Shared} {A : Around} {E : Value → Shared → Prop} {Q : Value → Shared → Prop} {c : Value} {b : Bool}
inductive TyOf (K : PySem.W.Frag) (H : Hp) : V → Value → Prop where
 | non : TyOf K H .non (.type "NoneType")
 | bl (x : Bool) : TyOf K H (.bl x) (.type "bool")
 | int (i : Int) : TyOf K H (.int i) (.type "int")
 | str (x : Str) : TyOf K H (.str x) (.type "str")
 | flt (x : UInt64) : TyOf K H (.flt x) (.type "float")
 | lst {a : Addr} {xs : List V} (e : H a = some (.lst xs)) : TyOf K H (.ref a) (.type "list")
 | frz {a : Addr} {o : Obj} {xs : List V} (e : H a = some (.frz o (.lst xs))) : TyOf K H (.ref a) (.type "list")
 | tup {a : Addr} {xs : List V} (e : H a = some (.tup xs)) : TyOf K H (.ref a) (.type "tuple")
 | dK {a : Addr} {kvs : List (Key × V)} (e : H a = some (.dK kvs)) : TyOf K H (.ref a) (.type "dict")
 | dT {a : Addr} {kvs : List (List Key × V)} (e : H a = some (.dT kvs)) : TyOf K H (.ref a) (.type "dict")
 | ins {a C dx : Addr} {fs : List (Str × V)} (e : H a = some (.ins C dx fs)) (cl : Cls K C) (ha : PySem.W.findIn K (.ref C) "__class__" = some (some (.builtin "object.__class__")))
   (hn : PySem.W.specialIn K (.builtin "object.__class__") "__get__" = some (some (.builtin "getset_descriptor.__get__"))) (htk : PySem.W.takesIn K (.builtin "object.__class__") = some true)
   (hm : PySem.W.mroIn K C (.type "object") = some true) : TyOf K H (.ref a) (.ref C)
theorem isinst_ok {x : V} {u t : Value} (I : Inv X pins σ H s) (rx : RelV x u) (ty : TyOf X.K H x t) (e : PySem.W.kitOne X.K t c = some b) (h : ∀ tk, Q (.bool b) { s with toks := tk }) :
  wpAny (model X.prog X.w) A (call (.builtin "isinstance") [u, c]) Q E s := by
 cases ty with
 | non => cases (show u = Value.none from rx); exact PySem.W.kia_one PySem.W.kitx_none I.kIn True.intro e (fun z => nomatch z) h
 | bl y => cases (show u = Value.bool y from rx); exact PySem.W.kia_one PySem.W.kitx_bool I.kIn True.intro e (fun z => nomatch z) h
 | int i => obtain ⟨t, q⟩ := (show ∃ t, u = Value.int i t from rx); cases q; exact PySem.W.kia_one PySem.W.kitx_int I.kIn True.intro e (fun z => nomatch z) h
 | str y => obtain ⟨t, q⟩ := (show ∃ t, u = Value.str y t from rx); cases q; exact PySem.W.kia_one PySem.W.kitx_str I.kIn True.intro e (fun z => nomatch z) h
 | flt y => obtain ⟨t, q⟩ := (show ∃ t, u = Value.float y t from rx); cases q; exact PySem.W.kia_one PySem.W.kitx_float I.kIn True.intro e (fun z => nomatch z) h
 | @lst a xs ea =>
  cases (show u = Value.ref a from rx)
  obtain ⟨_, _, n, _, h1⟩ := (show ObjOk X.prog X.w H s.heap a (.lst xs) from I.hok a _ ea)
  exact PySem.W.kia_one PySem.W.kitx_list I.kIn ⟨_, h1, rfl⟩ e (fun z => nomatch z) h
 | @frz a ob xs ea =>
  cases (show u = Value.ref a from rx)
  obtain ⟨_, _, _, n, _, h1⟩ := (show ObjOk X.prog X.w H s.heap a (.frz ob (.lst xs)) from I.hok a _ ea)
  exact PySem.W.kia_one PySem.W.kitx_list I.kIn ⟨_, h1, rfl⟩ e (fun z => nomatch z) h
 | @tup a xs ea =>
  cases (show u = Value.ref a from rx)
  obtain ⟨_, _, _, p⟩ := (show ObjOk X.prog X.w H s.heap a (.tup xs) from I.hok a _ ea)
  obtain ⟨o, h1, h2, _⟩ := p
  exact PySem.W.kia_one PySem.W.kitx_tuple I.kIn ⟨o, h1, h2⟩ e (fun z => nomatch z) h
 | @dK a kvs ea =>
  cases (show u = Value.ref a from rx)
  obtain ⟨_, _, vs, _, p⟩ := (show ObjOk X.prog X.w H s.heap a (.dK kvs) from I.hok a _ ea)
  obtain ⟨o, es, ep, h1, h2, _⟩ := p
  exact PySem.W.kia_one PySem.W.kitx_dict I.kIn ⟨o, h1, h2.1⟩ e (fun z => nomatch z) h
 | @dT a kvs ea =>
  cases (show u = Value.ref a from rx)
  obtain ⟨_, _, xs, _, o, es, ep, h1, h2, _⟩ := (show ObjOk X.prog X.w H s.heap a (.dT kvs) from I.hok a _ ea)
  exact PySem.W.kia_one PySem.W.kitx_dict I.kIn ⟨o, h1, h2.1⟩ e (fun z => nomatch z) h
 | @ins a C dx fs ea cl ha hn htk hm =>
  cases (show u = Value.ref a from rx)
  obtain ⟨mA, O, _⟩ := ins_get I.hok ea
  obtain ⟨od, J, _⟩ := O.look
  exact PySem.W.kia_one (PySem.W.kitx_own (cl.get _) cl.hd ha hn htk hm) I.kIn J e (fun z => nomatch z) h
end
structure Room (k : Nat) (A : Around) : Prop where
 hd : A.handled = none
 dp : A.depth + 3 * k + 5 < recursionLimit
 un : A.units + 16 * k + 200 < cLine
 gd : A.guards = some []
theorem Room.mono {j k : Nat} {A : Around} (r : Room k A) (h : j ≤ k) : Room j A := ⟨r.hd, by have := r.dp; omega, by have := r.un; omega, r.gd⟩
theorem Room.deeper {k : Nat} {A : Around} (r : Room (k + 1) A) (env : Env) : Room k (A.deeper env) :=
 ⟨r.hd, by have := r.dp; show A.depth + 1 + 3 * k + 5 < _; omega, by have := r.un; show A.units + 3 + 16 * k + 200 < _; omega, r.gd⟩
theorem Room.depth {k : Nat} {A : Around} (r : Room k A) : A.depth < recursionLimit := by have := r.dp; omega
theorem Room.units {k : Nat} {A : Around} (r : Room k A) : A.units + 64 < cLine := by have := r.un; omega
def tNil : TA := fun _ H Q => Q [] H
def tCons (ta : TE) (tr : TA) : TA := fun σ H Q => ta σ H fun x H1 => tr σ H1 fun xs H2 => Q (x :: xs) H2
section
variable {X : Cx} {e : Expr} {es : List Expr} {te : TE} {t : TA} {pos : Pos}
theorem pa_nil : PA X [] tNil := fun _ _ _ _ H Q I h => Calls.spliced_nil ⟨[], H, I, .nil, h⟩
theorem pa_cons (ha : PE X e te) (hr : PA X es t) (hs : starEach (e :: es) X.env = (false, eval e X.env) :: starEach es X.env := by rfl) : PA X (e :: es) (tCons te t) := by
 intro pos pins s σ H Q I h
 rw [hs]
 show wpAny _ _ (spliced ((false, eval e X.env) :: backTo pos (starEach es X.env))) _ _ s
 refine Calls.spliced_cons (thn (ha pins s σ H _ I h) fun u s1 ⟨x, H1, I1, r1, q1⟩ => ?_)
 exact thn (hr pos pins s1 σ H1 _ I1 q1) fun us s2 ⟨xs, H2, I2, r2, q2⟩ => ⟨x :: xs, H2, I2, .cons r1 r2, q2⟩
def tTup (t : TA) : TE := fun σ H Q => t σ H fun xs H1 => xs.length ≤ sizeLine ∧ ∀ p, H1 p = none → Q (.ref p) (upd H1 p (.tup xs))
def tLst (t : TA) : TE := fun σ H Q => t σ H fun xs H1 => xs.length ≤ sizeLine ∧ ∀ p, H1 p = none → Q (.ref p) (upd H1 p (.lst xs))
theorem pe_tup {x1} (h : PA X es t) : PE X (.Tuple es x1 pos) (tTup t) := by
 intro pins s σ H Q I hq
 refine wpAny_Tuple_spliced (thn (h pos pins s σ H _ I hq) fun us s1 ⟨xs, H1, I1, r, z, q⟩ => ⟨by rw [← r.length]; exact z, ?_⟩)
 have hf : H1 s1.heap.objs.size = none := I1.hok.fresh (Nat.le_refl _)
 refine ⟨.ref s1.heap.objs.size, upd H1 s1.heap.objs.size (.tup xs), I1.laid (t' := s1.toks) (fun b u e => Heap.get?_push_of_some _ e) (Nat.le_refl _) ?_, rfl, q _ hf⟩
 exact ⟨⟨z, _, Heap.get?_push_size _ rfl, rfl⟩, us, r, ⟨_, Heap.get?_push_size _ rfl, rfl, _, rfl⟩⟩
theorem pe_lst (h : PA X es t) : PE X (.List es pos) (tLst t) := by
 intro pins s σ H Q I hq
 refine wpAny_List_spliced (thn (h pos pins s σ H _ I hq) fun us s1 ⟨xs, H1, I1, r, z, q⟩ => ⟨by rw [← r.length]; exact z, ?_⟩)
 have hf : H1 s1.heap.objs.size = none := I1.hok.fresh (Nat.le_refl _)
 refine ⟨.ref s1.heap.objs.size, upd H1 s1.heap.objs.size (.lst xs), I1.laid (t' := s1.toks) (fun b u e => Heap.get?_push_of_some _ e) (Nat.le_refl _) ?_, rfl, q _ hf⟩
 exact ⟨z, us, 0, r, Heap.get?_push_size _ rfl⟩
end
abbrev Sp := List V → Hp → VK → XK → Prop
abbrev CXT := List Env → Hp → Shared → XK → Value → Shared → Prop
structure Env0 (P : Program) (w : World) (K : PySem.W.Frag) (mg : Str → Option Value) (base : Heap) (A : Around) (outer : List Env) (s : Shared) (H : Hp) : Prop where
 frames : A.frames = some outer
 mod : Mod K mg base
 bs : ∀ b o, base.get? b = some o → s.heap.get? b = some o ∧ H b = none
 bsz : base.objs.size ≤ s.heap.objs.size
 funs : s.heap.FunFrames base outer
 frf : ∀ b ∈ frs outer, H b = none
 hok : HOk P w H s.heap
 bare : AllBare s.gens
def CE (outer : List Env) (P : Program) (w : World) (H : Hp) (s : Shared) (Q : VK) (u : Value) (s' : Shared) : Prop :=
 ∃ v H', s'.os = s.os ∧ AllBare s'.gens ∧ Un (frs outer) [] H H' s.heap s'.heap ∧ HOk P w H' s'.heap ∧ RelV v u ∧ Q v H'
def CR (CX : CXT) (outer : List Env) (P : Program) (w : World) (H : Hp) (s : Shared) (Q : VK) (E : XK) (r : Result) (s' : Shared) : Prop :=
 match r with
 | .ok (.ret u) => CE outer P w H s Q u s'
 | .ok _ => False
 | .error e => CX outer H s E e s'
structure FnOk (P : Program) (w : World) (K : PySem.W.Frag) (mg : Str → Option Value) (base : Heap) (CX : CXT) (k : Nat) (f : Addr) (fd : FuncData) (ps : List Str) (sp : Sp) : Prop where
 len : ∀ vs H Q E, sp vs H Q E → vs.length = ps.length
 run : ∀ (A : Around) (outer : List Env) (s : Shared) (H : Hp) (args : Args) (us : List Value) (vs : List V) (Q : VK) (E : XK), Room k A → Env0 P w K mg base A outer s H → BindsTo s fd args (ps.zip us) → Vals vs us → sp vs H Q E →
  codeAny (model P w) A (.call (.ref f) args) (CR CX outer P w H s Q E) s
section
variable {X : Cx} {pins : List (Addr × Obj)} {σ : St} {H : Hp} {s s' : Shared}
theorem Inv.env0 (I : Inv X pins σ H s) : Env0 X.prog X.w X.K X.mg X.base X.A X.stack s H :=
 ⟨I.ok.frames, I.ok.mod, I.bs, Nat.le_trans I.ok.bsz I.sz, I.stack, I.stkFree, I.hok, I.bare⟩
theorem Inv.after {Q : VK} {u : Value} (I : Inv X pins σ H s) (h : CE X.stack X.prog X.w H s Q u s') : EP X pins σ Q u s' := by
 obtain ⟨v, H', os, bare, un, hok, r, q⟩ := h
 obtain ⟨hh, g, d, t, os'⟩ := s'
 obtain rfl : os' = s.os := os
 exact ⟨v, H', I.call (h' := hh) (g' := g) (d' := d) (t' := t) (ch := []) un hok bare (fun b z => absurd z (by simp)), r, q⟩
end
def tCall (sp : Sp) (dvs : List V) (E : XK) (t : TA) : TE := fun σ H Q => t σ H fun vs H1 => sp (vs ++ dvs) H1 Q E
def Binds (K : PySem.W.Frag) (fd : FuncData) (ps : List Str) (ds : List Value) : Prop :=
 ∀ (s : Shared) (us : List Value), K.In s.heap → (us ++ ds).length = ps.length → BindsTo s fd ⟨us, []⟩ (ps.zip (us ++ ds))
theorem Binds.all {K : PySem.W.Frag} {fd : FuncData} {ps : List Str} (h : ∀ us : List Value, us.length = ps.length → bindArgs fd ⟨us, []⟩ = pure (ps.zip us)) : Binds K fd ps [] := fun s us _ hl => by
 rw [List.append_nil] at hl ⊢
 exact .of_eq (h us hl)
def Passes (CX : CXT) (X : Cx) (E : XK) : Prop := ∀ (pins : List (Addr × Obj)) (σ : St) (H : Hp) (s : Shared) (e : Value) (s' : Shared), Inv X pins σ H s → CX X.stack H s E e s' → X.xe e s'
section
variable {X : Cx} {CX : CXT} {k : Nat} {f C : Addr} {fd : FuncData} {ps : List Str} {sp : Sp} {dvs : List V} {ds : List Value} {E : XK} {x m : Str} {p pos apos : Pos} {e o : Expr} {es : List Expr} {ta : TE} {t : TA}
theorem run_fn {pins : List (Addr × Obj)} {σ : St} {H : Hp} {s : Shared} {Q : VK} {us : List Value} {vs : List V} (F : FnOk X.prog X.w X.K X.mg X.base CX k f fd ps sp) (hr : Room k X.A) (hb : Binds X.K fd ps ds) (hd : Vals dvs ds) (hx : Passes CX X E)
  (I : Inv X pins σ H s) (r : Vals vs us) (h : sp (vs ++ dvs) H Q E) : wpAny (model X.prog X.w) X.A (call (.ref f) us) (EP X pins σ Q) X.xe s := by
 have r2 : Vals (vs ++ dvs) (us ++ ds) := r.append hd
 have hl : (us ++ ds).length = ps.length := by rw [← r2.length]; exact F.len _ _ _ _ h
 refine wpAny_call (codeAny_mono (F.run X.A X.stack s H ⟨us, []⟩ (us ++ ds) (vs ++ dvs) Q E hr I.env0 (hb s us I.kIn hl) r2 h) fun r s' hq => ?_)
 cases r with
 | error e => exact hx pins σ H s e s' I hq
 | ok fl =>
  cases fl with
  | ret u => exact I.after hq
  | next => exact False.elim hq
  | brk => exact False.elim hq
  | cont => exact False.elim hq
theorem pe_call (F : FnOk X.prog X.w X.K X.mg X.base CX k f fd ps sp) (hr : Room k X.A) (hg : Gl X x) (hm : X.mg x = some (.ref f)) (hk : PySem.W.keepIn X.K (.ref f) = true) (hb : Binds X.K fd ps ds) (hd : Vals dvs ds) (hx : Passes CX X E)
  (ha : PA X (e :: es) t) (hdb : (x == ("__debug__" : Str)) = false := by decide) (he : starEach (e :: es) X.env = (false, eval e X.env) :: starEach es X.env := by rfl) (hpl : (backTo pos (starEach es X.env)).any (·.1) = false := by rfl) :
  PE X (.Call (.Name x p) (e :: es) [] pos) (tCall sp dvs E t) := by
 intro pins s σ H Q I h
 refine wpAny_Call_Name_kw (ld_glob I hg hm ?_ hdb)
 refine PySem.W.callWith_K (h₀ := X.base) I.ok.mod.kin hk (thn (ha pos pins s σ H _ I h) fun us s1 ⟨vs, H1, I1, r, q⟩ => ⟨I1.kIn, ?_⟩) he hpl
 exact run_fn F hr hb hd hx I1 r q
end
structure FnScope (N P : List Str) (sc : Scope) : Prop where
 kind : sc.kind = .function
 co : sc.isCoroutine = false
 gen : sc.isGenerator = false
 nd : N.Nodup
 pre : N.take P.length = P
 par : ∀ x ∈ P, sc.names.lookup x = some .local ∨ sc.names.lookup x = some .cell
 nofree : ∀ y ∈ sc.names, y.2 ≠ .free
theorem bindL_out {kindOf : Str → Option NameKind} {x : Str} : ∀ {binds : List (Str × Value)} {m : Str → Option Value}, (∀ v, (x, v) ∉ binds) → bindL kindOf binds m x = m x
 | [], _, _ => rfl
 | (n, v) :: r, m, h => by
  unfold bindL
  rw [bindL_out fun w hw => h w (List.mem_cons_of_mem _ hw)]
  split
  ·have : x ≠ n := by rintro rfl; exact h v List.mem_cons_self
   simp [this]
  ·rfl
theorem bindC_out {kindOf : Str → Option NameKind} {x : Str} : ∀ {binds : List (Str × Value)} {m : Str → Option Value}, (∀ v, (x, v) ∉ binds) → bindC kindOf binds m x = m x
 | [], _, _ => rfl
 | (n, v) :: r, m, h => by
  unfold bindC
  rw [bindC_out fun w hw => h w (List.mem_cons_of_mem _ hw)]
  split
  ·rfl
  ·have : x ≠ n := by rintro rfl; exact h v List.mem_cons_self
   simp [this]
theorem bindL_get {kindOf : Str → Option NameKind} {x : Str} {v : Value} : ∀ {P : List Str} {vs : List Value} {i : Nat} {m : Str → Option Value}, P.Nodup → P[i]? = some x → vs[i]? = some v → kindOf x = some .local →
  bindL kindOf (P.zip vs) m x = some v
 | [], _, _, _, _, h, _, _ => by simp at h
 | _ :: _, [], _, _, _, _, h, _ => by simp at h
 | p :: P, w :: vs, 0, m, nd, h1, h2, hk => by
  simp at h1 h2; subst h1; subst h2
  show bindL kindOf ((p, w) :: P.zip vs) m p = _
  unfold bindL
  rw [bindL_out fun v hv => (List.nodup_cons.mp nd).1 (List.of_mem_zip hv).1, if_pos hk]
  simp
 | p :: P, w :: vs, i + 1, m, nd, h1, h2, hk => by
  show bindL kindOf ((p, w) :: P.zip vs) m x = _
  unfold bindL
  exact bindL_get (i := i) (List.nodup_cons.mp nd).2 (by simpa using h1) (by simpa using h2) hk
theorem bindC_get {kindOf : Str → Option NameKind} {x : Str} {v : Value} : ∀ {P : List Str} {vs : List Value} {i : Nat} {m : Str → Option Value}, P.Nodup → P[i]? = some x → vs[i]? = some v → kindOf x ≠ some .local →
  bindC kindOf (P.zip vs) m x = some v
 | [], _, _, _, _, h, _, _ => by simp at h
 | _ :: _, [], _, _, _, _, h, _ => by simp at h
 | p :: P, w :: vs, 0, m, nd, h1, h2, hk => by
  simp at h1 h2; subst h1; subst h2
  show bindC kindOf ((p, w) :: P.zip vs) m p = _
  unfold bindC
  rw [bindC_out fun v hv => (List.nodup_cons.mp nd).1 (List.of_mem_zip hv).1, if_neg hk]
  simp
 | p :: P, w :: vs, i + 1, m, nd, h1, h2, hk => by
  show bindC kindOf ((p, w) :: P.zip vs) m x = _
  unfold bindC
  exact bindC_get (i := i) (List.nodup_cons.mp nd).2 (by simpa using h1) (by simpa using h2) hk
def start (N : List Str) (vs : List V) : St := vs.map some ++ List.replicate (N.length - vs.length) none
def cxOf (CX : CXT) (P : Program) (w : World) (K : PySem.W.Frag) (mg : Str → Option Value) (base : Heap) (N : List Str) (qual : Str) (scope : Scope) (f : Addr) (cd : Value) (A : Around) (outer : List Env) (s : Shared) (H : Hp) (E : XK) : Cx where
 prog := P
 w := w
 K := K
 mg := mg
 base := base
 A := A.deeper (envOfC qual scope s.heap.objs.size f cd)
 N := N
 s₀ := s
 H₀ := H
 env := envOfC qual scope s.heap.objs.size f cd
 outer := outer
 stack := envOfC qual scope s.heap.objs.size f cd :: outer
 ex := []
 calm := true
 fn := fun _ => true
 pn := []
 xe := fun e s' => wpAny (model P w) (A.deeper (envOfC qual scope s.heap.objs.size f cd)) (leaving (envOfC qual scope s.heap.objs.size f cd) e) (fun _ s'' => CX outer H s E e s'') (fun e' s'' => CX outer H s E e' s'') s'
theorem cell_has {sc : Scope} {n : Nat} {x : Str} (h : sc.names.lookup x = some .cell) : ∃ c, (cellsFrom n sc.names []).lookup x = some c := by
 have q := PySem.W.cellsFrom_some sc.names n [] (.inl h)
 exact Option.isSome_iff_exists.mp q
theorem inv_start {CX : CXT} {P : Program} {w : World} {K : PySem.W.Frag} {mg : Str → Option Value} {base : Heap} {N ps : List Str} {qual : Str} {scope : Scope} {f : Addr} {cd : Value} {A : Around} {outer : List Env} {s s1 : Shared} {H : Hp} {E : XK} {us : List Value} {vs : List V}
  (S : FnScope N ps scope) (hd : A.handled = none) (e0 : Env0 P w K mg base A outer s H) (hl : vs.length = ps.length) (r : Vals vs us)
  (x : InCallC s s.heap.objs.size (bindL (envOfC qual scope s.heap.objs.size f cd).kindOf (ps.zip us) fun _ => none) (cellsFrom (s.heap.objs.size + 1) scope.names []) (bindC (envOfC qual scope s.heap.objs.size f cd).kindOf (ps.zip us) fun _ => none) s1) :
  Inv (cxOf CX P w K mg base N qual scope f cd A outer s H E) [] (start N vs) H s1 := by
 have hpl : ps.length ≤ N.length := by have := congrArg List.length S.pre; rw [List.length_take] at this; omega
 obtain ⟨h1, tk, rfl, hk⟩ := x.done
 have noA : ∀ b : Addr, b ∉ (cxOf CX P w K mg base N qual scope f cd A outer s H E).ex := fun b z => absurd (show b ∈ ([] : List Addr) from z) (by simp)
 refine ⟨⟨e0.mod, S.kind, rfl, rfl, Nat.le_refl _, fun y z c h1 h2 => ?_, fun y hy => ?_, fun y c _ h => ?_, fun _ => hd, Around.frames_deeper e0.frames, .inr ⟨rfl, rfl⟩, fun b z => absurd z (noA b), e0.bs, e0.bsz, fun b _ _ => noA b, fun b z => absurd z (noA b), e0.funs, e0.frf⟩,
  rfl, e0.bare, Un.kept hk, ⟨_, x.toInCall.ns, fun i y v h1 h2 h3 => ?_⟩, fun y c h => ⟨_, x.cell y c h⟩, e0.hok.fresh (Nat.le_refl _), fun y c h => ?_, fun p hp => absurd (show p ∈ ([] : List (Addr × Obj)) from hp) (by simp), e0.hok.kept hk, ?_⟩
 ·exact name_of_addr x.apart (PySem.mem_of_lookup h1) (PySem.mem_of_lookup h2)
 ·have hy : scope.names.lookup y = some .cell ∨ scope.names.lookup y = some .free := hy
  rcases hy with hy | hy
  ·exact cell_has hy
  ·exact absurd rfl (S.nofree _ (PySem.mem_of_lookup hy))
 ·exact Nat.le_of_lt (x.above y c (PySem.mem_of_lookup h))
 ·have hi : i < vs.length := by
   unfold start at h2
   by_cases hi : i < vs.length
   ·exact hi
   ·rw [List.getElem?_append_right (by simpa using hi)] at h2
    rw [List.getElem?_replicate] at h2
    split at h2 <;> cases h2
  have ha : vs[i]? = some v := by
   unfold start at h2
   rw [List.getElem?_append_left (by simpa using hi), List.getElem?_map] at h2
   cases e : vs[i]? with
   | none => rw [e] at h2; cases h2
   | some a => rw [e] at h2; cases h2; rfl
  obtain ⟨u, hu, rv⟩ := r.get ha
  have hp : ps[i]? = some y := by
   rw [← S.pre, List.getElem?_take_of_lt (by omega)]; exact h1
  have ndP : ps.Nodup := by rw [← S.pre]; exact S.nd.sublist (List.take_sublist _ _)
  refine ⟨u, rv, ?_⟩
  rcases S.par y (List.mem_of_getElem? hp) with k | k
  ·exact .inl ⟨k, bindL_get ndP hp hu k⟩
  ·obtain ⟨c, e⟩ := cell_has (n := s.heap.objs.size + 1) k
   refine .inr ⟨.inl k, c, e, ?_⟩
   have q := x.cell y c e
   rw [bindC_get ndP hp hu (by show scope.names.lookup y ≠ _; rw [k]; decide)] at q
   exact q
 ·exact e0.hok.fresh (Nat.le_of_lt (x.above y c (PySem.mem_of_lookup h)))
 ·unfold start
  show _ = N.length
  rw [List.length_append, List.length_map, List.length_replicate]
  omega
theorem fn_of {CX : CXT} {P : Program} {w : World} {K : PySem.W.Frag} {mg : Str → Option Value} {base : Heap} {k : Nat} {f : Addr} {name qual : Str} {params : Arguments} {body : List Stmt} {scope : Scope} {dV kV doc pm cdv ct oc : Value} {an od : Option Addr}
  {osl : Array (Option Value)} {N ps : List Str} {sp : Sp} (lk : K.lookup f = some ⟨oc, od, .func (PySem.W.fnOf name qual params body scope dV kV doc pm an cdv ct), osl⟩) (hcd : PySem.W.codeIn K cdv qual = true) (S : FnScope N ps scope)
  (len : ∀ vs H Q E, sp vs H Q E → vs.length = ps.length)
  (hbody : ∀ (A : Around) (outer : List Env) (s : Shared) (H : Hp) (vs : List V) (Q : VK) (E : XK), Room k (A.deeper (envOfC qual scope s.heap.objs.size f cdv)) → sp vs H Q E →
   ∃ t, PSs (cxOf CX P w K mg base N qual scope f cdv A outer s H E) body t ∧ t { nx := fun _ H' => Q .non H', rt := Q } (start N vs) H) :
  FnOk P w K mg base CX (k + 1) f (PySem.W.fnOf name qual params body scope dV kV doc pm an cdv ct) ps sp := by
 refine ⟨len, fun A outer s H args us vs Q E hr e0 hb r hsp => ?_⟩
 have hl := len _ _ _ _ hsp
 have KX : K.In s.heap := e0.mod.kin.keeps fun b o e => (e0.bs b o e).1
 have lim : s.heap.NoLimit := e0.mod.nolimit.keeps fun b o e => (e0.bs b o e).1
 have hkind : ∀ y ∈ ps.zip us, scope.names.lookup y.1 = some .local ∨ (scope.names.lookup y.1 = some .cell ∧ ((cellsFrom (s.heap.objs.size + 1) scope.names []).lookup y.1).isSome = true) := fun ⟨n, v⟩ hy => by
  rcases S.par n (List.of_mem_zip hy).1 with q | q
  ·exact .inl q
  ·exact .inr ⟨q, PySem.W.cellsFrom_some _ _ _ (.inl q)⟩
 refine codeAny_call_function hr.depth (KX _ _ lk) rfl S.co S.gen rfl (PySem.W.codeRec_of KX hcd) (hb _ _ _ _ ?_)
 refine wpAny_newFunctionEnv_cells S.kind hkind fun env he s1 x => ?_
 subst he
 refine ⟨lim.keeps x.toInCall.keep, codeAny_func ?_⟩
 obtain ⟨t, ht, hq⟩ := hbody A outer s H vs Q E (hr.deeper _) hsp
 have I : Inv (cxOf CX P w K mg base N qual scope f cdv A outer s H E) [] (start N vs) H s1 := inv_start S hr.hd e0 hl r x
 refine wpAny_mono (ht [] s1 (start N vs) H _ I hq) (fun fl s' hs => ?_) fun e s' hs => hs
 have fin : ∀ {σ' : St} {H' : Hp} {v : V} {u : Value}, Inv (cxOf CX P w K mg base N qual scope f cdv A outer s H E) [] σ' H' s' → RelV v u → Q v H' → CE outer P w H s Q u s' :=
  fun {σ' H' v u} J rv q => ⟨v, H', J.os, J.bare, J.base, J.hok, rv, q⟩
 cases fl with
 | ret u =>
  obtain ⟨v, σ', H', J, rv, q⟩ := hs
  exact fin J rv q
 | next =>
  obtain ⟨σ', H', J, q⟩ := hs
  exact fin (v := V.non) (u := Value.none) J rfl q
 | brk =>
  obtain ⟨_, _, _, q⟩ := hs
  exact False.elim q
 | cont =>
  obtain ⟨_, _, _, q⟩ := hs
  exact False.elim q
section
variable {X : Cx} {x : Str} {p pos : Pos} {e : Expr} {es : List Expr} {t : TA} {id T : String} {r : List V → Hp → VK → Prop}
def tCB (r : List V → Hp → VK → Prop) (t : TA) : TE := fun σ H Q => t σ H fun vs H1 => r vs H1 Q
theorem pe_callB (hc : CallR X (.builtin id) r) (hg : Gl X x) (hm : X.mg x = none) (hv : bootBuiltins x = some (.builtin id)) (ha : PA X (e :: es) t) (hn : x ≠ "__name__" := by decide) (hdb : (x == ("__debug__" : Str)) = false := by decide)
  (he : starEach (e :: es) X.env = (false, eval e X.env) :: starEach es X.env := by rfl) (hpl : (backTo pos (starEach es X.env)).any (·.1) = false := by rfl) : PE X (.Call (.Name x p) (e :: es) [] pos) (tCB r t) := by
 intro pins s σ H Q I h
 refine wpAny_Call_Name_kw (ld_blt I hg hm hv ?_ hn hdb)
 exact PyProof.Rows.callWith_builtin1 (thn (ha pos pins s σ H _ I h) fun us s1 ⟨vs, H1, I1, r1, q1⟩ => hc pins s1 σ H1 vs us Q I1 r1 q1) he hpl
theorem pe_callTy (hc : CallR X (.type T) r) (hg : Gl X x) (hm : X.mg x = none) (hv : bootBuiltins x = some (.type T)) (ha : PA X (e :: es) t) (hn : x ≠ "__name__" := by decide) (hdb : (x == ("__debug__" : Str)) = false := by decide)
  (he : starEach (e :: es) X.env = (false, eval e X.env) :: starEach es X.env := by rfl) (hpl : (backTo pos (starEach es X.env)).any (·.1) = false := by rfl) : PE X (.Call (.Name x p) (e :: es) [] pos) (tCB r t) := by
 intro pins s σ H Q I h
 refine wpAny_Call_Name_kw (ld_blt I hg hm hv ?_ hn hdb)
 exact PyProof.Rows.callWith_type1 (thn (ha pos pins s σ H _ I h) fun us s1 ⟨vs, H1, I1, r1, q1⟩ => hc pins s1 σ H1 vs us Q I1 r1 q1) he hpl
end
end L2
namespace HT
open PySem PyProof.Rows
section
variable {prog : Program} {w : World} {A : Around} {E : Value → Shared → Prop} {s : Shared}
def sIx (n d : Nat) : Option Int → Nat
 | none => d
 | some v => if v < 0 then (v + (n : Int)).toNat else min v.toNat n
theorem sIx_nat (n d k : Nat) : sIx n d (some (k : Int)) = min k n := by
 show (if (k : Int) < 0 then ((k : Int) + (n : Int)).toNat else min (k : Int).toNat n) = min k n
 rw [if_neg (by omega), Int.toNat_natCast]
end
end HT
namespace L2
open PySem PySem.Spec PyProof.Rows
abbrev TO := St → Hp → (Option Int → Hp → Prop) → Prop
def PO (X : Cx) (e : Option Expr) (t : TO) : Prop :=
 ∀ (pins : List (Addr × Obj)) (s : Shared) (σ : St) (H : Hp) (Q : Option Int → Hp → Prop), Inv X pins σ H s → t σ H Q →
  wpAny (model X.prog X.w) X.A (evalPart e X.env) (fun u s' => ∃ o H', Inv X pins σ H' s' ∧ IsPart u o ∧ Q o H') X.xe s
def tNoPart : TO := fun _ H Q => Q none H
def tPart (t : TE) : TO := fun σ H Q => t σ H fun x H1 => ∃ i, x = .int i ∧ Q (some i) H1
section
variable {X : Cx} {e : Expr} {te : TE} {lo hi : Option Expr} {tl th : TO} {pos p2 : Pos}
theorem po_none : PO X none tNoPart := by
 intro pins s σ H Q I h
 rw [evalPart_none]
 exact wpAny_pure ⟨none, H, I, .none, h⟩
theorem po_some (h : PE X e te) : PO X (some e) (tPart te) := by
 intro pins s σ H Q I hw
 rw [evalPart_some]
 refine thn (h pins s σ H _ I hw) fun u s1 ⟨x, H1, I1, r1, q1⟩ => ?_
 obtain ⟨i, rfl, q⟩ := q1
 obtain ⟨t, rfl⟩ := r1
 exact ⟨some i, H1, I1, .int i t, q⟩
def SlR (X : Cx) (r : V → Option Int → Option Int → Hp → VK → Prop) : Prop :=
 ∀ (pins : List (Addr × Obj)) (s : Shared) (σ : St) (H : Hp) (x : V) (v vl vu : Value) (lo hi : Option Int) (sl : Addr) (Q : VK), Inv X pins σ H s → RelV x v → s.heap.IsSliceOf sl vl vu .none → IsPart vl lo → IsPart vu hi → r x lo hi H Q →
  ∃ T id, typeLookup (.type T) "__getitem__" = pure (some (.builtin id)) ∧ s.TypeIs v T ∧ wpAny (model X.prog X.w) X.A (getItem v (.ref sl)) (EP X pins σ Q) X.xe s
def tSl (r : V → Option Int → Option Int → Hp → VK → Prop) (te : TE) (tl th : TO) : TE := fun σ H Q => te σ H fun x H1 => tl σ H1 fun l H2 => th σ H2 fun u H3 => r x l u H3 Q
theorem pe_slice {r : V → Option Int → Option Int → Hp → VK → Prop} (hr : SlR X r) (he : PE X e te) (hl : PO X lo tl) (hu : PO X hi th) : PE X (.Subscript e (.Slice lo hi none p2) pos) (tSl r te tl th) := by
 intro pins s σ H Q I h
 refine Subscript_ (thn (he pins s σ H _ I h) fun v s1 ⟨x, H1, I1, r1, q1⟩ => ?_)
 refine wpAny_Slice (thn (hl pins s1 σ H1 _ I1 q1) fun vl s2 ⟨l, H2, I2, pl, q2⟩ => thn (hu pins s2 σ H2 _ I2 q2) fun vu s3 ⟨u, H3, I3, pu, q3⟩ => ?_)
 rw [evalPart_none]
 refine wpAny_pure ?_
 have I4 : Inv X pins σ H3 { s3 with heap := s3.heap.push { cls := .type "slice", data := .fields #[vl, vu, .none] } } := I3.kept (t' := s3.toks) fun b ob q => Heap.get?_push_of_some _ q
 obtain ⟨T, id, hT, ht, hg⟩ := hr pins { s3 with heap := s3.heap.push { cls := .type "slice", data := .fields #[vl, vu, .none] } } σ H3 x v vl vu l u s3.heap.objs.size Q I4 r1 (Heap.IsSliceOf.new ..) pl pu q3
 show wpAny (model X.prog X.w) X.A (subscriptTail e (.Slice lo hi none p2) v (.ref s3.heap.objs.size)) (EP X pins σ Q) X.xe { s3 with heap := s3.heap.push { cls := .type "slice", data := .fields #[vl, vu, .none] } }
 exact tail_any (ops := [.ref s3.heap.objs.size, v]) ht hT hg (by with_unfolding_all rfl)
def cutV (xs : List V) (lo hi : Option Int) : List V := (xs.drop (HT.sIx xs.length 0 lo)).take (HT.sIx xs.length xs.length hi - HT.sIx xs.length 0 lo)
theorem cutV_length (xs : List V) (lo hi : Option Int) : (cutV xs lo hi).length ≤ xs.length := by
 unfold cutV
 rw [List.length_take, List.length_drop]
 omega
end
def ixN (n : Nat) (i : Int) : Option Nat := if 0 ≤ i then (if i < n then some i.toNat else none) else if -(n : Int) ≤ i then some (i + n).toNat else none
def atI {α : Type} (xs : List α) (i : Int) : Option α := (ixN xs.length i).bind fun j => xs[j]?
theorem ixN_seq {n : Nat} {i : Int} {j : Nat} (h : ixN n i = some j) : seqIndex? i n = some j ∧ j < n ∧ -(n : Int) ≤ i ∧ i < n := by
 unfold ixN at h
 by_cases h0 : 0 ≤ i
 ·rw [if_pos h0] at h
  by_cases h1 : i < n
  ·rw [if_pos h1] at h
   have e : i.toNat = j := Option.some.inj h
   exact ⟨by rw [seqIndex_of h0 h1, e], by omega, by omega, h1⟩
  ·rw [if_neg h1] at h; cases h
 ·rw [if_neg h0] at h
  by_cases h1 : -(n : Int) ≤ i
  ·rw [if_pos h1] at h
   have e : (i + n).toNat = j := Option.some.inj h
   exact ⟨by rw [seqIndex_neg (by omega) h1, e], by omega, h1, by omega⟩
  ·rw [if_neg h1] at h; cases h
theorem atI_get {α : Type} {xs : List α} {i : Int} {v : α} (h : atI xs i = some v) : ∃ j, seqIndex? i xs.length = some j ∧ xs[j]? = some v ∧ j < xs.length ∧ -(xs.length : Int) ≤ i ∧ i < xs.length := by
 unfold atI at h
 cases e : ixN xs.length i with
 | none => rw [e] at h; cases h
 | some j =>
  rw [e] at h
  obtain ⟨h1, h2, h3, h4⟩ := ixN_seq e
  exact ⟨j, h1, h, h2, h3, h4⟩
theorem atI_nat {α : Type} {xs : List α} {j : Nat} {v : α} (h : xs[j]? = some v) : atI xs (j : Int) = some v := by
 have hj : j < xs.length := (List.getElem?_eq_some_iff.mp h).1
 have e : ixN xs.length (j : Int) = some j := by
  unfold ixN
  rw [if_pos (by omega), if_pos (by omega)]; simp
 unfold atI; rw [e]; exact h
def PlainIx (b : Expr) : Prop := ∀ o i, subscripted b false o i = operate [o, i] (getItem o i)
def IxR (X : Cx) (r : R2) : Prop :=
 ∀ (value slice : Expr) (pins : List (Addr × Obj)) (s : Shared) (σ : St) (H : Hp) (x y : V) (v u : Value) (Q : VK), Inv X pins σ H s → RelV x v → RelV y u → r x y H Q →
  subscripted slice false v u = operate [v, u] (getItem v u) → wpAny (model X.prog X.w) X.A (subscriptTail value slice v u) (EP X pins σ Q) X.xe s
def MtR (X : Cx) (id : String) (r : V → List V → Hp → VK → Prop) : Prop :=
 ∀ (pins : List (Addr × Obj)) (s : Shared) (σ : St) (H : Hp) (x : V) (xs : List V) (v : Value) (us : List Value) (Q : VK), Inv X pins σ H s → RelV x v → Vals xs us → r x xs H Q →
  wpAny (model X.prog X.w) X.A (call (.builtin id) (v :: us)) (EP X pins σ Q) X.xe s
section
variable {X : Cx} {a b : Expr} {ta tb : TE} {pos : Pos}
theorem pe_ix {r : R2} (hr : IxR X r) (ha : PE X a ta) (hb : PE X b tb) (hs : PlainIx b) : PE X (.Subscript a b pos) (tOp r ta tb) := by
 intro pins s σ H Q I h
 exact Subscript_ (binT ha hb I h fun v u s2 x y H2 I2 rx ry q => hr a b pins s2 σ H2 x y v u Q I2 rx ry q (hs _ _))
def rIxL (K : PySem.W.Frag) : R2 := fun x y H Q => ∃ p xs i v, x = .ref p ∧ y = .int i ∧ SqL K H p xs ∧ atI xs i = some v ∧ Q v H
def rIxT (K : PySem.W.Frag) : R2 := fun x y H Q => ∃ p xs i v, x = .ref p ∧ y = .int i ∧ SqT K H p xs ∧ atI xs i = some v ∧ Q v H
theorem ix_list : IxR X (rIxL X.K) := by
 intro value slice pins s σ H x y v u Q I rx ry h hs
 obtain ⟨p, xs, i, z, rfl, rfl, hq, he, q⟩ := h
 cases rx
 obtain ⟨t, rfl⟩ := ry
 obtain ⟨its, r, pl, hz⟩ := I.list hq
 obtain ⟨j, h1, h2, h3, h4, h5⟩ := atI_get he
 obtain ⟨w, ew, rw'⟩ := r.get h2
 have hl := r.length
 have hn := line63
 have fin : EP X pins σ Q w s := ⟨z, H, I, rw', q⟩
 by_cases h0 : 0 ≤ i
 ·have hj : i.toNat = j := by
   rw [seqIndex_of h0 h5] at h1
   exact Option.some.inj h1
  exact item_listR pl.isList h0 (by omega) (by rw [hj]; simpa using ew) fin hs
 ·have hj : (i + (its.toArray.size : Int)).toNat = j := by
   rw [seqIndex_neg (by omega) h4] at h1
   rw [List.size_toArray, ← hl]
   exact Option.some.inj h1
  exact subscriptTail_builtinR (x := w) pl.isList.typeIs slot_list_getitem.lookup
   (wpAny_getItem_list_neg (Q := fun r s' => r = w ∧ EP X pins σ Q r s') pl.isList (by omega) (by rw [List.size_toArray] <;> omega) (by omega) (by rw [hj]; simpa using ew) ⟨rfl, fin⟩) hs
theorem ix_tup : IxR X (rIxT X.K) := by
 intro value slice pins s σ H x y v u Q I rx ry h hs
 obtain ⟨p, xs, i, z, rfl, rfl, hq, he, q⟩ := h
 cases rx
 obtain ⟨t, rfl⟩ := ry
 obtain ⟨its, r, pl, hz⟩ := I.tuple hq
 obtain ⟨j, h1, h2, h3, h4, h5⟩ := atI_get he
 obtain ⟨w, ew, rw'⟩ := r.get h2
 have hl := r.length
 have hn := line63
 have fin : EP X pins σ Q w s := ⟨z, H, I, rw', q⟩
 exact subscriptTail_builtinR (x := w) pl.typeIs slot_tuple_getitem.lookup
  (getItem_tuple (j := j) (Q := fun r s' => r = w ∧ EP X pins σ Q r s') pl (by omega) (by omega) (by rw [List.size_toArray, ← hl]; exact h1) (by simpa using ew) ⟨rfl, fin⟩) hs
theorem mapSeq_set (its : List Value) (n j : Nat) (u : Value) : Obj.mapSeq (·.setIfInBounds j u) { cls := .type "list", data := .seq its.toArray n } = { cls := .type "list", data := .seq (its.set j u).toArray n } := by
 simp [Obj.mapSeq]
theorem Inv.lst {pins : List (Addr × Obj)} {σ : St} {H : Hp} {s : Shared} {p : Addr} {xs : List V} (I : Inv X pins σ H s) (h : H p = some (.lst xs)) :
  ∃ (its : List Value) (n : Nat), Vals xs its ∧ s.heap.get? p = some { cls := .type "list", data := .seq its.toArray n } ∧ xs.length ≤ sizeLine := by
 obtain ⟨z, its, n, r, e⟩ := I.hok p _ h
 exact ⟨its, n, r, e, z⟩
theorem Inv.lstUpd {pins : List (Addr × Obj)} {σ : St} {H : Hp} {s : Shared} {p : Addr} {xs ys : List V} {its its' : List Value} {n n' : Nat} {f : Obj → Obj} (I : Inv X pins σ H s) (h : H p = some (.lst xs))
  (ho : s.heap.get? p = some { cls := .type "list", data := .seq its.toArray n }) (hf : f { cls := .type "list", data := .seq its.toArray n } = { cls := .type "list", data := .seq its'.toArray n' }) (r : Vals ys its') (hz : ys.length ≤ sizeLine) (t : Nat) :
  Inv X pins σ (upd H p (.lst ys)) { s with heap := s.heap.update p f, toks := t } := by
 have e : (s.heap.update p f).get? p = some { cls := .type "list", data := .seq its'.toArray n' } := by
  rw [Heap.get?_update_self f ho (by rw [hf] <;> rfl), hf]
 refine I.write (x := p) (e := p) (by rw [h]; trivial) (.inl rfl) (fun b u hb q => (Heap.get?_update_other _ _ (Ne.symm hb)).trans q) ⟨_, e⟩ ?_
 exact ⟨hz, its', n', r, e⟩
def rSetL : V → V → V → Hp → (Hp → Prop) → Prop := fun o i v H Q => ∃ p xs k j, o = .ref p ∧ i = .int k ∧ H p = some (.lst xs) ∧ ixN xs.length k = some j ∧ Q (upd H p (.lst (xs.set j v)))
theorem set_list : PSet X rSetL := by
 intro pins s σ H o i v ov iv u Q I ro ri rv h
 obtain ⟨p, xs, k, j, rfl, rfl, hp, hj, q⟩ := h
 cases ro
 obtain ⟨t, rfl⟩ := ri
 obtain ⟨its, n, r, ho, hz⟩ := I.lst hp
 obtain ⟨h1, h2, h3, h4⟩ := ixN_seq hj
 have hl := r.length
 have hn := line63
 have I' : Inv X pins σ (upd H p (.lst (xs.set j v))) { s with heap := s.heap.update p (Obj.mapSeq (·.setIfInBounds j u)) } :=
  I.lstUpd hp ho (mapSeq_set its n j u) (r.set rv j) (by rw [List.length_set]; exact hz) s.toks
 by_cases h0 : 0 ≤ k
 ·have hk : k.toNat = j := by
   rw [seqIndex_of h0 h4] at h1
   exact Option.some.inj h1
  exact PySem.W.ki_setAt ho h0 (by omega) (by rw [List.size_toArray, ← hl]; exact h4) (by rw [hk]; exact ⟨_, I', q⟩)
 ·have hk : (k + (its.toArray.size : Int)).toNat = j := by
   rw [seqIndex_neg (by omega) h3] at h1
   rw [List.size_toArray, ← hl]
   exact Option.some.inj h1
  exact PySem.W.ki_setBack ho (by omega) (by rw [List.size_toArray, ← hl]; exact h3) (by omega) (by rw [hk]; exact ⟨_, I', q⟩)
theorem slice_bounds (lo hi : Option Int) (n : Nat) : (sliceBounds lo hi none n).1 = ((HT.sIx n 0 lo : Nat) : Int) ∧ (sliceBounds lo hi none n).2.1 = ((HT.sIx n n hi : Nat) : Int) ∧ (sliceBounds lo hi none n).2.2 = 1 := by
 refine ⟨?_, ?_, rfl⟩
 ·cases lo with
  | none => simp [sliceBounds, HT.sIx]
  | some i =>
   simp only [sliceBounds, HT.sIx, Option.getD_none, show (1 : Int) > 0 by decide, if_true]
   by_cases h : i < 0
   ·simp only [h, if_true] <;> omega
   ·simp only [h, if_false] <;> omega
 ·cases hi with
  | none => simp [sliceBounds, HT.sIx]
  | some i =>
   simp only [sliceBounds, HT.sIx, Option.getD_none, show (1 : Int) > 0 by decide, if_true]
   by_cases h : i < 0
   ·simp only [h, if_true] <;> omega
   ·simp only [h, if_false] <;> omega
theorem slicePick_cut (its : List Value) (lo hi : Option Int) : slicePick its.toArray lo hi none = ((its.drop (HT.sIx its.length 0 lo)).take (HT.sIx its.length its.length hi - HT.sIx its.length 0 lo)).toArray := by
 obtain ⟨h1, h2, h3⟩ := slice_bounds lo hi its.toArray.size
 unfold slicePick
 rw [h1, h2, h3]
 simp only [sliceRange_one, pick_run, List.size_toArray] <;> rfl
def rSlL (K : PySem.W.Frag) : V → Option Int → Option Int → Hp → VK → Prop := fun x lo hi H Q => ∃ a xs, x = .ref a ∧ SqL K H a xs ∧ ∀ p, H p = none → Q (.ref p) (upd H p (.lst (cutV xs lo hi)))
theorem sl_list : SlR X (rSlL X.K) := by
 intro pins s σ H x v vl vu lo hi sl Q I rx hs pl pu h
 obtain ⟨a, xs, rfl, hx, q⟩ := h
 cases rx
 obtain ⟨its, r, ht, hz⟩ := I.list hx
 have hlen := r.length
 refine ⟨"list", _, slot_list_getitem.lookup, ht.isList.typeIs, ?_⟩
 refine wpAny_getItem_list_slice ht.isList hs pl pu .none (by simp) ?_ (by rw [List.size_toArray] <;> omega)
 rw [slicePick_cut, ← hlen]
 refine ⟨.ref s.heap.objs.size, _, I.laid (t' := s.toks) (o := .lst (cutV xs lo hi)) (fun b ob q => Heap.get?_push_of_some _ q) (Nat.le_refl _) ?_, rfl, q _ (I.hok.fresh (Nat.le_refl _))⟩
 exact ⟨Nat.le_trans (cutV_length xs lo hi) hz, _, 0, (r.drop (HT.sIx xs.length 0 lo)).take (HT.sIx xs.length xs.length hi - HT.sIx xs.length 0 lo), Heap.get?_push_size _ rfl⟩
def flatV : V → Bool
 | .non => true
 | .bl _ => true
 | .int _ => true
 | .str _ => true
 | _ => false
def eqV : V → V → Bool
 | .non, .non => true
 | .bl a, .bl b => a == b
 | .bl a, .int b => (if a then 1 else 0) == b
 | .int a, .bl b => a == (if b then 1 else 0)
 | .int a, .int b => a == b
 | .str a, .str b => a == b
 | _, _ => false
theorem eqAt_V {A : Around} {s : Shared} {y x : V} {u v : Value} (ry : RelV y u) (rx : RelV x v) (fy : flatV y = true) (fx : flatV x = true) : SeqAt.EqAt A s u v (eqV y x) := by
 cases y with
 | non =>
  cases ry
  cases x with
  | non => cases rx; exact SeqAt.EqAt.same _
  | bl b => cases rx; exact SeqAt.EqAt.none_bool b
  | int b => obtain ⟨t, rfl⟩ := rx; exact SeqAt.EqAt.none_int b t
  | str b => obtain ⟨t, rfl⟩ := rx; exact SeqAt.EqAt.none_str b t
  | _ => exact absurd (show false = true from fx) Bool.false_ne_true
 | bl a =>
  cases ry
  cases x with
  | non => cases rx; exact SeqAt.EqAt.bool_none a
  | bl b => cases rx; exact SeqAt.EqAt.bool_bool a b
  | int b => obtain ⟨t, rfl⟩ := rx; exact SeqAt.EqAt.bool_int a b t
  | str b => obtain ⟨t, rfl⟩ := rx; exact SeqAt.EqAt.bool_str a b t
  | _ => exact absurd (show false = true from fx) Bool.false_ne_true
 | int a =>
  obtain ⟨t', rfl⟩ := ry
  cases x with
  | non => cases rx; exact SeqAt.EqAt.int_none a t'
  | bl b => cases rx; exact SeqAt.EqAt.int_bool a t' b
  | int b => obtain ⟨t, rfl⟩ := rx; exact SeqAt.EqAt.int_int a t' b t
  | str b => obtain ⟨t, rfl⟩ := rx; exact SeqAt.EqAt.int_str a t' b t
  | _ => exact absurd (show false = true from fx) Bool.false_ne_true
 | str a =>
  obtain ⟨t', rfl⟩ := ry
  cases x with
  | non => cases rx; exact SeqAt.EqAt.str_none a t'
  | bl b => cases rx; exact SeqAt.EqAt.str_bool a t' b
  | int b => obtain ⟨t, rfl⟩ := rx; exact SeqAt.EqAt.str_int a t' b t
  | str b => obtain ⟨t, rfl⟩ := rx; exact SeqAt.EqAt.str_str a t' b t
  | _ => exact absurd (show false = true from fx) Bool.false_ne_true
 | _ => exact absurd (show false = true from fy) Bool.false_ne_true
theorem call_tuple_of : CallR X (.type "tuple") (fun xs H Q => ∃ p ys, xs = [.ref p] ∧ ((SqL X.K H p ys ∧ ∀ l, H l = none → Q (.ref l) (upd H l (.tup ys))) ∨ (SqT X.K H p ys ∧ Q (.ref p) H))) := by
 intro pins s σ H xs us Q I r h
 obtain ⟨p, ys, rfl, h⟩ := h
 obtain ⟨u, rfl, rx⟩ := vals1 r
 cases rx
 rcases h with ⟨hq, q⟩ | ⟨hq, q⟩
 ·obtain ⟨its, r', pl, hz⟩ := I.list hq
  have hlen := r'.length
  refine call_tuple_list pl.isList (fun h' kp => ?_) (by simp only [List.size_toArray] <;> omega)
  have I1 : Inv X pins σ H { s with heap := h' } := I.kept (t' := s.toks) kp
  have I2 : Inv X pins σ (upd H h'.objs.size (.tup ys)) { s with heap := h'.push { cls := .type "tuple", data := .seq its.toArray } } :=
   I1.laid (t' := s.toks) (fun b o e => Heap.get?_push_of_some _ e) (Nat.le_refl _) (show ObjOk X.prog X.w _ _ _ (.tup ys) from ⟨⟨hz, _, Heap.get?_push_size _ rfl, rfl⟩, its, r', IsTup.new _ _⟩)
  exact ⟨.ref h'.objs.size, _, I2, rfl, q _ (I1.hok.fresh (Nat.le_refl _))⟩
 ·obtain ⟨its, r', pl, hz⟩ := I.tuple hq
  exact call_tuple_same pl ⟨.ref p, H, I, rfl, q⟩
def tyV (K : PySem.W.Frag) (T : String) (x : V) (H : Hp) : Prop := match x with
 | .str _ => T = "str"
 | .int _ => T = "int"
 | .ref p => (T = "list" ∧ ∃ xs, SqL K H p xs) ∨ (T = "tuple" ∧ ∃ o, K.lookup p = some o ∧ o.cls = .type "tuple" ∧ o.dict = none) ∨
   (T = "dict" ∧ ((∃ kvs, H p = some (.dK kvs)) ∨ ∃ kvs, H p = some (.dT kvs))) ∨ (T = "set" ∧ ∃ S n, H p = some (.set S n))
 | _ => False
theorem tyV_is {pins : List (Addr × Obj)} {σ : St} {H : Hp} {s : Shared} {T : String} {x : V} {v : Value} (I : Inv X pins σ H s) (r : RelV x v) (ty : tyV X.K T x H) :
  s.TypeIs v T ∧ ∀ a, v = .ref a → ∃ ob, s.heap.get? a = some ob ∧ ob.dict = none := by
 cases x with
 | str z =>
  obtain ⟨t, rfl⟩ := r
  cases (show T = "str" from ty)
  exact ⟨typeIs_str s z t, fun _ e => nomatch e⟩
 | int i =>
  obtain ⟨t, rfl⟩ := r
  cases (show T = "int" from ty)
  exact ⟨typeIs_int s i t, fun _ e => nomatch e⟩
 | ref p =>
  cases r
  rcases ty with ⟨rfl, xs, hq⟩ | ⟨rfl, o, hk, hc, hd⟩ | ⟨rfl, hk⟩ | ⟨rfl, S, n, hk⟩
  ·obtain ⟨its, _, pl, _⟩ := I.list hq
   refine ⟨pl.isList.typeIs, fun a e => ?_⟩
   cases e
   obtain ⟨o, n, e, c, hd, _⟩ := pl
   exact ⟨o, e, hd⟩
  ·refine ⟨⟨o, I.kIn p o hk, hc⟩, fun a e => ?_⟩
   cases e
   exact ⟨o, I.kIn _ o hk, hd⟩
  ·have z : ∃ o, s.heap.get? p = some o ∧ o.ExactDict := by
    rcases hk with ⟨kvs, hk⟩ | ⟨kvs, hk⟩
    ·obtain ⟨_, _, _, _, o, _, _, e, ex, _⟩ := I.hok p _ hk
     exact ⟨o, e, ex⟩
    ·obtain ⟨_, _, _, _, o, _, _, e, ex, _⟩ := I.hok p _ hk
     exact ⟨o, e, ex⟩
   obtain ⟨o, e, ex⟩ := z
   refine ⟨⟨o, e, ex.1⟩, fun a e2 => ?_⟩
   cases e2
   exact ⟨o, e, ex.2.1⟩
  ·obtain ⟨o, _, _, _, e, ex, _⟩ := I.hok p _ hk
   refine ⟨⟨o, e, ex.1⟩, fun a e2 => ?_⟩
   cases e2
   exact ⟨o, e, ex.2.1⟩
 | _ => exact False.elim ty
def tBM0 (K : PySem.W.Frag) (T : String) (r : V → List V → Hp → VK → Prop) (to : TE) : TE := fun σ H Q => to σ H fun x H1 => tyV K T x H1 ∧ r x [] H1 Q
def tBM (K : PySem.W.Frag) (T : String) (r : V → List V → Hp → VK → Prop) (to : TE) (t : TA) : TE := fun σ H Q => to σ H fun x H1 => tyV K T x H1 ∧ t σ H1 fun xs H2 => r x xs H2 Q
variable {o e : Expr} {es : List Expr} {to : TE} {t : TA} {name : Str} {apos cpos : Pos} {T id : String} {r : V → List V → Hp → VK → Prop}
theorem pe_bm0 (pa : PlainAttrs T) (slot : Slot T name id) (hty : typeOf (.builtin id) = pure (.type "method_descriptor")) (hm : MtR X id r) (ho : PE X o to)
  (hbase : attributeBase o name X.env (eval o X.env) = eval o X.env := by rfl) (hline : (apos.endLine == cpos.line) = true := by rfl) : PE X (.Call (.Attribute o name apos) [] [] cpos) (tBM0 X.K T r to) := by
 intro pins s σ H Q I h
 refine wpAny_Call_method0_late hbase hline (thn (ho pins s σ H _ I h) fun v s1 ⟨x, H1, I1, r1, ty, q1⟩ => ?_)
 obtain ⟨h1, h2⟩ := tyV_is I1 r1 ty
 exact ⟨T, id, pa, slot, hty, h1, h2, Calls.callWith_builtin rfl (PySem.evalArgs_none (hm pins s1 σ H1 x [] v [] Q I1 r1 .nil q1))⟩
theorem pe_bm (pa : PlainAttrs T) (slot : Slot T name id) (hty : typeOf (.builtin id) = pure (.type "method_descriptor")) (hm : MtR X id r) (ho : PE X o to) (ha : PA X (e :: es) t)
  (hbase : attributeBase o name X.env (eval o X.env) = eval o X.env := by rfl)
  (hfew : ((backTo cpos (starEach (e :: es) X.env)).all (fun x => !x.1) && (backToKw cpos (keywordEach [] X.env)).all (fun x => x.1.isSome)
   && decide ((e :: es).length + ([] : List Keyword).length + (if ([] : List Keyword).isEmpty then 0 else 1) < 30)) = true := by rfl)
  (hline : (apos.endLine == cpos.line) = true := by rfl) (hs : starEach (e :: es) X.env = (false, eval e X.env) :: starEach es X.env := by rfl) (hplain : (backTo cpos (starEach es X.env)).any (·.1) = false := by rfl) :
  PE X (.Call (.Attribute o name apos) (e :: es) [] cpos) (tBM X.K T r to t) := by
 intro pins s σ H Q I h
 refine wpAny_Call_method_late hbase hfew hline rfl (thn (ho pins s σ H _ I h) fun v s1 ⟨x, H1, I1, r1, ty, q1⟩ => ?_)
 obtain ⟨h1, h2⟩ := tyV_is I1 r1 ty
 refine ⟨T, id, pa, slot, hty, h1, h2, ?_⟩
 have hA := ha cpos pins s1 σ H1 _ I1 q1
 rw [hs] at hA ⊢
 refine Calls.callWith_builtin (by show (false || (backTo cpos (starEach es X.env)).any (·.1)) = false; rw [hplain] <;> rfl) (Calls.evalArgs_plain ?_)
 exact thn hA fun us s2 ⟨vs, H2, I2, r2, q2⟩ => hm pins s2 σ H2 x vs v us Q I2 r1 r2 q2
end
def MtM (X : Cx) (id : String) (r : V → List V → Hp → VK → Prop) : Prop :=
 ∀ (pins : List (Addr × Obj)) (s : Shared) (σ : St) (H : Hp) (x : V) (xs : List V) (v : Value) (us : List Value) (Q : VK), Inv X pins σ H s → RelV x v → Vals xs us → r x xs H Q →
  wpAny (model X.prog X.w) X.A (call (.builtin id) (v :: us)) (EP X pins σ Q) X.xe s
theorem Vals.one : ∀ {x : V} {us : List Value}, Vals [x] us → ∃ u, us = [u] ∧ RelV x u
 | _, _, .cons r .nil => ⟨_, rfl, r⟩
theorem Vals.zero : ∀ {us : List Value}, Vals [] us → us = []
 | _, .nil => rfl
theorem Vals.dropLast {xs : List V} {us : List Value} (h : Vals xs us) : Vals xs.dropLast us.dropLast := by
 induction h with
 | nil => exact .nil
 | cons r t ih =>
  cases t with
  | nil => exact .nil
  | cons q t' => exact .cons r ih
theorem erase_last {α : Type} (l : List α) : l.eraseIdx (l.length - 1) = l.dropLast := by
 induction l with
 | nil => rfl
 | cons a r ih =>
  cases r with
  | nil => rfl
  | cons b r =>
   have e : (a :: b :: r).length - 1 = ((b :: r).length - 1) + 1 := by
    have h1 : (a :: b :: r).length = r.length + 2 := rfl
    have h2 : (b :: r).length = r.length + 1 := rfl
    omega
   rw [e, List.eraseIdx_cons_succ, ih]
   all_goals rfl
section
variable {X : Cx} {pins : List (Addr × Obj)} {σ : St} {H : Hp} {s : Shared} {l b : Addr} {xs ys zs : List V}
theorem Inv.lset {its its' : List Value} {n : Nat} {f : Array Value → Array Value} {t' : Nat} (I : Inv X pins σ H s) (hH : H l = some (.lst xs))
  (e : s.heap.get? l = some { cls := .type "list", data := .seq its.toArray n }) (hf : f its.toArray = its'.toArray) (hv : Vals ys its') (hz : ys.length ≤ sizeLine) :
  Inv X pins σ (upd H l (.lst ys)) { s with heap := s.heap.update l (Obj.mapSeq f), toks := t' } := by
 have q := PySem.IsL.update e f
 rw [hf] at q
 refine I.write (x := l) (e := l) (by rw [hH]; exact trivial) (.inl rfl) (fun b' u hb hu => (Heap.get?_update_other s.heap (Obj.mapSeq f) (Ne.symm hb)).trans hu) ⟨_, q⟩ ?_
 exact ⟨hz, its', _, hv, q⟩
theorem Inv.lnew {its : List Value} {t' : Nat} (I : Inv X pins σ H s) (hv : Vals ys its) (hz : ys.length ≤ sizeLine) :
  Inv X pins σ (upd H s.heap.objs.size (.lst ys)) { s with heap := s.heap.push { cls := .type "list", data := .seq its.toArray }, toks := t' } :=
 I.laid (fun _ _ q => Heap.get?_push_of_some _ q) (Nat.le_refl _) ⟨hz, its, 0, hv, Heap.get?_push_size _ rfl⟩
theorem Inv.fresh (I : Inv X pins σ H s) : H s.heap.objs.size = none := I.hok.fresh (Nat.le_refl _)
theorem Inv.lstM (I : Inv X pins σ H s) (hH : H l = some (.lst xs)) : xs.length ≤ sizeLine ∧ ∃ (its : List Value) (n : Nat), Vals xs its ∧ xs.length = its.length ∧ s.heap.get? l = some { cls := .type "list", data := .seq its.toArray n } := by
 obtain ⟨z, its, n, r, e⟩ := I.hok l _ hH
 exact ⟨z, its, n, r, r.length, e⟩
end
section
variable {X : Cx}
def rAppend : V → List V → Hp → VK → Prop := fun x vs H Q => ∃ l xs y, x = .ref l ∧ vs = [y] ∧ H l = some (.lst xs) ∧ xs.length < sizeLine ∧ Q .non (upd H l (.lst (xs ++ [y])))
theorem mt_append : MtM X "list.append" rAppend := by
 intro pins s σ H x vs v us Q I rx rv h
 obtain ⟨l, xs, y, rfl, rfl, hH, hz, q⟩ := h
 cases rx
 obtain ⟨u, rfl, ru⟩ := rv.one
 obtain ⟨z, its, n, r, hl, e⟩ := I.lstM hH
 refine call_meets F.slot_list_append ⟨_, e, rfl⟩ F.entry_list_append (F.args_list_append_2 _ _) (PySem.list_append l its.toArray n u (by rw [List.size_toArray]; omega)) ⟨e, ?_⟩
 refine ⟨.non, _, I.lset (its' := its ++ [u]) hH e (by simp) (r.append (.cons ru .nil)) ?_, rfl, q⟩
 rw [List.length_append, List.length_singleton]
 omega
def rPop : V → List V → Hp → VK → Prop := fun x vs H Q => ∃ l xs y, x = .ref l ∧ vs = [] ∧ H l = some (.lst xs) ∧ xs[xs.length - 1]? = some y ∧ Q y (upd H l (.lst xs.dropLast))
theorem mt_pop : MtM X "list.pop" rPop := by
 intro pins s σ H x vs v us Q I rx rv h
 obtain ⟨l, xs, y, rfl, rfl, hH, hy, q⟩ := h
 cases rx
 have hus := rv.zero
 subst hus
 obtain ⟨z, its, n, r, hl, e⟩ := I.lstM hH
 obtain ⟨u, hu, ru⟩ := r.get hy
 have hy' : its.toArray[its.toArray.size - 1]? = some u := by
  show its.toArray[its.length - 1]? = some u
  rw [← Array.getElem?_toList, ← hl]
  exact hu
 refine call_meets F.slot_list_pop ⟨_, e, rfl⟩ F.entry_list_pop (F.args_list_pop_1 _) (MeetsSeq.list_pop_last l its.toArray n u hy' (by rw [List.size_toArray]; omega)) ⟨e, ?_⟩
 refine ⟨y, _, I.lset (its' := its.dropLast) hH e ?_ r.dropLast ?_, ru, q⟩
 ·show its.toArray.eraseIdxIfInBounds (its.toArray.size - 1) = its.dropLast.toArray
  rw [List.size_toArray, List.eraseIdxIfInBounds_toArray, erase_last]
 ·rw [List.length_dropLast]
  omega
end
end L2
namespace Att
open PySem PySem.W PySem.Calls PyProof.Rows
theorem ints_of_wellAll {P : Params} {h : Heap} : ∀ (ns : List Int) (vs : List Value), WellAll P h vs (ns.map WData.int) → IntsAre vs ns := by
 intro ns
 induction ns with
 | nil =>
  intro vs w
  rw [List.map_nil] at w
  cases w
  exact .nil
 | cons n ns ih =>
  intro vs w
  rw [List.map_cons] at w
  cases w with
  | cons a b =>
   cases a
   exact .cons _ _ (ih _ b)
theorem script_of {l : OpenLaw} {n : Nat} (hn : l.most = some n) {P : Params} {h : Heap} {args : List WData} {vals : List Value}
  (hpre : l.row.toRowW.claim.pre args = true) (hwl : WellAll P h vals args) :
  ∃ a vs ns, vals = [Value.ref a] ∧ args = [WData.list (ns.map WData.int)] ∧ h.get? a = some { cls := .type "list", data := .seq vs.toArray } ∧ IntsAre vs ns ∧ ns.length ≤ n := by
 have hsh : WShape.hasAll [] args [.list .int] = true := (pre_splitW hpre).1
 have hc : l.pre.holds [] { args := args } = true := (pre_splitW hpre).2
 obtain ⟨d, r, rfl, h1, h2⟩ := hasAllW_cons hsh
 obtain rfl := hasAllW_nil h2
 obtain ⟨xs, rfl, h3⟩ := hasW_list h1
 obtain ⟨ns, rfl⟩ := items_int h3
 have hlen : ns.length ≤ n := by
  unfold OpenLaw.pre at hc
  have h4 : (WTm.not (.lt (.lit (.int (n : Int))) (.len (.arg 0)))).holds [] { args := [.list (ns.map .int)] } = true := by
   have h4 := (holds_andW hc).1
   rw [hn] at h4
   exact h4
  have h5 := condW_of h4 (w_not (w_lt w_lit (w_len_list (w_arg rfl))))
  rw [List.length_map] at h5
  refine Nat.le_of_not_lt fun q => ?_
  have q' : (n : Int) < ((ns.length : Nat) : Int) := by omega
  first
   | (rw [decide_eq_true q'] at h5; exact absurd h5 (by decide))
   | (simp at h5; omega)
 cases hwl with
 | cons w1 w2 =>
  cases w2
  cases w1 with
  | list ho hall => exact ⟨_, _, ns, rfl, rfl, ho, ints_of_wellAll ns _ hall, hlen⟩
theorem post_true (l : OpenLaw) (args : List WData) : l.row.toRowW.claim.post args (.bool true) args = true :=
 postW_of (r := l.row.toRowW) (X := (true == true))
  (show WShape.has [] (.bool true) .bool = true by first | rfl | decide | simp [WShape.has, WShape.arms, WShape.armsAll])
  (show (WTm.eq .res (.lit (.bool true))).value [] { args := args, res := some (.bool true), after := args } = some (.bool (true == true)) from w_eq_bool (w_res rfl) w_lit) rfl
theorem attach_call {l : OpenLaw} {n : Nat} {q : Program} {loose : List Str} {XP : (Str → Option Value) → Heap → Prop} {YP : World → Heap → Prop} {d : DefRec}
  (hn : l.most = some n) (hdf : d.params.defaults = [])
  (call : ∀ (w : World) (s₀ s₁ : Shared) (mg mb : Str → Option Value) (fa : Addr) (o : Obj) (pm cd doc : Value) (a : Addr) (vs : List Value) (ns : List Int),
   Ground q loose [] XP w s₀ mg mb s₁.heap → YP w s₁.heap →
   s₁.heap.get? fa = some o → o.data = .func (docDef d.name d.params d.body d.scope pm cd doc) → s₁.heap.CodeRec cd d.name → mg d.name = some (.ref fa) →
   s₁.heap.get? a = some { cls := .type "list", data := .seq vs.toArray } → IntsAre vs ns → ns.length ≤ n → s₁.gens = #[] →
   codeAny (model l.prog w) callerA (.call (.ref fa) ⟨[.ref a], []⟩) (fun r s' => r = .ok (.ret (.bool true)) ∧ OldK s₁.heap s'.heap ∧ s'.os = s₁.os ∧ AllBare s'.gens) s₁) :
  WalkO q loose XP YP l.row.toRowW d [] (fun f vs => PySem.call f vs) := by
 intro w s₀ s₁ mg mb G Y fa o pm cd doc dV kV ho hd hcd hD hmg hg args vals as hpre hlay hrd hwl hlo
 obtain rfl : dV = .none := Dflts.none hD hdf
 obtain rfl : kV = .none := Dflts.noKw hD
 obtain ⟨a, vs, ns, rfl, rfl, hobj, hints, hlen⟩ := script_of hn hpre hwl
 refine enter_call (codeAny_mono (call w s₀ s₁ mg mb fa o pm cd doc a vs ns G Y ho (fd_plain hd) hcd hmg hobj hints hlen hg) fun r s' hq => ?_)
 obtain ⟨rfl, h2, h3, h4⟩ := hq
 exact ⟨.inl ⟨.bool true, .bool true, [], rfl, fun _ => rfl, .bool true, post_true l _, fun _ => ⟨List.Pairwise.nil, fun _ hm => (nomatch hm)⟩⟩, h2, h3, h4⟩
end Att
namespace L2
open PySem PySem.Spec PyProof.Rows
theorem vals_ints : ∀ {vs : List Value} {ns : List Int}, IntsAre vs ns → Vals (ns.map V.int) vs
 | _, _, .nil => .nil
 | _, _, .cons n t h => .cons ⟨t, rfl⟩ (vals_ints h)
def defArgs (s : Stmt) : Arguments := match s with
 | .FunctionDef _ a _ _ _ _ _ _ _ _ => a
 | _ => { posonlyargs := [], args := [], vararg := none, kwonlyargs := [], kw_defaults := [], kwarg := none, defaults := [] }
def defBody (s : Stmt) : List Stmt := match s with
 | .FunctionDef _ _ b _ _ _ _ _ _ _ => b
 | _ => []
def defScope (s : Stmt) : Scope := match s with
 | .FunctionDef _ _ _ _ _ _ sc _ _ _ => sc
 | _ => { kind := .function, names := [], isGenerator := false, isCoroutine := false }
abbrev CX0 : CXT := fun _ _ _ _ _ _ => False
abbrev E0 : XK := fun _ _ _ => False
theorem pass0 {X : Cx} : Passes CX0 X E0 := fun _ _ _ _ _ _ _ h => h.elim
structure Fun (K : PySem.W.Frag) (x qual : Str) (st : Stmt) (f : Addr) (fd : FuncData) : Prop where
 ex : ∃ (oc : Value) (od : Option Addr) (kV doc pm : Value) (an : Option Addr) (cdv ct : Value) (osl : Array (Option Value)),
  fd = PySem.W.fnOf x qual (defArgs st) (defBody st) (defScope st) .none kV doc pm an cdv ct ∧ K.lookup f = some ⟨oc, od, .func fd, osl⟩ ∧ PySem.W.codeIn K cdv qual = true
 kp : PySem.W.keepIn K (.ref f) = true
section
variable {P : Program} {w : World} {K : PySem.W.Frag} {mg : Str → Option Value} {base : Heap}
theorem Fun.ok {x qual : Str} {st : Stmt} {f : Addr} {fd : FuncData} {N ps : List Str} {k : Nat} {sp : Sp} (F : Fun K x qual st f fd) (S : FnScope N ps (defScope st)) (len : ∀ vs H Q E, sp vs H Q E → vs.length = ps.length)
  (hbody : ∀ (cdv : Value) (A : Around) (outer : List Env) (s : Shared) (H : Hp) (vs : List V) (Q : VK) (E : XK), Room k (A.deeper (envOfC qual (defScope st) s.heap.objs.size f cdv)) → sp vs H Q E →
   ∃ t, PSs (cxOf CX0 P w K mg base N qual (defScope st) f cdv A outer s H E).nox (defBody st) t ∧ t { nx := fun _ H' => Q .non H', rt := Q } (start N vs) H) : FnOk P w K mg base CX0 (k + 1) f fd ps sp := by
 obtain ⟨oc, od, kV, doc, pm, an, cdv, ct, osl, rfl, lk, hcd⟩ := F.ex
 refine fn_of lk hcd S len fun A outer s H vs Q E hr hsp => ?_
 obtain ⟨t, h, q⟩ := hbody cdv A outer s H vs Q E hr hsp
 exact ⟨t, h.nox, q⟩
theorem Fun.binds {x qual : Str} {st : Stmt} {f : Addr} {fd : FuncData} {ps : List Str} (F : Fun K x qual st f fd)
  (h : ∀ (kV doc pm : Value) (an : Option Addr) (cdv ct : Value) (us : List Value), us.length = ps.length → bindArgs (PySem.W.fnOf x qual (defArgs st) (defBody st) (defScope st) .none kV doc pm an cdv ct) ⟨us, []⟩ = pure (ps.zip us)) : Binds K fd ps [] := by
 obtain ⟨oc, od, kV, doc, pm, an, cdv, ct, osl, rfl, lk, hcd⟩ := F.ex
 exact .all (h kV doc pm an cdv ct)
theorem fun_mk {x qual : Str} {st : Stmt} {f : Addr} {oc : Value} {od an : Option Addr} {osl : Array (Option Value)} {kV doc pm cdv ct : Value} (l : K.lookup f = some ⟨oc, od, .func (PySem.W.fnOf x qual (defArgs st) (defBody st) (defScope st) .none kV doc pm an cdv ct), osl⟩)
  (c : PySem.W.codeIn K cdv qual = true) (k : PySem.W.keepIn K (.ref f) = true) : Fun K x qual st f (PySem.W.fnOf x qual (defArgs st) (defBody st) (defScope st) .none kV doc pm an cdv ct) := ⟨⟨oc, od, kV, doc, pm, an, cdv, ct, osl, rfl, l, c⟩, k⟩
end
theorem hu_of {A : Around} {k : Nat} (hr : Room k A) : A.units + 1 < cLine := Nat.lt_of_le_of_lt (Nat.add_le_add_left (by decide : 1 ≤ 64) _) hr.units
section
variable {X : Cx}
theorem pv (i : Nat) {x : Str} {pos : Pos} (hN : X.N[i]? = some x := by rfl) (hv : Vis X.env.scope x := by first | exact Or.inl rfl | exact Or.inr (Or.inl rfl) | exact Or.inr (Or.inr rfl)) (hd : (x == ("__debug__" : Str)) = false := by decide)
  (hcd : (x == ("__classdict__" : Str)) = false := by decide) : PE X (.Name x pos) (tVar i) := pe_var hN hv hd hcd
end
theorem iteF {A B : Prop} (h : B) : if false = true then A else B := by
 rw [if_neg Bool.false_ne_true]
 exact h
theorem iteT {A B : Prop} (h : A) : if true = true then A else B := by
 rw [if_pos rfl]
 exact h
theorem ite2 {c A B : Prop} [Decidable c] (h1 : c → A) (h2 : ¬ c → B) : if c then A else B := by
 by_cases h : c
 ·rw [if_pos h]
  exact h1 h
 ·rw [if_neg h]
  exact h2 h
def Same (H H' : Hp) : Prop := ∀ b o, H b = some o → H' b = some o
theorem Same.refl (H : Hp) : Same H H := fun _ _ h => h
theorem Same.trans {H H1 H2 : Hp} (a : Same H H1) (b : Same H1 H2) : Same H H2 := fun c o h => b c o (a c o h)
theorem Same.free {H H' : Hp} (e : Same H H') {l : Addr} (h : H' l = Option.none) : H l = Option.none := by
 cases q : H l with
 | none => rfl
 | some o =>
  rw [e l o q] at h
  cases h
theorem Same.seq {K : PySem.W.Frag} {H H' : Hp} {a : Addr} {xs : List V} (e : Same H H') (h : SqL K H a xs) : SqL K H' a xs := by
 rcases h with (h | ⟨o, h⟩) | h
 ·exact .inl (.inl (e _ _ h))
 ·exact .inl (.inr ⟨o, e _ _ h⟩)
 ·exact .inr h
section
variable {κ : Type} [DecidableEq κ]
def valV (kvs : List (κ × V)) (k : κ) : Option V := (kvs.find? fun kv => decide (kv.1 = k)).map (·.2)
def putK (kvs : List (κ × V)) (k : κ) (v : V) : List (κ × V) :=
 if (kvs.any fun kv => decide (kv.1 = k)) = true then kvs.map (fun kv => if kv.1 = k then (kv.1, v) else kv) else kvs ++ [(k, v)]
theorem valV_nil {k : κ} : valV ([] : List (κ × V)) k = none := rfl
theorem valV_pos {p : κ × V} {r : List (κ × V)} {k : κ} (e : p.1 = k) : valV (p :: r) k = some p.2 := by simp [valV, List.find?_cons, e]
theorem valV_neg {p : κ × V} {r : List (κ × V)} {k : κ} (e : ¬ p.1 = k) : valV (p :: r) k = valV r k := by simp [valV, List.find?_cons, e]
theorem valV_any (k : κ) : ∀ kvs : List (κ × V), (kvs.any fun kv => decide (kv.1 = k)) = (valV kvs k).isSome
 | [] => rfl
 | p :: r => by
  rw [List.any_cons]
  by_cases e : p.1 = k
  ·simp only [valV_pos e, decide_eq_true e, Bool.true_or, Option.isSome_some]
  ·rw [valV_neg e, decide_eq_false e, Bool.false_or]; exact valV_any k r
theorem length_putK (kvs : List (κ × V)) (k : κ) (v : V) : (putK kvs k v).length ≤ kvs.length + 1 := by
 unfold putK
 split
 ·rw [List.length_map]; omega
 ·rw [List.length_append, List.length_cons, List.length_nil]; omega
theorem putK_new {kvs : List (κ × V)} {k : κ} (v : V) (h : valV kvs k = none) : putK kvs k v = kvs ++ [(k, v)] := by
 unfold putK
 rw [valV_any, h]
 exact if_neg (by decide)
theorem RelO.isSome_eq {o : Option V} {u : Option Value} (r : RelO o u) : o.isSome = u.isSome := by
 cases o with
 | none => cases u with
  | none => rfl
  | some _ => exact (show False from r).elim
 | some _ => cases u with
  | none => exact (show False from r).elim
  | some _ => rfl
theorem KV.val {kvs : List (κ × V)} {vs : List (κ × Value)} (r : KV kvs vs) (k : κ) : RelO (valV kvs k) (valueAt vs k) := by
 unfold KV at r
 induction r with
 | nil => exact True.intro
 | @cons p q ps qs h t ih =>
  obtain ⟨h1, h2⟩ := h
  by_cases e : p.1 = k
  ·have e' : q.1 = k := h1.symm.trans e
   have b : valueAt (q :: qs) k = some q.2 := by simp [valueAt, List.find?_cons, e']
   rw [valV_pos e, b]; exact h2
  ·have e' : ¬ q.1 = k := fun z => e (h1.trans z)
   have b : valueAt (q :: qs) k = valueAt qs k := by simp [valueAt, List.find?_cons, e']
   rw [valV_neg e, b]; exact ih
theorem KV.any {kvs : List (κ × V)} {vs : List (κ × Value)} (r : KV kvs vs) (k : κ) : (kvs.any fun kv => decide (kv.1 = k)) = vs.any fun kv => decide (kv.1 = k) := by
 unfold KV at r
 induction r with
 | nil => rfl
 | cons h t ih => rw [List.any_cons, List.any_cons, ih, h.1]
theorem KV.repl {kvs : List (κ × V)} {vs : List (κ × Value)} (r : KV kvs vs) (k : κ) {y : V} {u : Value} (ry : RelV y u) :
  KV (kvs.map fun kv => if kv.1 = k then (kv.1, y) else kv) (vs.map fun kv => if kv.1 = k then (kv.1, u) else kv) := by
 unfold KV at r ⊢
 induction r with
 | nil => exact .nil
 | @cons p q ps qs h t ih =>
  rw [List.map_cons, List.map_cons]
  refine .cons ?_ ih
  obtain ⟨h1, h2⟩ := h
  by_cases e : p.1 = k
  ·rw [if_pos e, if_pos (h1.symm.trans e)]; exact ⟨h1, ry⟩
  ·rw [if_neg e, if_neg (fun z => e (h1.trans z))]; exact ⟨h1, h2⟩
theorem KV.put {kvs : List (κ × V)} {vs : List (κ × Value)} (r : KV kvs vs) (k : κ) {y : V} {u : Value} (ry : RelV y u) : KV (putK kvs k y) (stored vs k u) := by
 unfold putK stored
 rw [r.any k]
 by_cases e : (vs.any fun kv => decide (kv.1 = k)) = true
 ·rw [if_pos e, if_pos e]; exact r.repl k ry
 ·rw [if_neg e, if_neg e]; exact Paired.snoc r ⟨rfl, ry⟩
theorem KV.length {kvs : List (κ × V)} {vs : List (κ × Value)} (r : KV kvs vs) : kvs.length = vs.length := Paired.length r
end
theorem kV_is {P : Program} {w : World} {k : Key} {u : Value} (r : RelV (kV k) u) : (mixKind P w).is k u = true := by
 cases k with
 | inl i => obtain ⟨t, e⟩ := (show ∃ t, u = Value.int i t from r); subst e; exact mixKind_int P w i t
 | inr x => obtain ⟨t, e⟩ := (show ∃ t, u = Value.str x t from r); subst e; exact mixKind_str P w x t
theorem items_are {P : Program} {w : World} : ∀ {ks : List Key} {us : List Value}, Vals (ks.map kV) us → ItemsAre (mixKind P w) ks us
 | [], _, r => by rw [List.map_nil] at r; cases r; exact .nil
 | k :: ks, _, r => by
  rw [List.map_cons] at r
  cases r with
  | cons h t => exact .cons (kV_is h) (items_are t)
abbrev KT (H : Hp) : List (List Key × V) → List (List Key × Addr × Value) → Prop := Paired fun p q => p.1 = q.1 ∧ H q.2.1 = some (.tup (p.1.map kV)) ∧ RelV p.2 q.2.2
theorem KT.val {H : Hp} {kvs : List (List Key × V)} {xs : List (List Key × Addr × Value)} (r : KT H kvs xs) (k : List Key) : RelO (valV kvs k) ((atKey xs k).map (·.2)) := by
 induction r with
 | nil => exact True.intro
 | @cons p q ps qs h t ih =>
  obtain ⟨h1, _, h2⟩ := h
  by_cases e : p.1 = k
  ·have e' : q.1 = k := h1.symm.trans e
   have b : atKey (q :: qs) k = some q.2 := by simp [atKey, List.find?_cons, e']
   rw [valV_pos e, b]; exact h2
  ·have e' : ¬ q.1 = k := fun z => e (h1.trans z)
   have b : atKey (q :: qs) k = atKey qs k := by simp [atKey, List.find?_cons, e']
   rw [valV_neg e, b]; exact ih
theorem KT.repl {H : Hp} {kvs : List (List Key × V)} {xs : List (List Key × Addr × Value)} (r : KT H kvs xs) (k : List Key) {y : V} {u : Value} (ry : RelV y u) :
  KT H (kvs.map fun kv => if kv.1 = k then (kv.1, y) else kv) (xs.map (putAt k u)) := by
 induction r with
 | nil => exact .nil
 | @cons p q ps qs h t ih =>
  rw [List.map_cons, List.map_cons]
  refine .cons ?_ ih
  obtain ⟨h1, h2, h3⟩ := h
  unfold putAt
  by_cases e : p.1 = k
  ·rw [if_pos e, if_pos (h1.symm.trans e)]; exact ⟨h1, h2, ry⟩
  ·rw [if_neg e, if_neg (fun z => e (h1.trans z))]; exact ⟨h1, h2, h3⟩
theorem KT.put {H : Hp} {kvs : List (List Key × V)} {xs : List (List Key × Addr × Value)} (r : KT H kvs xs) (k : List Key) {b : Addr} {y : V} {u : Value} (hb : H b = some (.tup (k.map kV))) (ry : RelV y u) :
  KT H (putK kvs k y) (storedH xs k b u) := by
 have e : (kvs.any fun kv => decide (kv.1 = k)) = (atKey xs k).isSome := by
  rw [valV_any, (r.val k).isSome_eq, Option.isSome_map]
 unfold putK storedH
 rw [e]
 by_cases q : (atKey xs k).isSome = true
 ·rw [if_pos q, if_pos q]; exact r.repl k ry
 ·rw [if_neg q, if_neg q]; exact Paired.snoc r ⟨rfl, hb, ry⟩
theorem KT.keeps {H H' : Hp} {kvs : List (List Key × V)} {xs : List (List Key × Addr × Value)} (r : KT H kvs xs) (ht : ∀ b ys, H b = some (.tup ys) → H' b = some (.tup ys)) : KT H' kvs xs :=
 Paired.mapP r fun _ _ z => ⟨z.1, ht _ _ z.2.1, z.2.2⟩
section
variable {P : Program} {w : World} {H : Hp} {h : Heap} {a : Addr}
theorem rd_of {u : HO} (ok : HOk P w H h) (e : Rd H a u) : ObjOk P w H h a u := e.ok ok
theorem dk_rd {kvs : List (Key × V)} (ok : HOk P w H h) (e : Rd H a (.dK kvs)) : kvs.length ≤ sizeLine ∧ (a == sysModules) = false ∧ ∃ vs, KV kvs vs ∧ h.DictOf (mixKind P w) a vs :=
 show ObjOk P w H h a (.dK kvs) from rd_of ok e
theorem dk_of {kvs : List (Key × V)} (ok : HOk P w H h) (e : H a = some (.dK kvs)) : kvs.length ≤ sizeLine ∧ (a == sysModules) = false ∧ ∃ vs, KV kvs vs ∧ h.DictOf (mixKind P w) a vs := dk_rd ok (.inl e)
theorem key_of {ks : List Key} (ok : HOk P w H h) (e : H a = some (.tup (ks.map kV))) : (tupleKind (mixKind P w)).is h ks a := by
 obtain ⟨_, its, r, o, h1, h2, n, h3⟩ := (show ObjOk P w H h a (.tup (ks.map kV)) from ok a _ e)
 exact ⟨o, its.toArray, n, h1, h2, h3, by simpa using items_are r⟩
theorem dt_rd {kvs : List (List Key × V)} (ok : HOk P w H h) (e : Rd H a (.dT kvs)) : kvs.length ≤ sizeLine ∧ (a == sysModules) = false ∧
  ∃ xs, KT H kvs xs ∧ h.DictOfH (tupleKind (mixKind P w)) a xs := by
 obtain ⟨z, y, xs, r, o, es, ep, h1, h2, h3, h4, h5⟩ := (show ObjOk P w H h a (.dT kvs) from rd_of ok e)
 refine ⟨z, y, xs, r, o, es, ep, h1, h2, h3, h4, fun x hx => ?_, h5⟩
 have all : ∀ {l : List (List Key × V)} {m : List (List Key × Addr × Value)}, KT H l m → ∀ x ∈ m, (tupleKind (mixKind P w)).is h x.1 x.2.1 := by
  intro l m q
  induction q with
  | nil => intro x hx; exact nomatch hx
  | @cons p q ps qs hq t ih =>
   intro x hx
   rcases List.mem_cons.mp hx with e | hx
   ·subst e
    exact key_of ok (by rw [← hq.1]; exact hq.2.1)
   ·exact ih x hx
 exact all r x hx
theorem dt_of {kvs : List (List Key × V)} (ok : HOk P w H h) (e : H a = some (.dT kvs)) : kvs.length ≤ sizeLine ∧ (a == sysModules) = false ∧
  ∃ xs, KT H kvs xs ∧ h.DictOfH (tupleKind (mixKind P w)) a xs := dt_rd ok (.inl e)
end
def DGet (H : Hp) (a : Addr) (y : V) (r : Option V) : Prop :=
 (∃ kvs k, Rd H a (.dK kvs) ∧ y = kV k ∧ r = valV kvs k) ∨ ∃ kvs k b, Rd H a (.dT kvs) ∧ y = .ref b ∧ H b = some (.tup (k.map kV)) ∧ r = valV kvs k
def DPut (H : Hp) (a : Addr) (y v : V) (H' : Hp) : Prop :=
 (∃ kvs k, H a = some (.dK kvs) ∧ y = kV k ∧ kvs.length < sizeLine ∧ H' = upd H a (.dK (putK kvs k v))) ∨
 ∃ kvs k b, H a = some (.dT kvs) ∧ y = .ref b ∧ H b = some (.tup (k.map kV)) ∧ kvs.length < sizeLine ∧ H' = upd H a (.dT (putK kvs k v))
theorem DPut.k {H : Hp} {a : Addr} {kvs : List (Key × V)} {k : Key} {v : V} (e : H a = some (.dK kvs)) (hl : kvs.length < sizeLine) : DPut H a (kV k) v (upd H a (.dK (putK kvs k v))) := .inl ⟨kvs, k, e, rfl, hl, rfl⟩
section
variable {X : Cx} {pins : List (Addr × Obj)} {σ : St} {H : Hp} {s : Shared} {a : Addr} {y v : V} {u r : Value} {o : Option V} {A : Around} {E : Value → Shared → Prop}
theorem Inv.big (I : Inv X pins σ H s) : sysModules < s.heap.objs.size := by
 have h : mainGlobals < s.heap.objs.size := (I.mod.glob.keeps I.bk).lt
 exact Nat.lt_trans (by decide) h
theorem d_getItem {Q : Value → Shared → Prop} (hu : A.units + 1 < cLine) (I : Inv X pins σ H s) (g : DGet H a y (some v)) (ry : RelV y u) (h : ∀ w' s', Inv X pins σ H s' → RelV v w' → Q w' s') :
  wpAny (model X.prog X.w) A (getItem (.ref a) u) Q E s := by
 rcases g with ⟨kvs, k, e, ey, l⟩ | ⟨kvs, k, b, e, ey, eb, l⟩
 ·subst ey
  obtain ⟨z, hd, vs, rel, dd⟩ := dk_rd I.hok e
  obtain ⟨w', hw, rw'⟩ := RelO.some_of (v := v) (o := valueAt vs k) (by rw [l]; exact rel.val k)
  exact wpAny_getItem_of (kV_is ry) dd.mapOf hw (h w' _ (I.tok _) rw')
 ·subst ey
  cases (show u = Value.ref b from ry)
  obtain ⟨z, hd, xs, rel, dd⟩ := dt_rd I.hok e
  obtain ⟨w', hw, rw'⟩ := RelO.some_of (v := v) (o := (atKey xs k).map (·.2)) (by rw [l]; exact rel.val k)
  obtain ⟨p, hp, hp2⟩ := Option.map_eq_some_iff.mp hw
  refine wpAny_getItem_heap (tupleKind_room_in1 hu) (key_of I.hok eb) dd hp ?_
  rw [hp2]
  exact h w' _ (I.tok _) rw'
theorem d_write {h' : Heap} {t' : Nat} {ob : HO} (I : Inv X pins σ H s) (mu : Mut (H a)) (hs : Heap.SameBut a s.heap h') (he : ∃ q, h'.get? a = some q) (new : ObjOk X.prog X.w (upd H a ob) h' a ob) :
  Inv X pins σ (upd H a ob) { s with heap := h', toks := t' } :=
 I.write (x := a) (e := a) mu (.inl rfl) (fun b q hb z => (hs.2 b hb).trans z) he new
theorem dk_new {P : Program} {w : World} {H' : Hp} {h' : Heap} {kvs : List (Key × V)} {vs : List (Key × Value)} (z : kvs.length ≤ sizeLine) (hd : (a == sysModules) = false) (rel : KV kvs vs) (dd : h'.DictOf (mixKind P w) a vs) :
  ObjOk P w H' h' a (.dK kvs) := ⟨z, hd, vs, rel, dd⟩
theorem d_setItem {H' : Hp} {Q : Unit → Shared → Prop} (hu : A.units + 1 < cLine) (I : Inv X pins σ H s) (g : DPut H a y v H') (ry : RelV y u) (rv : RelV v r) (h : ∀ s', Inv X pins σ H' s' → Q () s') :
  wpAny (model X.prog X.w) A (setItem (.ref a) u r) Q E s := by
 rcases g with ⟨kvs, k, e, ey, l, eH⟩ | ⟨kvs, k, b, e, ey, eb, l, eH⟩
 ·subst ey eH
  obtain ⟨z, hd, vs, rel, dd⟩ := dk_of I.hok e
  have hz : vs.length ≤ sizeLine := by rw [← rel.length]; exact z
  have hl : (putK kvs k v).length ≤ sizeLine := by have := length_putK kvs k v; omega
  refine wpAny_setItem_pairs (hsz := hz) (kV_is ry) dd fun h' dd' hs => h _ ?_
  have he : ∃ q, h'.get? a = some q := let ⟨q, _, _, hq, _⟩ := dd'; ⟨q, hq⟩
  exact d_write I (by rw [e]; exact True.intro) hs he (dk_new hl hd (rel.put k rv) dd')
 ·subst ey eH
  cases (show u = Value.ref b from ry)
  obtain ⟨z, hd, xs, rel, dd⟩ := dt_of I.hok e
  have hz : xs.length ≤ sizeLine := by rw [← Paired.length rel]; exact z
  have hl : (putK kvs k v).length ≤ sizeLine := by have := length_putK kvs k v; omega
  refine wpAny_setItem_heap (hsz := hz) (tupleKind_room_in1 hu) (key_of I.hok eb) dd fun h' dd' hs => h _ ?_
  obtain ⟨q, es, ep, hq, h2, h3, h4, _, h5⟩ := dd'
  refine d_write I (by rw [e]; exact True.intro) hs ⟨q, hq⟩ ⟨hl, hd, _, (rel.put k eb rv).keeps fun c ys ec => ?_, q, es, ep, hq, h2, h3, h4, h5⟩
  rw [upd_ne (ne_of ec e (fun z => nomatch z))]
  exact ec
end
def NoSl (i : Expr) : Prop := ∀ ov iv, subscripted i false ov iv = operate [ov, iv] (getItem ov iv)
theorem subD_of {prog : Program} {w : World} {A : Around} {E : Value → Shared → Prop} {s : Shared} {env : Env} {value slice : Expr} {pos : Pos} {T id : String} {Q : Value → Shared → Prop}
  (hl : typeLookup (.type T) "__getitem__" = pure (some (.builtin id))) (hs : NoSl slice)
  (h : wpAny (model prog w) A (eval value env) (fun o s₁ => wpAny (model prog w) A (eval slice env) (fun i s₂ => s₂.TypeIs o T ∧ wpAny (model prog w) A (getItem o i) Q E s₂) E s₁) E s) :
  wpAny (model prog w) A (eval (.Subscript value slice pos) env) Q E s := by
 refine Subscript_ (wpAny_mono h (fun o s₁ h₁ => wpAny_mono h₁ (fun i s₂ h₂ => ?_) fun _ _ x => x) fun _ _ x => x)
 obtain ⟨hT, h₂⟩ := h₂
 unfold subscriptTail
 refine wpAny_bind ?_
 rw [getitemInPython_of_ne hT.not_modules]
 refine wpAny_bind (wpAny_specialOf hT hl ?_)
 have fin : wpAny (model prog w) A (subscripted slice false o i) (fun r s₃ => wpAny (model prog w) A (letTemporaryGo value o r >>= fun _ => pure r) Q E s₃) E s₂ := by
  rw [hs o i]
  exact wpAny_operating (wpAny_mono h₂ (fun r s₃ h₃ => wpAny_bind (wpAny_letTemporaryGo (wpAny_pure h₃))) fun _ _ x => x)
 first
  | exact wpAny_pure (wpAny_bind fin)
  | exact wpAny_bind (wpAny_pure (wpAny_bind fin))
  | exact wpAny_bind fin
theorem dict_typeIs {X : Cx} {pins : List (Addr × Obj)} {σ : St} {H : Hp} {s : Shared} {a : Addr} {y : V} {o : Option V} (I : Inv X pins σ H s) (g : DGet H a y o) : s.TypeIs (.ref a) "dict" := by
 rcases g with ⟨kvs, k, e, _, _⟩ | ⟨kvs, k, b, e, _, _, _⟩
 ·obtain ⟨_, _, vs, _, dd⟩ := dk_rd I.hok e
  exact dd.typeIs
 ·obtain ⟨_, _, xs, _, dd⟩ := dt_rd I.hok e
  exact dd.typeIs
def tDGet (td ty : TE) : TE := fun σ H Q => td σ H fun x H1 => ty σ H1 fun y H2 => ∃ a v, x = .ref a ∧ DGet H2 a y (some v) ∧ Q v H2
def sDPut (td ty tv : TE) : TS := fun D σ H => tv σ H fun v H1 => td σ H1 fun x H2 => ty σ H2 fun y H3 => ∃ a H4, x = .ref a ∧ DPut H3 a y v H4 ∧ D.nx σ H4
section
variable {X : Cx} {o i e value : Expr} {pos pos' tpos : Pos} {td ty tv : TE}
theorem pe_dget (hu : X.A.units + 1 < cLine) (ho : PE X o td) (hi : PE X i ty) (hs : NoSl i) : PE X (.Subscript o i pos) (tDGet td ty) := by
 intro pins s σ H Q I h
 refine subD_of PySem.F.slot_dict_getitem.lookup hs (thn (ho pins s σ H _ I h) fun u s1 ⟨x, H1, I1, rx, q1⟩ => thn (hi pins s1 σ H1 _ I1 q1) fun iv s2 ⟨y, H2, I2, ry, a, v, ex, g, q2⟩ => ?_)
 subst ex
 obtain rfl : u = Value.ref a := rx
 exact ⟨dict_typeIs I2 g, d_getItem hu I2 g ry fun w' s3 I3 rw' => ⟨v, H2, I3, rw', q2⟩⟩
theorem ps_dput (hu : X.A.units + 1 < cLine) (ho : PE X o td) (hi : PE X i ty) (hv : PE X value tv) (hs : swapsWith value (some (.Subscript o i pos')) pos.line X.env = pure false) :
  PS X (.Assign [.Subscript o i pos'] value pos) (sDPut td ty tv) := by
 intro pins s σ H D I h
 refine wpAny_Assign_Subscript (thn (hv pins s σ H _ I h) fun r s1 ⟨v, H1, I1, rv, q1⟩ => thn (ho pins s1 σ H1 _ I1 q1) fun u s2 ⟨x, H2, I2, rx, q2⟩ => thn (hi pins s2 σ H2 _ I2 q2) fun iv s3 ⟨y, H3, I3, ry, a, H4, ex, g, q3⟩ => ?_) hs
 subst ex
 obtain rfl : u = Value.ref a := rx
 exact d_setItem hu I3 g ry rv fun s4 I4 => ⟨σ, H4, I4, q3⟩
end
theorem dk_empty {P : Program} {w : World} {H : Hp} (h : Heap) (hb : sysModules < h.objs.size) : ObjOk P w H (h.push { cls := .type "dict", data := .dict #[] }) h.objs.size (.dK []) :=
 ⟨Nat.zero_le _, beq_eq_false_iff_ne.mpr (Ne.symm (Nat.ne_of_lt hb)), [], .nil, Heap.DictOf.new h⟩
def tPairs : List (TE × TE) → St → Hp → (List (V × V) → Hp → Prop) → Prop
 | [], _, H, Q => Q [] H
 | (tk, tv) :: r, σ, H, Q => tk σ H fun x H1 => tv σ H1 fun y H2 => tPairs r σ H2 fun ps H3 => Q ((x, y) :: ps) H3
abbrev VV : List (V × V) → List (Value × Value) → Prop := Paired fun p q => RelV p.1 q.1 ∧ RelV p.2 q.2
def PPs (X : Cx) (pos : Pos) (keys : List (Option Expr)) (values : List Expr) (trs : List (TE × TE)) : Prop :=
 ∀ (pins : List (Addr × Obj)) (s : Shared) (σ : St) (H : Hp) (Q : List (V × V) → Hp → Prop), Inv X pins σ H s → tPairs trs σ H Q →
  wpAny (model X.prog X.w) X.A (evalPairs (pairTrees keys values X.env pos)) (fun vs s' => ∃ ps H', Inv X pins σ H' s' ∧ VV ps vs ∧ Q ps H') X.xe s
theorem pps_nil {X : Cx} {pos : Pos} : PPs X pos [] [] [] := fun pins s σ H Q I h => pairTrees_nil_walk ⟨[], H, I, .nil, h⟩
theorem pps_cons {X : Cx} {pos : Pos} {k v : Expr} {ks : List (Option Expr)} {vs : List Expr} {tk tv : TE} {trs : List (TE × TE)} (hk : PE X k tk) (hv : PE X v tv) (hr : PPs X pos ks vs trs) :
  PPs X pos (some k :: ks) (v :: vs) ((tk, tv) :: trs) := fun pins s σ H Q I h =>
 pairTrees_cons_walk (thn (hk pins s σ H _ I h) fun u s1 ⟨x, H1, I1, rx, q1⟩ => thn (hv pins s1 σ H1 _ I1 q1) fun w2 s2 ⟨y, H2, I2, ry, q2⟩ =>
  thn (hr pins s2 σ H2 _ I2 q2) fun ws s3 ⟨ps, H3, I3, rel, q3⟩ => ⟨(x, y) :: ps, H3, I3, .cons ⟨rx, ry⟩ rel, q3⟩)
def mergeK (kvs more : List (Key × V)) : List (Key × V) := more.foldl (fun acc kv => putK acc kv.1 kv.2) kvs
theorem KV.merge : ∀ {more : List (Key × V)} {rs : List (Key × Value)} {kvs : List (Key × V)} {vs : List (Key × Value)}, KV more rs → KV kvs vs → KV (mergeK kvs more) (merged vs rs) := by
 intro more rs kvs vs r
 unfold KV at r
 induction r generalizing kvs vs with
 | nil => intro q; exact q
 | @cons p q ps qs h t ih =>
  intro r0
  have e : KV (putK kvs p.1 p.2) (stored vs q.1 q.2) := by
   have := r0.put p.1 h.2
   rw [← h.1]; exact this
  exact ih e
theorem length_mergeK : ∀ (more kvs : List (Key × V)), (mergeK kvs more).length ≤ kvs.length + more.length
 | [], kvs => by show kvs.length ≤ kvs.length + 0; omega
 | p :: r, kvs => by
  have h1 := length_mergeK r (putK kvs p.1 p.2)
  have h2 := length_putK kvs p.1 p.2
  show (mergeK (putK kvs p.1 p.2) r).length ≤ _
  rw [List.length_cons]; omega
theorem carries_of {P : Program} {w : World} : ∀ {kvs : List (Key × V)} {ws : List (Value × Value)}, VV (kvs.map fun kv => (kV kv.1, kv.2)) ws → ∃ rs, Carries (mixKind P w) ws rs ∧ KV kvs rs
 | [], _, r => by rw [List.map_nil] at r; cases r; exact ⟨[], True.intro, .nil⟩
 | p :: kvs, _, r => by
  rw [List.map_cons] at r
  cases r with
  | @cons a b as bs h t =>
   obtain ⟨rs, c, q⟩ := carries_of (P := P) (w := w) t
   obtain ⟨b1, b2⟩ := b
   exact ⟨(p.1, b2) :: rs, ⟨kV_is h.1, rfl, c⟩, .cons ⟨rfl, h.2⟩ q⟩
def tDisp (trs : List (TE × TE)) : TE := fun σ H Q => ∀ p, H p = none → tPairs trs σ (upd H p (.dK [])) fun ps H2 => H2 p = some (.dK []) ∧ ∃ kvs : List (Key × V), ps = kvs.map (fun kv => (kV kv.1, kv.2)) ∧ kvs.length ≤ 15 ∧ Q (.ref p) (upd H2 p (.dK (mergeK [] kvs)))
theorem pe_disp {X : Cx} {pos : Pos} {keys : List (Option Expr)} {values : List Expr} {trs : List (TE × TE)} (h : PPs X pos keys values trs) (hall : keys.all (·.isSome) = true) (hl : keys.length = values.length) (h0 : keys ≠ [])
  (h15 : keys.length ≤ 15) : PE X (.Dict keys values pos) (tDisp trs) := by
 intro pins s σ H Q I q
 have hn := I.hok.fresh (Nat.le_refl s.heap.objs.size)
 have I1 := I.laid (a := s.heap.objs.size) (o := .dK []) (h' := s.heap.push { cls := .type "dict", data := .dict #[] }) (t' := s.toks) (fun _ _ q => Heap.get?_push_of_some _ q) (Nat.le_refl _) (dk_empty s.heap I.big)
 refine wpAny_Dict_walk (knd := mixKind X.prog X.w) hall hl h0 h15 (thn (h pins _ σ _ _ I1 (q _ hn)) fun ws s2 ⟨ps, H2, I2, rel, e, kvs, ep, lk, q2⟩ => ?_)
 subst ep
 obtain ⟨rs, c, rk⟩ := carries_of (P := X.prog) (w := X.w) rel
 obtain ⟨z, hd, vs0, r0, dd⟩ := dk_of I2.hok e
 cases r0
 refine ⟨rs, c, dd, fun h' dd' hs => ⟨.ref s.heap.objs.size, _, ?_, rfl, q2⟩⟩
 have hz : (mergeK [] kvs).length ≤ sizeLine := by
  have h1 := length_mergeK kvs []
  rw [List.length_nil] at h1
  rw [sizeLine_eq]; omega
 have he : ∃ q, h'.get? s.heap.objs.size = some q := let ⟨q, _, _, hq, _⟩ := dd'; ⟨q, hq⟩
 exact d_write I2 (by rw [e]; exact True.intro) hs he (dk_new hz hd (rk.merge .nil) dd')
section
variable {X : Cx} {pins : List (Addr × Obj)} {σ : List (Option V)} {H H' : Hp} {s : Shared} {h' : Heap}
theorem Inv.turnLaid {t' : Nat} {ch : List Addr} {p : Addr} {o : HO} (I : Inv X pins σ H s) (hf : ∀ b ∈ ch, FpOk X pins H b)
  (k : ∀ b u, b ∉ ch → s.heap.get? b = some u → h'.get? b = some u) (hp : s.heap.objs.size ≤ p) (new : ObjOk X.prog X.w (upd H p o) h' p o) :
  Inv X pins σ (upd H p o) { s with heap := h', toks := t' } := by
 have hn : H p = none := I.hok.fresh hp
 have nch : ∀ b u, H b = some u → b ∉ ch := fun b u e z => by have q := (hf b z).1; rw [e] at q; cases q
 have old : ∀ b u, s.heap.get? b = some u → b ≠ p := fun b u e => Nat.ne_of_lt (Nat.lt_of_lt_of_le (Heap.lt_size e) hp)
 have keepH : ∀ b u, H b = some u → upd H p o b = some u := fun b u e => by rw [upd_ne (ne_of_none e hn)]; exact e
 refine I.step (g' := s.gens) (d' := s.drawn) (ch := ch) (fun b hb => ?_) (fun b o _ _ hc e _ => k b o hc e) (fun b o _ _ hc e _ => ⟨o.slots, k b o hc e⟩) (fun b o _ e n => by rw [upd_ne (old b o e)]; exact n)
  (fun b o hc e => ⟨o, k b o hc e⟩) (fun b xs e => keepH b _ e) (fun b _ _ e => keepH b _ e) (fun b ps e => ⟨#[], by rw [keepH b _ e]; simp⟩) (fun m hm => ?_) (fun b u e => ?_) I.bare
 ·obtain ⟨f0, f1, f2, f3, f4, f5⟩ := hf b hb
  exact ⟨f3, f1, f4, f5⟩
 ·obtain ⟨ob, es, ep, ho, r⟩ := hm
  exact ⟨ob, es, ep, k _ ob (fun z => (hf _ z).2.1 rfl) ho, r⟩
 ·by_cases hb : b = p
  ·subst hb; rw [upd_same] at e; cases e; exact new
  ·rw [upd_ne hb] at e
   refine (I.hok b u e).stay (fun c v hc q => k c v ?_ q) (fun c q => keepH c _ q) fun c xs q => keepH c _ q
   rcases hc with z | z
   ·rw [z]; exact nch b u e
   ·exact nch c _ z
end
def clOf (env : Env) : List (Str × NameKind) → List (Str × Addr) → List (Str × Addr)
 | [], cs => cs
 | (n, k) :: r, cs => clOf env r (if k == .free then (n, (env.cells.lookup n).getD 0) :: cs else cs)
theorem clos_forIn {env : Env} : ∀ (names : List (Str × NameKind)) (cs : List (Str × Addr)), (∀ y ∈ names, y.2 = .free → ∃ c, env.cells.lookup y.1 = some c) →
  (forIn names cs fun (x : Str × NameKind) (r : List (Str × Addr)) => (match x with
   | (name, kind) => if (kind == NameKind.free) = true then (cellOf env name >>= fun a => pure (ForInStep.yield ((name, a) :: r)) : Sem (ForInStep (List (Str × Addr)))) else pure (ForInStep.yield r))) = pure (clOf env names cs)
 | [], cs, _ => rfl
 | (n, k) :: r, cs, h => by
  have ih := fun cs' => clos_forIn r cs' fun y hy => h y (List.mem_cons_of_mem _ hy)
  rw [List.forIn_cons]
  by_cases hk : k = .free
  ·subst hk
   obtain ⟨c, hc⟩ := h (n, .free) List.mem_cons_self rfl
   have e : cellOf env n = pure c := by unfold cellOf; rw [hc]
   simp only [beq_self_eq_true, if_true, e, pure_bind]
   rw [ih]
   show _ = pure (clOf env r (if (NameKind.free == NameKind.free) = true then _ else _))
   rw [hc]; rfl
  ·have hb : (k == NameKind.free) = false := by simpa using hk
   simp only [hb, Bool.false_eq_true, if_false, pure_bind]
   rw [ih]
   show _ = pure (clOf env r (if (k == NameKind.free) = true then _ else _))
   rw [hb]; rfl
theorem closureFor_clOf {env : Env} {scope : Scope} (h : ∀ y ∈ scope.names, y.2 = .free → ∃ c, env.cells.lookup y.1 = some c) : closureFor scope env = pure (clOf env scope.names []) := by
 unfold closureFor
 have e := clos_forIn (env := env) scope.names [] h
 show ((forIn scope.names [] _ : Sem (List (Str × Addr))) >>= fun cs => pure cs) = _
 rw [bind_pure]
 refine Eq.trans ?_ e
 first
  | rfl
  | (congr 1; funext x r; obtain ⟨n, k⟩ := x; dsimp only; split <;> simp)
theorem mem_clOf {env : Env} {x : Str} {c : Addr} : ∀ (names : List (Str × NameKind)) (cs : List (Str × Addr)), (x, c) ∈ clOf env names cs → (x, c) ∈ cs ∨ ((x, NameKind.free) ∈ names ∧ c = (env.cells.lookup x).getD 0)
 | [], cs, h => .inl h
 | (n, k) :: r, cs, h => by
  have h' : (x, c) ∈ clOf env r (if (k == NameKind.free) = true then (n, (env.cells.lookup n).getD 0) :: cs else cs) := h
  rcases mem_clOf r _ h' with z | ⟨z1, z2⟩
  ·by_cases hk : k = .free
   ·subst hk
    simp only [beq_self_eq_true, if_true, List.mem_cons] at z
    rcases z with z | z
    ·cases z; exact .inr ⟨List.mem_cons_self, rfl⟩
    ·exact .inl z
   ·have hb : (k == NameKind.free) = false := by simpa using hk
    rw [hb] at z
    exact .inl z
  ·exact .inr ⟨List.mem_cons_of_mem _ z1, z2⟩
theorem clOf_mono {env : Env} {p : Str × Addr} : ∀ (names : List (Str × NameKind)) (cs : List (Str × Addr)), p ∈ cs → p ∈ clOf env names cs
 | [], cs, h => h
 | (n, k) :: r, cs, h => by
  show p ∈ clOf env r (if (k == NameKind.free) = true then (n, (env.cells.lookup n).getD 0) :: cs else cs)
  refine clOf_mono r _ ?_
  split
  ·exact List.mem_cons_of_mem _ h
  ·exact h
theorem clOf_has {env : Env} {x : Str} : ∀ (names : List (Str × NameKind)) (cs : List (Str × Addr)), (x, NameKind.free) ∈ names → (x, (env.cells.lookup x).getD 0) ∈ clOf env names cs
 | [], _, h => by cases h
 | (n, k) :: r, cs, h => by
  show _ ∈ clOf env r (if (k == NameKind.free) = true then (n, (env.cells.lookup n).getD 0) :: cs else cs)
  rcases List.mem_cons.mp h with z | z
  ·cases z
   exact clOf_mono r _ (by simp)
  ·exact clOf_has r _ z
theorem mem_of_lookup' {α β : Type} [BEq α] [LawfulBEq α] {x : α} {c : β} : ∀ {l : List (α × β)}, l.lookup x = some c → (x, c) ∈ l
 | [], h => by simp at h
 | (n, k) :: r, h => by
  rw [List.lookup_cons] at h
  by_cases e : x = n
  ·subst e; simp at h; subst h; exact List.mem_cons_self
  ·have : (x == n) = false := by simpa using e
   rw [this] at h
   exact List.mem_cons_of_mem _ (mem_of_lookup' h)
theorem lookup_of_mem' {α β : Type} [BEq α] [LawfulBEq α] {x : α} {c : β} : ∀ {l : List (α × β)}, (x, c) ∈ l → ∃ c', l.lookup x = some c'
 | [], h => by cases h
 | (n, k) :: r, h => by
  rw [List.lookup_cons]
  by_cases e : x = n
  ·subst e; simp
  ·have q : (x == n) = false := by simpa using e
   rw [q]
   rcases List.mem_cons.mp h with z | z
   ·cases z; exact absurd rfl e
   ·exact lookup_of_mem' z
theorem lookup_relabel_mem {env : Env} {x : Str} {k' : NameKind} : ∀ {names : List (Str × NameKind)},
  (names.map fun (n, k) => if (k == NameKind.free && env.scope.kind == .function && env.kindOf n == some .cell) then (n, NameKind.cell) else (n, k)).lookup x = some k' →
  (x, k') ∈ names ∨ (k' = .cell ∧ (x, NameKind.free) ∈ names)
 | [], h => by simp at h
 | (n, k) :: r, h => by
  rw [List.map_cons, List.lookup_cons] at h
  dsimp only at h
  by_cases e : x = n
  ·subst e
   by_cases hc : (k == NameKind.free && env.scope.kind == .function && env.kindOf x == some .cell) = true
   ·rw [if_pos hc] at h
    simp at h
    have hk : k = .free := by
     simp only [Bool.and_eq_true, beq_iff_eq] at hc
     exact hc.1.1
    subst hk
    exact .inr ⟨h.symm, List.mem_cons_self⟩
   ·rw [if_neg hc] at h
    simp at h
    subst h
    exact .inl List.mem_cons_self
  ·have q : (x == (if (k == NameKind.free && env.scope.kind == .function && env.kindOf n == some .cell) = true then (n, NameKind.cell) else (n, k)).1) = false := by
    split <;> simpa using e
   rw [q] at h
   rcases lookup_relabel_mem h with z | ⟨z1, z2⟩
   ·exact .inl (List.mem_cons_of_mem _ z)
   ·exact .inr ⟨z1, List.mem_cons_of_mem _ z2⟩
structure CompScope (X : Cx) (scope : Scope) (own frn : List Str) (frj : List Nat) : Prop where
 cell : ∀ y ∈ scope.names, y.2 ≠ .cell
 kind : scope.kind = .function
 names : ∀ y ∈ scope.names, y.2 = .local → scope.names.lookup y.1 = some .local
 free : ∀ y ∈ scope.names, y.2 = .free → X.env.scope.names.lookup y.1 = some .cell ∨ X.env.scope.names.lookup y.1 = some .free
 frl : frj.length = frn.length
 frN : ∀ (i j : Nat), frj[i]? = some j → X.N[j]? = frn[i]?
 frF : ∀ x ∈ frn, (x, NameKind.free) ∈ scope.names ∧ scope.names.lookup x = some .free
def cxComp (X : Cx) (own frn : List Str) (scope : Scope) (C : Addr) (s₃ : Shared) (H₃ : Hp) (fp : List Addr) : Cx :=
 { X with N := own ++ frn, s₀ := s₃, H₀ := H₃, env := compEnvC scope (clOf X.env scope.names []) C X.env, outer := X.stack, stack := X.stack, ex := fp, fn := fun _ => false, pn := [], xe := fun _ _ => False }
def startC (own : List Str) (frj : List Nat) (σ : St) : St := List.replicate own.length none ++ frj.map fun j => (σ[j]?).join
section
variable {X : Cx} {pins : List (Addr × Obj)} {σ : List (Option V)} {H : Hp} {s : Shared} {scope : Scope} {own frn : List Str} {frj : List Nat}
theorem CompScope.cells (sc : CompScope X scope own frn frj) (ok : X.Ok) : ∀ y ∈ scope.names, y.2 = .free → ∃ c, X.env.cells.lookup y.1 = some c := fun y hy hf => by
 rcases sc.free y hy hf with z | z
 ·exact ok.has y.1 (.inl z)
 ·exact ok.has y.1 (.inr z)
theorem CompScope.look (sc : CompScope X scope own frn frj) (ok : X.Ok) {x : Str} {c : Addr} (h : (clOf X.env scope.names []).lookup x = some c) : X.env.cells.lookup x = some c ∧ (x, NameKind.free) ∈ scope.names := by
 rcases mem_clOf _ _ (mem_of_lookup' h) with z | ⟨z1, z2⟩
 ·cases z
 ·obtain ⟨c', hc⟩ := sc.cells ok (x, .free) z1 rfl
  have hc' : X.env.cells.lookup x = some c' := hc
  rw [hc'] at z2
  have z3 : c = c' := z2
  subst z3
  exact ⟨hc', z1⟩
theorem CompScope.lookF (sc : CompScope X scope own frn frj) (ok : X.Ok) {x : Str} (h : (x, NameKind.free) ∈ scope.names) : ∃ c, (clOf X.env scope.names []).lookup x = some c ∧ X.env.cells.lookup x = some c := by
 obtain ⟨c, hc⟩ := lookup_of_mem' (clOf_has (env := X.env) scope.names [] h)
 exact ⟨c, hc, (sc.look ok hc).1⟩
theorem Inv.block {fp : List Addr} {h₄ : Heap} {tk : Nat} (I : Inv X pins σ H s) (sc : CompScope X scope own frn frj) (hfp : ∀ b ∈ fp, FpOk X pins H b) (hfl : ∀ b ∈ fp, b < s.heap.objs.size)
  (k : ∀ b o, s.heap.get? b = some o → h₄.get? b = some o) (hn : h₄.Ns s.heap.objs.size fun _ => none) :
  Inv (cxComp X own frn scope s.heap.objs.size s H fp) [] (startC own frj σ) H { s with heap := h₄, toks := tk } := by
 have ok := I.ok
 refine ⟨⟨ok.mod, by show (relabel scope X.env).kind = _; exact sc.kind, ok.glob, ok.blt, Nat.le_refl _, ?_, ?_, fun x c h => (nomatch h), ok.hd, ok.frames, .inl rfl, ?_, fun b o e => I.bs b o e, Nat.le_trans ok.bsz I.sz, ?_, ?_, I.stack, I.stkFree⟩, rfl, I.bare, Un.kept k, ?_, ?_, I.fresh, ?_, fun p hp => (nomatch hp), I.hok.kept k, ?_⟩
 ·intro x y c e1 e2
  exact ok.inj x y c (sc.look ok e1).1 (sc.look ok e2).1
 ·intro x h
  have mem : (x, NameKind.free) ∈ scope.names := by
   rcases h with h | h
   ·rcases lookup_relabel_mem h with z | ⟨_, z⟩
    ·exact absurd rfl (sc.cell _ z)
    ·exact z
   ·rcases lookup_relabel_mem h with z | ⟨z, _⟩
    ·exact z
    ·cases z
  obtain ⟨c, hc, _⟩ := sc.lookF ok mem
  exact ⟨c, hc⟩
 ·intro b hb
  obtain ⟨f0, f1, f2, f3, f4, f5⟩ := hfp b hb
  exact ⟨Nat.ne_of_lt (hfl b hb), fun x c e => f4 x c (sc.look ok e).1⟩
 ·intro b o e hb
  rcases (hfp b hb).2.2.2.1 with z | z
  ·exact ok.noex b o e z
  ·exact absurd (Nat.lt_of_lt_of_le (Heap.lt_size e) (Nat.le_trans ok.bsz z)) (Nat.lt_irrefl _)
 ·intro b hb hfs
  obtain ⟨f0, f1, f2, _⟩ := hfp b hb
  rcases List.mem_cons.mp (I.stkSub b hfs) with z | z
  ·exact f1 z
  ·exact f2 z
 ·refine ⟨_, hn, fun i x v e1 e2 e3 => ?_⟩
  have e1' : (own ++ frn)[i]? = some x := e1
  have e2' : (List.replicate own.length none ++ frj.map fun j => (σ[j]?).join)[i]? = some (some v) := e2
  by_cases hi : i < own.length
  ·rw [List.getElem?_append_left (by simpa using hi)] at e2'
   rw [List.getElem?_replicate] at e2'
   split at e2' <;> cases e2'
  ·rw [List.getElem?_append_right (by simp; omega), List.length_replicate] at e2'
   rw [List.getElem?_append_right (by omega)] at e1'
   rw [List.getElem?_map] at e2'
   cases ej : frj[i - own.length]? with
   | none => rw [ej] at e2'; cases e2'
   | some j =>
    rw [ej] at e2'
    have e2'' : (σ[j]?).join = some v := by simpa using e2'
    have e4 : σ[j]? = some (some v) := by
     cases q : σ[j]? with
     | none => rw [q] at e2''; cases e2''
     | some o => rw [q] at e2''; simpa using e2''
    have e5 := (sc.frN _ j ej).trans e1'
    obtain ⟨hm, hlk⟩ := sc.frF x (List.mem_of_getElem? e1')
    obtain ⟨m, hnL, hl⟩ := I.loc
    have hv : Vis X.env.scope x := by
     rcases sc.free (x, .free) hm rfl with z | z
     ·exact .inr (.inl z)
     ·exact .inr (.inr z)
    obtain ⟨u, r, lk⟩ := hl j x v e5 e4 hv
    refine ⟨u, r, .inr ?_⟩
    obtain ⟨c, hc, hc'⟩ := sc.lookF ok hm
    have cellOk : h₄.IsCell c (some u) := by
     rcases lk with ⟨z, _⟩ | ⟨_, c', hx, ⟨o, ho, hd⟩⟩
     ·exfalso
      have z' : X.env.scope.names.lookup x = some .local := z
      rcases sc.free (x, .free) hm rfl with q | q
      ·rw [show X.env.scope.names.lookup x = some .cell from q] at z'; cases z'
      ·rw [show X.env.scope.names.lookup x = some .free from q] at z'; cases z'
     ·rw [hc'] at hx; cases hx
      exact ⟨o, k _ o ho, hd⟩
    refine ⟨?_, c, hc, cellOk⟩
    have e3' : Vis (relabel scope X.env) x := e3
    rcases e3' with z | z | z
    ·exfalso
     rcases lookup_relabel_mem z with q | ⟨q, _⟩
     ·have := sc.names _ q rfl
      rw [show scope.names.lookup x = some .local from this] at hlk
      cases hlk
     ·cases q
    ·exact .inl z
    ·exact .inr z
 ·intro x c e
  obtain ⟨v, o, ho, hd⟩ := I.cell x c (sc.look ok e).1
  exact ⟨v, o, k _ o ho, hd⟩
 ·intro x c e
  exact I.freeC x c (sc.look ok e).1
 ·show (List.replicate own.length none ++ frj.map fun j => (σ[j]?).join).length = (own ++ frn).length
  simp [sc.frl]
end
theorem codeAny_compLoop_any {prog : Program} {w : World} {A : Around} {R : Result → Shared → Prop} {s : Shared} {elt target iter : Expr} {ifs : List Expr} {scope : Scope} {pos : Pos} {it acc : Value} {env : Env} (I : Nat → Shared → Prop)
  (turn : ∀ n s, I n s → wpAny (model prog w) A (pyNext it) (fun r s₁ => match r with
   | none => R (.ok .next) s₁
   | some v => wpAny (model prog w) A (letOwnedTupleGo target it v) (fun _ s₁' => wpAny (model prog w) A (assign target env v) (fun _ s₂ =>
     wpAny (model prog w) A (forIn ifs true fun c r => if r = true then do let ok ← isTrue c env (eval c env); pure (ForInStep.yield ok) else pure (ForInStep.yield r)) (fun ok s₃ =>
      if ok = true then wpAny (model prog w) A (eval elt env) (fun x s₄ =>
       wpAny (model prog w) A (call (.builtin "list.append") [acc, x]) (fun _ s₅ => ∃ m, m < n ∧ I m s₅) (fun _ _ => False) s₄) (fun _ _ => False) s₃
      else ∃ m, m < n ∧ I m s₃) (fun _ _ => False) s₂) (fun _ _ => False) s₁') (fun _ _ => False) s₁) (fun _ _ => False) s)
  (n : Nat) (h : I n s) :
  codeAny (model prog w) A (.compLoop (.ListComp elt [⟨target, iter, ifs, 0⟩] scope pos) 0 it acc env) R s := by
 refine codeAny_loop rfl I (fun n s hI => ?_) n h
 show wpAny _ A ((compTurn (.ListComp elt [⟨target, iter, ifs, 0⟩] scope pos) 0 it acc env).onRaise (fun x => do noteFrame x env; theTreesLotGoes x)) _ _ s
 refine wpAny_noted ?_
 rw [compTurn_list]
 refine wpAny_bind (wpAny_standAt (wpAny_bind (wpAny_mono (turn n s hI) (fun r s₁ h₁ => ?_) fun _ _ h' => h'.elim)))
 cases r with
 | none => exact wpAny_pure h₁
 | some v =>
  refine wpAny_bind (wpAny_mono h₁ (fun _ s₁' h₁' => ?_) fun _ _ h' => h'.elim)
  refine wpAny_bind (wpAny_mono h₁' (fun _ s₂ h₂ => wpAny_bind (wpAny_mono h₂ (fun ok s₃ h₃ => ?_) fun _ _ h' => h'.elim)) fun _ _ h' => h'.elim)
  cases ok with
  | false => exact wpAny_pure ⟨rfl, h₃⟩
  | true =>
   exact wpAny_bind (wpAny_bind (wpAny_mono h₃ (fun x s₄ h₄ => wpAny_bind (wpAny_mono h₄ (fun _ s₅ h₅ => wpAny_pure (wpAny_pure ⟨rfl, h₅⟩)) fun _ _ h' => h'.elim)) fun _ _ h' => h'.elim))
def PIfs (X : Cx) (ifs : List Expr) (t : TT) : Prop :=
 ∀ (pins : List (Addr × Obj)) (s : Shared) (σ : St) (H : Hp) (Q : Bool → Hp → Prop), Inv X pins σ H s → t σ H Q →
  wpAny (model X.prog X.w) X.A (forIn ifs true fun c r => if r = true then do let ok ← isTrue c X.env (eval c X.env); pure (ForInStep.yield ok) else pure (ForInStep.yield r)) (TP X pins σ Q) X.xe s
def tTrue : TT := fun _ H Q => Q true H
theorem pifs_nil {X : Cx} : PIfs X [] tTrue := fun _ _ _ H _ I h => wpAny_tests_nil ⟨H, I, h⟩
theorem pifs_one {X : Cx} {c : Expr} {t : TT} (h : PT X c t) : PIfs X [c] t := fun pins s σ H Q I hq => wpAny_tests_one (h pins s σ H Q I hq)
def cLoop (J : It) (g : TG) (tt : TT) (te : TE) (D : Addr) (σ : St) (H : Hp) (R : Hp → Prop) : Prop :=
 ∃ W : Nat → Nat → St → Hp → Prop, (∃ m, W 0 m σ H) ∧ ∀ i m σ H, W i m σ H → (J.stop i H ∧ R H) ∨ (J.go i H ∧ ∃ N : St → Hp → Prop, (∀ σ' H', N σ' H' → ∃ m', m' < m ∧ W (i + 1) m' σ' H') ∧
  ∀ x H', J.yld i H x H' → g x σ H' fun σ2 H2 => tt σ2 H2 fun b H3 => if b = true then te σ2 H3 fun y H4 => ∃ ys, H4 D = some (.lst ys) ∧ ys.length < sizeLine ∧ N σ2 (upd H4 D (.lst (ys ++ [y]))) else N σ2 H3)
section
variable {X : Cx} {scope : Scope} {own frn : List Str} {frj : List Nat} {elt tg iter : Expr} {ifs : List Expr} {pos : Pos} {g : TG} {tt : TT} {te : TE}
theorem comp_block {pins : List (Addr × Obj)} {σ : St} {H : Hp} {s : Shared} {J : It} {fp : List Addr} {it : Addr} {tn : Nat → Heap → Prop} {R : Addr → Hp → Prop} {RR : Value → Addr → Result → Shared → Prop} {E : Value → Shared → Prop}
  (sc : CompScope X scope own frn frj) (hc : X.calm = true)
  (hg : ∀ C s₃ H₃ fp, PG (cxComp X own frn scope C s₃ H₃ fp) tg g) (ht : ∀ C s₃ H₃ fp, PIfs (cxComp X own frn scope C s₃ H₃ fp) ifs tt) (he : ∀ C s₃ H₃ fp, PE (cxComp X own frn scope C s₃ H₃ fp) elt te)
  (I : Inv X pins σ H s) (T : Turn X.prog X.w X.K tg J fp it tn) (st : tn 0 s.heap) (hfp : ∀ b ∈ fp, FpOk X pins H b)
  (h : ∀ D, H D = none → cLoop J g tt te D (startC own frj σ) (upd H D (.lst [])) (R D))
  (hRR : ∀ D C H' s' m, Inv X pins σ H' s' → s.heap.objs.size ≤ C → s'.heap.Ns C m → H' C = none → R D H' → RR (.ref D) C (.ok .next) s') :
  wpAny (model X.prog X.w) X.A (newList []) (fun acc s₃ => wpAny (model X.prog X.w) X.A (newFunctionEnv scope X.env.globals (clOf X.env scope.names []) [] X.env.qual none .none (some X.env)) (fun cenv s₄ =>
   codeAny (model X.prog X.w) X.A (.compStart (.ListComp elt [⟨tg, iter, ifs, 0⟩] scope pos) 0 (.ref it) acc { cenv with scope := relabel scope X.env }) (RR acc cenv.locals) s₄) E s₃) E s := by
 refine wpAny_newObj_type (wpAny_newFunctionEnv sc.cell (by intro y hy; simp at hy) (fun h₁ hns₁ hsb₁ => ?_) sc.kind)
 dsimp only at hns₁ hsb₁ ⊢
 have hD := I.fresh
 have I3 : Inv X pins σ (upd H s.heap.objs.size (.lst [])) { s with heap := s.heap.push { cls := .type "list", dict := none, data := .seq ([] : List Value).toArray } } := I.lnew (its := []) (t' := s.toks) .nil (Nat.zero_le _)
 have hsz : (s.heap.push { cls := .type "list", dict := none, data := .seq ([] : List Value).toArray }).objs.size = s.heap.objs.size + 1 := Heap.size_push ..
 generalize hs3 : ({ s with heap := s.heap.push { cls := .type "list", dict := none, data := .seq ([] : List Value).toArray } } : Shared) = s₃ at I3
 have hh3 : s.heap.push { cls := .type "list", dict := none, data := .seq ([] : List Value).toArray } = s₃.heap := by rw [← hs3]
 rw [hh3] at hns₁ hsb₁ hsz ⊢
 have hfl : ∀ b ∈ fp, b < s.heap.objs.size := fun b hb => by
  obtain ⟨o, e, _⟩ := T.obj 0 _ st b hb
  exact Heap.lt_size e
 have hfp3 : ∀ b ∈ fp, FpOk X pins (upd H s.heap.objs.size (.lst [])) b := fun b hb => by
  obtain ⟨f0, f⟩ := hfp b hb
  exact ⟨by rw [upd_ne (Nat.ne_of_lt (hfl b hb))]; exact f0, f⟩
 have hfl3 : ∀ b ∈ fp, b < s₃.heap.objs.size := fun b hb => by rw [hsz]; exact Nat.lt_succ_of_lt (hfl b hb)
 have k4 : ∀ b o, s₃.heap.get? b = some o → h₁.get? b = some o := fun b o e => (hsb₁.2 b (Nat.ne_of_lt (Heap.lt_size e))).trans (Heap.get?_push_of_some _ e)
 have k3 : ∀ b o, s.heap.get? b = some o → s₃.heap.get? b = some o := fun b o e => by rw [← hh3]; exact Heap.get?_push_of_some _ e
 have hnone : (fun x : Str => List.lookup x ([] : List (Str × Value)).reverse) = fun _ => none := by funext x; rfl
 have hns₁' : h₁.Ns s₃.heap.objs.size fun _ => none := by
  have q := hns₁
  first
   | exact q
   | (rw [hnone] at q; exact q)
 have I4 := I3.block (own := own) (tk := s.toks + ([] : List (Str × Value)).length) sc hfp3 hfl3 k4 hns₁'
 have st4 : tn 0 h₁ := T.keep _ _ _ st fun b hb o e => k4 b o (k3 b o e)
 generalize hX : cxComp X own frn scope s₃.heap.objs.size s₃ (upd H s.heap.objs.size (.lst [])) fp = X' at I4
 have hXp : X'.prog = X.prog := by rw [← hX]; rfl
 have hXw : X'.w = X.w := by rw [← hX]; rfl
 have hXK : X'.K = X.K := by rw [← hX]; rfl
 have hXA : X'.A = X.A := by rw [← hX]; rfl
 have hXc : X'.calm = true := by rw [← hX]; exact hc
 have hXx : X'.xe = fun _ _ => False := by rw [← hX]; rfl
 have hXe : X'.env = compEnvC scope (clOf X.env scope.names []) s₃.heap.objs.size X.env := by rw [← hX]; rfl
 have hg' : PG X' tg g := by rw [← hX]; exact hg _ _ _ _
 have ht' : PIfs X' ifs tt := by rw [← hX]; exact ht _ _ _ _
 have he' : PE X' elt te := by rw [← hX]; exact he _ _ _ _
 have ofX : ∀ {H' : Hp} {s' : Shared} {σ' : St}, Inv X' [] σ' H' s' → Inv X pins σ H' s' ∧ (∃ m, s'.heap.Ns s₃.heap.objs.size m) ∧ H' s₃.heap.objs.size = none := by
  intro H' s' σ' I'
  subst hX
  refine ⟨I3.call' (ch := fp) I'.os I'.base I'.hok I'.bare fun b hb => ?_, let ⟨m, hn, _⟩ := I'.loc; ⟨m, hn⟩, I'.free⟩
  obtain ⟨f0, f1, f2, f3, f4, f5⟩ := hfp3 b hb
  exact ⟨f3, f1, f4, f5⟩
 have stat : ∀ {H' : Hp}, (∀ b ∈ fp, H' b = none) → ∀ b ∈ fp, FpOk X' [] H' b := by
  intro H' hn b hb
  subst hX
  obtain ⟨a1, a2⟩ := I4.ok.exf b hb
  exact ⟨hn b hb, a1, I4.ok.exfs b hb, .inl hb, a2, fun p hp => by cases hp⟩
 obtain ⟨W, ⟨m0, w0⟩, turn⟩ := h s.heap.objs.size hD
 have loop : codeAny (model X.prog X.w) X.A (.compLoop (.ListComp elt [⟨tg, iter, ifs, 0⟩] scope pos) 0 (.ref it) (.ref s.heap.objs.size) X'.env) (RR (.ref s.heap.objs.size) s₃.heap.objs.size)
   { s₃ with heap := h₁, toks := s.toks + ([] : List (Str × Value)).length } := by
  refine codeAny_compLoop_any (fun n s' => ∃ i σ' H', Inv X' [] σ' H' s' ∧ tn i s'.heap ∧ (∀ b ∈ fp, H' b = none) ∧ W i n σ' H') ?_ m0 ⟨0, _, _, I4, st4, fun b hb => (hfp3 b hb).1, w0⟩
  rintro n s5 ⟨i, σ5, H5, I5, st5, fr5, w5⟩
  rw [← hXp, ← hXw, ← hXA]
  have hxe : ∀ {α : Type} {t : Sem α} {Q : α → Shared → Prop} {s : Shared}, wpAny (model X'.prog X'.w) X'.A t Q X'.xe s → wpAny (model X'.prog X'.w) X'.A t Q (fun _ _ => False) s := fun h => by rw [hXx] at h; exact h
  have T' : Turn X'.prog X'.w X'.K tg J fp it tn := by rw [hXp, hXw, hXK]; exact T
  rcases turn i n σ5 H5 w5 with ⟨stop, q⟩ | ⟨go, N, hN, step⟩
  ·refine thn (T'.done X' rfl rfl rfl hXc i [] s5 σ5 H5 _ I5 (stat fr5) st5 stop) fun r s6 ⟨hr, I6⟩ => ?_
   subst hr
   obtain ⟨J1, ⟨m, J2⟩, J3⟩ := ofX I6
   exact hRR _ _ H5 s6 m J1 (by rw [hsz]; exact Nat.le_succ _) J2 J3 q
  ·refine thn (T'.item X' rfl rfl rfl hXc i [] s5 σ5 H5 _ I5 (stat fr5) st5 go) fun r s6 ⟨u, hr, h6⟩ => ?_
   subst hr
   refine thn h6 fun _ s7 ⟨x, H7, I7, r7, y7, st7, fr7⟩ => ?_
   have I7' := I7.pinned (stat fr7) (T'.obj _ _ st7)
   have again : ∀ {s9 : Shared} {σ9 : St} {H9 : Hp}, Inv X' ([] ++ pinsAt fp s7.heap) σ9 H9 s9 → N σ9 H9 → ∃ m, m < n ∧ ∃ i σ' H', Inv X' [] σ' H' s9 ∧ tn i s9.heap ∧ (∀ b ∈ fp, H' b = none) ∧ W i m σ' H' := fun {s9 σ9 H9} I9 n9 => by
    obtain ⟨m', hm, w9⟩ := hN σ9 H9 n9
    refine ⟨m', hm, i + 1, σ9, H9, I9.unpinned, T'.keep _ _ _ st7 fun b hb o e => (I9.pin (b, o) (List.mem_append_right _ (List.mem_append_right _ (mem_pinsAt hb e)))).1, fun b hb => ?_, w9⟩
    obtain ⟨o, e, d⟩ := T'.obj _ _ st7 b hb
    exact (I9.pin (b, o) (List.mem_append_right _ (List.mem_append_right _ (mem_pinsAt hb e)))).2.1
   refine thn (hxe (hg' _ s7 σ5 H7 x u _ I7' r7 (step x H7 y7))) fun _ s8 ⟨σ8, H8, I8, q8⟩ => ?_
   refine thn (hxe (ht' _ s8 σ8 H8 _ I8 q8)) fun b s9 ⟨H9, I9, q9⟩ => ?_
   cases b with
   | false => exact again I9 (by simpa using q9)
   | true =>
    rw [if_pos rfl] at q9
    refine thn (hxe (he' _ s9 σ8 H9 _ I9 q9)) fun y s10 ⟨v, H10, I10, r10, q10⟩ => ?_
    obtain ⟨ys, e10, z10, n10⟩ := q10
    refine thn (hxe (mt_append _ s10 σ8 H10 (.ref s.heap.objs.size) [v] (.ref s.heap.objs.size) [y] (fun _ H' => H' = upd H10 s.heap.objs.size (.lst (ys ++ [v]))) I10 rfl (.cons r10 .nil) ⟨_, ys, v, rfl, rfl, e10, z10, rfl⟩)) fun u s11 ⟨v', H11, I11, _, e11⟩ => ?_
    subst e11
    exact again I11 n10
 rw [hXe] at loop
 have e4 : ({ s with heap := h₁, toks := s.toks + ([] : List (Str × Value)).length } : Shared) = { s₃ with heap := h₁, toks := s.toks + ([] : List (Str × Value)).length } := by rw [← hs3]
 rw [e4]
 exact codeAny_compStart_list loop (T.self _ 0 _ _ _ st4 loop)
end
def tComp (own : List Str) (frj : List Nat) (wi : TI) (g : TG) (tt : TT) (te : TE) : TE := fun σ H Q => wi σ H fun J H1 => ∀ D, H1 D = none → cLoop J g tt te D (startC own frj σ) (upd H1 D (.lst [])) fun H' => Q (.ref D) H'
section
variable {X : Cx} {scope : Scope} {own frn : List Str} {frj : List Nat} {elt tg iter : Expr} {ifs : List Expr} {pos : Pos} {wi : TI} {g : TG} {tt : TT} {te : TE}
theorem pe_comp (sc : CompScope X scope own frn frj) (hc : X.calm = true) (hi : PI X tg iter wi)
  (hg : ∀ C s₃ H₃ fp, PG (cxComp X own frn scope C s₃ H₃ fp) tg g) (ht : ∀ C s₃ H₃ fp, PIfs (cxComp X own frn scope C s₃ H₃ fp) ifs tt) (he : ∀ C s₃ H₃ fp, PE (cxComp X own frn scope C s₃ H₃ fp) elt te)
  (hs : ∀ x, foldedSetIterable iter X.env x = pure x := by intro _; rfl) : PE X (.ListComp elt [⟨tg, iter, ifs, 0⟩] scope pos) (tComp own frj wi g tt te) := by
 intro pins s σ H Q I h
 rw [eval_ListComp]
 refine wpAny_comprehension_free (use := none) rfl hs (closureFor_clOf (sc.cells I.ok)) sc.kind sc.names (thn (hi pins s σ H _ I h) fun v s1 h1 => thn h1 fun itv s2 h2 => ?_)
 obtain ⟨it, fp, tn, J, H2, e, I2, T, st2, f2, q⟩ := h2
 subst e
 refine comp_block (RR := fun acc C => compPost (model X.prog X.w) X.A X.xe none (EP X pins σ Q) acc C) (R := fun D H' => Q (.ref D) H') sc hc hg ht he I2 T st2 f2 q ?_
 intro D C H' s' m I' hC hn hf hq
 refine ⟨m, hn, fun h' sb => ?_⟩
 obtain ⟨f0, f1, f2, f3, f4, f5⟩ := I2.fpOk (H' := H') hC hf
 exact ⟨.ref D, H', I'.turned (t' := s'.toks) (it := C) (fun b o hb e => (sb.2 b hb).trans e) f0 f1 f3 f4 f5, rfl, hq⟩
theorem ps_setComp {i : Nat} {y : Str} {py spos : Pos} (sc : CompScope X scope own frn frj) (hc : X.calm = true) (hi : PI X tg iter wi)
  (hg : ∀ C s₃ H₃ fp, PG (cxComp X own frn scope C s₃ H₃ fp) tg g) (ht : ∀ C s₃ H₃ fp, PIfs (cxComp X own frn scope C s₃ H₃ fp) ifs tt) (he : ∀ C s₃ H₃ fp, PE (cxComp X own frn scope C s₃ H₃ fp) elt te)
  (hN : X.N.Nodup) (hi' : X.N[i]? = some y) (hx : X.env.scope.names.lookup y = some .local)
  (hsw : swapsWith (.ListComp elt [⟨tg, iter, ifs, 0⟩] scope pos) (some (.Name y py)) spos.line X.env = pure true := by rfl)
  (hs : ∀ x, foldedSetIterable iter X.env x = pure x := by intro _; rfl) : PS X (.Assign [.Name y py] (.ListComp elt [⟨tg, iter, ifs, 0⟩] scope pos) spos) (tAsg (tComp own frj wi g tt te) (gName i)) := by
 intro pins s σ H D I h
 rw [exec_Assign_Name_used _ _ _ _ hsw]
 refine wpAny_bind (wpAny_standAt (wpAny_bind ?_))
 show wpAny _ X.A (do let _ ← comprehension (.ListComp elt [⟨tg, iter, ifs, 0⟩] scope pos) scope X.env _ (newList []) false (eval iter X.env) (some (assign (.Name y py) X.env))) _ _ s
 refine wpAny_bind (wpAny_mono (wpAny_comprehension_free (use := some (assign (.Name y py) X.env)) (Q := fun _ s' => SP X pins D .next s') rfl hs (closureFor_clOf (sc.cells I.ok)) sc.kind sc.names
  (thn (hi pins s σ H _ I h) fun v s1 h1 => thn h1 fun itv s2 h2 => ?_)) (fun _ s' hq => wpAny_pure (wpAny_pure hq)) fun _ _ e => e)
 obtain ⟨it, fp, tn, J, H2, e, I2, T, st2, f2, q⟩ := h2
 subst e
 refine comp_block (RR := fun acc C => compPost (model X.prog X.w) X.A X.xe (some (assign (.Name y py) X.env)) (fun _ s' => SP X pins D .next s') acc C) (R := fun E H' => D.nx (σ.set i (some (.ref E))) H') sc hc hg ht he I2 T st2 f2 q ?_
 intro E C H' s' m I' hC hn hf hq
 show wpAny _ X.A (assign (.Name y py) X.env (.ref E)) _ _ _
 obtain ⟨f0, f1, f2, f3, f4, f5⟩ := I2.fpOk (H' := H') hC hf
 refine wpAny_assign_Name (store_ok2 I' hN hi' (.inl hx) (v := .ref E) (u := .ref E) rfl (fun s3 I3 ⟨a, sb, ha⟩ => ?_) (.inr hx))
 have hCa : C ≠ a := by
  rcases ha with z | z
  ·rw [z]; exact f1
  ·exact (f4 y a z).symm
 refine ⟨m, hn.sameBut sb hCa, fun h' sb' => ?_⟩
 exact ⟨_, H', I3.turned (t' := s3.toks) (it := C) (fun b o hb e => (sb'.2 b hb).trans e) f0 f1 f3 f4 f5, hq⟩
end
theorem comp_range {lo : Int} {n : Nat} {g : TG} {tt : TT} {te : TE} {D : Addr} {σ : St} {H : Hp} {R : Hp → Prop} (Pv : Nat → St → Hp → Prop) (h0 : Pv 0 σ H)
  (hs : ∀ i σ H, i < n → Pv i σ H → g (.int (lo + i)) σ H fun σ2 H2 => tt σ2 H2 fun b H3 => if b = true then te σ2 H3 fun y H4 => ∃ ys, H4 D = some (.lst ys) ∧ ys.length < sizeLine ∧ Pv (i + 1) σ2 (upd H4 D (.lst (ys ++ [y]))) else Pv (i + 1) σ2 H3)
  (hd : ∀ σ H, Pv n σ H → R H) : cLoop (Itr lo n) g tt te D σ H R := by
 refine ⟨fun i m σ H => m = n - i ∧ i ≤ n ∧ Pv i σ H, ⟨n, by simp, Nat.zero_le _, h0⟩, ?_⟩
 rintro i m σ H ⟨rfl, hi, p⟩
 by_cases hlt : i < n
 ·refine .inr ⟨hlt, Pv (i + 1), fun σ' H' p' => ⟨n - (i + 1), by omega, rfl, hlt, p'⟩, fun x H' y => ?_⟩
  obtain ⟨e, y⟩ := y
  subst e y
  exact hs i σ _ hlt p
 ·have e : i = n := by omega
  subst e
  exact .inl ⟨Nat.le_refl _, hd σ H p⟩
theorem comp_list {K : PySem.W.Frag} {a : Addr} {xs : List V} {g : TG} {tt : TT} {te : TE} {D : Addr} {σ : St} {H : Hp} {R : Hp → Prop} (Pv : Nat → St → Hp → Prop) (h0 : Pv 0 σ H) (hl : ∀ i σ H, i ≤ xs.length → Pv i σ H → SqL K H a xs)
  (hs : ∀ i x σ H, xs[i]? = some x → Pv i σ H → g x σ H fun σ2 H2 => tt σ2 H2 fun b H3 => if b = true then te σ2 H3 fun y H4 => ∃ ys, H4 D = some (.lst ys) ∧ ys.length < sizeLine ∧ Pv (i + 1) σ2 (upd H4 D (.lst (ys ++ [y]))) else Pv (i + 1) σ2 H3)
  (hd : ∀ σ H, Pv xs.length σ H → R H) : cLoop (Itl K a) g tt te D σ H R := by
 refine ⟨fun i m σ H => m = xs.length - i ∧ i ≤ xs.length ∧ Pv i σ H, ⟨xs.length, by simp, Nat.zero_le _, h0⟩, ?_⟩
 rintro i m σ H ⟨rfl, hi, p⟩
 have q := hl i σ H hi p
 by_cases hlt : i < xs.length
 ·refine .inr ⟨⟨xs, xs[i], q, by simp [hlt]⟩, Pv (i + 1), fun σ' H' p' => ⟨xs.length - (i + 1), by omega, rfl, hlt, p'⟩, fun x H' y => ?_⟩
  obtain ⟨e, y⟩ := y
  subst e
  exact hs i x σ _ (y xs q) p
 ·have e : i = xs.length := by omega
  subst e
  exact .inl ⟨⟨xs, q, Nat.le_refl _⟩, hd σ H p⟩
section
variable {X : Cx}
def CDivB (i j : Int) : Prop := 0 < j ∧ j.natAbs.log2 < 9000
theorem op_fdivB : OpR X (binaryOp .FloorDiv) (rI CDivB fun i j => .int (i / j)) := opI fun i j _ _ _ _ _ hc q => by
 obtain ⟨h0, h1⟩ := hc
 refine floordiv_int (by omega) ?_ (.inl (PyProof.noPylong_of_log2 h1))
 rw [Int.fdiv_eq_ediv_of_nonneg _ (by omega)]
 exact q
theorem call_isinst : CallR X (.builtin "isinstance") (fun xs H Q => ∃ (x : V) (t : Value) (T : String) (b : Bool), xs = [x, .ty T] ∧ TyOf X.K H x t ∧ PySem.W.kitOne X.K t (.type T) = some b ∧ Q (.bl b) H) := by
 intro pins s σ H xs us Q I r h
 obtain ⟨x, t, T, b, rfl, ty, e, q⟩ := h
 obtain ⟨u, w', rfl, rx, rT⟩ := vals2 r
 cases (show w' = Value.type T from rT)
 exact isinst_ok I rx ty e fun tk => ⟨.bl b, H, I.tok tk, rfl, q⟩
theorem kit_ii {K : PySem.W.Frag} : PySem.W.kitOne K (.type "int") (.type "int") = some true := by rfl
theorem kit_ib {K : PySem.W.Frag} : PySem.W.kitOne K (.type "int") (.type "bool") = some false := by rfl
theorem kit_ll {K : PySem.W.Frag} : PySem.W.kitOne K (.type "list") (.type "list") = some true := by rfl
theorem kit_tt {K : PySem.W.Frag} : PySem.W.kitOne K (.type "tuple") (.type "tuple") = some true := by rfl
end
def compCheck (scope esc : Scope) (N own frn : List Str) (frj : List Nat) : Bool :=
 scope.names.all (fun y => y.2 != .cell) && scope.kind == .function && scope.names.all (fun y => y.2 != .local || scope.names.lookup y.1 == some .local)
 && scope.names.all (fun y => y.2 != .free || (esc.names.lookup y.1 == some .cell || esc.names.lookup y.1 == some .free))
 && frj.length == frn.length && (List.range frj.length).all (fun i => (frj[i]?).bind (fun j => N[j]?) == frn[i]?)
 && frn.all (fun x => scope.names.contains (x, NameKind.free) && scope.names.lookup x == some .free)
theorem CompScope.mk' {X : Cx} {scope esc : Scope} {N own frn : List Str} {frj : List Nat} (hs : X.env.scope = esc) (hN : X.N = N) (h : compCheck scope esc N own frn frj = true) : CompScope X scope own frn frj := by
 unfold compCheck at h
 simp only [Bool.and_eq_true, List.all_eq_true, bne_iff_ne, beq_iff_eq, Bool.or_eq_true, List.contains_iff_mem] at h
 obtain ⟨⟨⟨⟨⟨⟨h1, h2⟩, h3⟩, h4⟩, h5⟩, h6⟩, h7⟩ := h
 refine ⟨h1, h2, fun y hy hl => ?_, fun y hy hf => ?_, h5, fun i j e => ?_, fun x hx => h7 x hx⟩
 ·rcases h3 y hy with z | z
  ·exact absurd hl z
  ·exact z
 ·rw [hs]
  rcases h4 y hy with z | z
  ·exact absurd hf z
  ·exact z
 ·have hi : i < frj.length := (List.getElem?_eq_some_iff.mp e).1
  have q := h6 i (List.mem_range.mpr hi)
  rw [e] at q
  rw [hN]
  exact q
def KB (d : Addr) (H H' : Hp) : Prop := ∀ b o, H b = some o → b ≠ d → H' b = some o
theorem KB.write {d : Addr} {H : Hp} {o : HO} : KB d H (upd H d o) := fun b o h n => by rw [upd_ne n]; exact h
theorem Same.new {H : Hp} {p : Addr} {o : HO} (h : H p = none) : Same H (upd H p o) := fun b u e => by rw [upd_ne (ne_of_none e h)]; exact e
theorem Same.kbn {d : Addr} {H H1 H2 : Hp} (s : Same H H1) (h : H d = none) (k : KB d H1 H2) : Same H H2 := fun b o e => k b o (s b o e) (ne_of_none e h)
def KTu (H H' : Hp) : Prop := ∀ b xs, H b = some (.tup xs) → H' b = some (.tup xs)
theorem KTu.trans {H H1 H2 : Hp} (a : KTu H H1) (b : KTu H1 H2) : KTu H H2 := fun c o h => b c o (a c o h)
theorem Same.kt {H H' : Hp} (s : Same H H') : KTu H H' := fun b xs h => s b _ h
def Tups (H : Hp) (ps : List Addr) (ls : List (List Int)) : Prop := Paired (fun p (l : List Int) => H p = some (.tup (l.map V.int))) ps ls
theorem Tups.keep {H H' : Hp} {ps : List Addr} {ls : List (List Int)} (t : Tups H ps ls) (k : KTu H H') : Tups H' ps ls := Paired.mapP t fun _ _ h => k _ _ h
theorem paired_append {α β : Type} {F : α → β → Prop} : ∀ {xs ys : List α} {us ws : List β}, Paired F xs us → Paired F ys ws → Paired F (xs ++ ys) (us ++ ws)
 | _, _, _, _, .nil, s => s
 | _, _, _, _, .cons r t, s => .cons r (paired_append t s)
end L2
namespace L2
open PySem
theorem bt_len : bootBuiltins "len" = some (.builtin "len") := by decide +kernel
theorem bt_abs : bootBuiltins "abs" = some (.builtin "abs") := by decide +kernel
theorem bt_isinstance : bootBuiltins "isinstance" = some (.builtin "isinstance") := by decide +kernel
theorem bt_all : bootBuiltins "all" = some (.builtin "all") := by decide +kernel
theorem bt_list : bootBuiltins "list" = some (.type "list") := by decide +kernel
theorem bt_tuple : bootBuiltins "tuple" = some (.type "tuple") := by decide +kernel
theorem bt_int : bootBuiltins "int" = some (.type "int") := by decide +kernel
theorem bt_bool : bootBuiltins "bool" = some (.type "bool") := by decide +kernel
theorem bt_str : bootBuiltins "str" = some (.type "str") := by decide +kernel
end L2
namespace L2
open PySem PySem.Spec PyProof.Rows
def rLen (K : PySem.W.Frag) : List V → Hp → VK → Prop := fun xs H Q => ∃ x n, xs = [x] ∧ LenV K x H n ∧ Q (.int n) H
def rIsi (K : PySem.W.Frag) : List V → Hp → VK → Prop := fun xs H Q => ∃ (x : V) (t : Value) (T : String) (b : Bool), xs = [x, .ty T] ∧ TyOf K H x t ∧ PySem.W.kitOne K t (.type T) = some b ∧ Q (.bl b) H
section
variable {X : Cx}
theorem call_lenK (K : PySem.W.Frag) (hK : X.K = K := by rfl) : CallR X (.builtin "len") (rLen K) := by subst hK; exact call_len
theorem call_isiK (K : PySem.W.Frag) (hK : X.K = K := by rfl) : CallR X (.builtin "isinstance") (rIsi K) := by subst hK; exact call_isinst
theorem ix_listK (K : PySem.W.Frag) (hK : X.K = K := by rfl) : IxR X (rIxL K) := by subst hK; exact ix_list
theorem ix_tupK (K : PySem.W.Frag) (hK : X.K = K := by rfl) : IxR X (rIxT K) := by subst hK; exact ix_tup
theorem sl_listK (K : PySem.W.Frag) (hK : X.K = K := by rfl) : SlR X (rSlL K) := by subst hK; exact sl_list
def CPos (_ j : Int) : Prop := 0 < j
theorem cpos {i j : Int} (h : 0 < j) : CPos i j := h
theorem op_modP : OpR X (binaryOp .Mod) (rI CPos fun i j => .int (i % j)) := op_mod
end
inductive Dt where
 | non | bl (b : Bool) | int (i : Int) | str (x : Str) | tup (xs : List Dt) | lst (xs : List Dt)
mutual
def Dt.beq : Dt → Dt → Bool
 | .non, .non => true
 | .bl a, .bl b => a == b
 | .bl a, .int b => (if a then 1 else 0) == b
 | .int a, .bl b => a == (if b then 1 else 0)
 | .int a, .int b => a == b
 | .str a, .str b => a == b
 | .tup xs, .tup ys => Dt.beqs xs ys
 | .lst xs, .lst ys => Dt.beqs xs ys
 | _, _ => false
def Dt.beqs : List Dt → List Dt → Bool
 | [], [] => true
 | x :: xs, y :: ys => x.beq y && Dt.beqs xs ys
 | _, _ => false
end
mutual
def Dt.dep : Dt → Nat
 | .tup xs => Dt.deps xs + 1
 | .lst xs => Dt.deps xs + 1
 | _ => 0
def Dt.deps : List Dt → Nat
 | [] => 0
 | x :: xs => max x.dep (Dt.deps xs)
end
mutual
def DatAt (K : PySem.W.Frag) (H : Hp) : V → Dt → Prop
 | x, .non => x = .non
 | x, .bl b => x = .bl b
 | x, .int i => x = .int i
 | x, .str z => x = .str z
 | x, .tup ds => ∃ a xs, x = .ref a ∧ SqT K H a xs ∧ DatsAt K H xs ds
 | x, .lst ds => ∃ a xs, x = .ref a ∧ SqL K H a xs ∧ DatsAt K H xs ds
def DatsAt (K : PySem.W.Frag) (H : Hp) : List V → List Dt → Prop
 | [], [] => True
 | x :: xs, d :: ds => DatAt K H x d ∧ DatsAt K H xs ds
 | _, _ => False
end
theorem Dt.beq_refl (d : Dt) : d.beq d = true := by
 induction d using Dt.rec (motive_2 := fun xs => Dt.beqs xs xs = true) with
 | non => simp [Dt.beq]
 | bl b => simp [Dt.beq]
 | int b => simp [Dt.beq]
 | str b => simp [Dt.beq]
 | tup xs ih => simp [Dt.beq, ih]
 | lst xs ih => simp [Dt.beq, ih]
 | nil => simp [Dt.beqs]
 | cons x xs h1 h2 => simp [Dt.beqs, h1, h2]
theorem DatsAt.length {K : PySem.W.Frag} {H : Hp} : ∀ {xs : List V} {ds : List Dt}, DatsAt K H xs ds → xs.length = ds.length
 | [], [], _ => rfl
 | [], _ :: _, h => by simp [DatsAt] at h
 | _ :: _, [], h => by simp [DatsAt] at h
 | x :: xs, d :: ds, h => by
  rw [DatsAt] at h
  rw [List.length_cons, List.length_cons, DatsAt.length h.2]
theorem DatsAt.get {K : PySem.W.Frag} {H : Hp} : ∀ {xs : List V} {ds : List Dt} {i : Nat} {x : V}, DatsAt K H xs ds → xs[i]? = some x → ∃ d, ds[i]? = some d ∧ DatAt K H x d
 | [], _, _, _, _, e => by simp at e
 | _ :: _, [], _, _, h, _ => by simp [DatsAt] at h
 | x :: xs, d :: ds, 0, y, h, e => by
  rw [DatsAt] at h
  simp at e; subst e
  exact ⟨d, rfl, h.1⟩
 | x :: xs, d :: ds, i + 1, y, h, e => by
  rw [DatsAt] at h
  obtain ⟨d', h1, h2⟩ := DatsAt.get (i := i) (x := y) h.2 (by simpa using e)
  exact ⟨d', by simpa using h1, h2⟩
theorem Dt.deps_mem {d : Dt} : ∀ {ds : List Dt}, d ∈ ds → d.dep ≤ Dt.deps ds
 | [], h => by cases h
 | x :: xs, h => by
  rw [Dt.deps]
  rcases List.mem_cons.mp h with rfl | h
  ·exact Nat.le_max_left ..
  ·exact Nat.le_trans (Dt.deps_mem h) (Nat.le_max_right ..)
def beqAt (xs ys : List Dt) (j : Nat) : Bool := match xs[j]?, ys[j]? with
 | some x, some y => x.beq y
 | _, _ => false
theorem all_range_succ (n : Nat) (e : Nat → Bool) : (List.range (n + 1)).all e = (e 0 && (List.range n).all fun j => e (j + 1)) := by
 rw [List.range_succ_eq_map, List.all_cons, List.all_map]; rfl
theorem beqs_all : ∀ (xs ys : List Dt), xs.length = ys.length → (List.range xs.length).all (beqAt xs ys) = Dt.beqs xs ys
 | [], [], _ => by simp [Dt.beqs]
 | x :: xs, y :: ys, h => by
  have h' : xs.length = ys.length := by simpa using h
  rw [List.length_cons, all_range_succ, Dt.beqs, ← beqs_all xs ys h']
  rfl
theorem beqs_len : ∀ (xs ys : List Dt), xs.length ≠ ys.length → Dt.beqs xs ys = false
 | [], [], h => absurd rfl h
 | [], _ :: _, _ => by simp [Dt.beqs]
 | _ :: _, [], _ => by simp [Dt.beqs]
 | x :: xs, y :: ys, h => by
  have h' : xs.length ≠ ys.length := fun z => h (by simp [z])
  rw [Dt.beqs, beqs_len xs ys h', Bool.and_false]
section
variable {X : Cx} {pins : List (Addr × Obj)} {σ : St} {H : Hp} {s : Shared}
theorem list_not_tuple {a : Addr} {xs ys : List V} (I : Inv X pins σ H s) (h1 : SqL X.K H a xs) (h2 : SqT X.K H a ys) : False := by
 obtain ⟨its, _, p, _⟩ := I.list h1
 obtain ⟨its2, _, q, _⟩ := I.tuple h2
 exact SeqAt.ne_of_list_tuple p.isList (show s.heap.IsTuple a its2.toArray from q) rfl
theorem dat_inj (I : Inv X pins σ H s) (d : Dt) : ∀ (x : V) (d' : Dt), DatAt X.K H x d → DatAt X.K H x d' → d = d' := by
 induction d using Dt.rec (motive_2 := fun ds => ∀ (xs : List V) (ds' : List Dt), DatsAt X.K H xs ds → DatsAt X.K H xs ds' → ds = ds') with
 | non => intro x d' h h'; cases d' <;> simp_all [DatAt]
 | bl b => intro x d' h h'; cases d' <;> simp_all [DatAt]
 | int b => intro x d' h h'; cases d' <;> simp_all [DatAt]
 | str b => intro x d' h h'; cases d' <;> simp_all [DatAt]
 | tup ds ih =>
  intro x d' h h'
  rw [DatAt] at h
  obtain ⟨a, xs, rfl, hq, hd⟩ := h
  cases d' with
  | tup ds' =>
   rw [DatAt] at h'
   obtain ⟨a', xs', e, hq', hd'⟩ := h'
   cases e
   rw [I.tuple_inj hq' hq] at hd'
   rw [ih xs ds' hd hd']
  | lst ds' =>
   rw [DatAt] at h'
   obtain ⟨a', xs', e, hq', hd'⟩ := h'
   cases e
   exact (list_not_tuple I hq' hq).elim
  | _ => simp [DatAt] at h'
 | lst ds ih =>
  intro x d' h h'
  rw [DatAt] at h
  obtain ⟨a, xs, rfl, hq, hd⟩ := h
  cases d' with
  | lst ds' =>
   rw [DatAt] at h'
   obtain ⟨a', xs', e, hq', hd'⟩ := h'
   cases e
   rw [I.list_inj hq' hq] at hd'
   rw [ih xs ds' hd hd']
  | tup ds' =>
   rw [DatAt] at h'
   obtain ⟨a', xs', e, hq', hd'⟩ := h'
   cases e
   exact (list_not_tuple I hq hq').elim
  | _ => simp [DatAt] at h'
 | nil =>
  rename_i xs ds' h h'
  cases xs with
  | nil => cases ds' with
   | nil => rfl
   | cons _ _ => simp [DatsAt] at h'
  | cons _ _ => simp [DatsAt] at h
 | cons d ds h1 h2 =>
  rename_i xs ds' h h'
  cases xs with
  | nil => simp [DatsAt] at h
  | cons x xs => cases ds' with
   | nil => simp [DatsAt] at h'
   | cons d' ds' =>
    rw [DatsAt] at h h'
    rw [h1 x d' h.1 h'.1, h2 xs ds' h.2 h'.2]
theorem items_eq {A : Around} {xs ys : List V} {ds ds' : List Dt} {its its2 : List Value} (r1 : Vals xs its) (r2 : Vals ys its2) (h1 : DatsAt X.K H xs ds) (h2 : DatsAt X.K H ys ds')
  (ih : ∀ d ∈ ds, ∀ (d' : Dt) (x y : V) (u v : Value), DatAt X.K H x d → DatAt X.K H y d' → RelV x u → RelV y v → SeqAt.EqAt A s u v (d.beq d')) :
  ∀ j (a : j < its.toArray.size) (b : j < its2.toArray.size), SeqAt.EqAt A s its.toArray[j] its2.toArray[j] (beqAt ds ds' j) := fun j a b => by
 have a' : j < its.length := by simpa using a
 have b' : j < its2.length := by simpa using b
 have la := r1.length
 have lb := r2.length
 have ex : xs[j]? = some (xs[j]'(by omega)) := List.getElem?_eq_getElem (by omega)
 have ey : ys[j]? = some (ys[j]'(by omega)) := List.getElem?_eq_getElem (by omega)
 obtain ⟨u, eu, ru⟩ := r1.get ex
 obtain ⟨v, ev, rv⟩ := r2.get ey
 obtain ⟨d, ed, hd⟩ := h1.get ex
 obtain ⟨d', ed', hd'⟩ := h2.get ey
 have e1 : its.toArray[j] = u := by
  rw [List.getElem?_eq_getElem a'] at eu
  simpa using Option.some.inj eu
 have e2 : its2.toArray[j] = v := by
  rw [List.getElem?_eq_getElem b'] at ev
  simpa using Option.some.inj ev
 rw [e1, e2]
 have e3 : beqAt ds ds' j = d.beq d' := by unfold beqAt; rw [ed, ed']
 rw [e3]
 exact ih d (List.mem_of_getElem? ed) d' _ _ u v hd hd' ru rv
theorem rc_lists {A : Around} {a b : Addr} {xs ys : List V} {ds ds' : List Dt} (I : Inv X pins σ H s) (q1 : SqL X.K H a xs) (q2 : SqL X.K H b ys) (h1 : DatsAt X.K H xs ds) (h2 : DatsAt X.K H ys ds') (hu : A.units < cLine)
  (ih : ∀ d ∈ ds, ∀ (d' : Dt) (x y : V) (u v : Value), DatAt X.K H x d → DatAt X.K H y d' → RelV x u → RelV y v → SeqAt.EqAt A.in1 s u v (d.beq d')) : SeqAt.RcAt A s (.ref a) (.ref b) (Dt.beqs ds ds') := by
 obtain ⟨its, r1, p1, _⟩ := I.list q1
 obtain ⟨its2, r2, p2, _⟩ := I.list q2
 have l1 := r1.length
 have l2 := r2.length
 have l3 := h1.length
 have l4 := h2.length
 by_cases hl : ds.length = ds'.length
 ·have := SeqAt.RcAt.lists p1.isList p2.isList (by simp; omega) hu (items_eq r1 r2 h1 h2 ih)
  rw [show its.toArray.size = ds.length by simp; omega, beqs_all ds ds' hl] at this
  exact this
 ·rw [beqs_len ds ds' hl]
  exact SeqAt.RcAt.lists_lengths p1.isList p2.isList (by simp; omega) hu
theorem rc_tuples {A : Around} {a b : Addr} {xs ys : List V} {ds ds' : List Dt} (I : Inv X pins σ H s) (q1 : SqT X.K H a xs) (q2 : SqT X.K H b ys) (h1 : DatsAt X.K H xs ds) (h2 : DatsAt X.K H ys ds') (hu : A.units < cLine)
  (ih : ∀ d ∈ ds, ∀ (d' : Dt) (x y : V) (u v : Value), DatAt X.K H x d → DatAt X.K H y d' → RelV x u → RelV y v → SeqAt.EqAt A.in1 s u v (d.beq d')) : SeqAt.RcAt A s (.ref a) (.ref b) (Dt.beqs ds ds') := by
 obtain ⟨its, r1, p1, _⟩ := I.tuple q1
 obtain ⟨its2, r2, p2, _⟩ := I.tuple q2
 have l1 := r1.length
 have l2 := r2.length
 have l3 := h1.length
 have l4 := h2.length
 have := SeqAt.RcAt.tuples (show s.heap.IsTuple a its.toArray from p1) (show s.heap.IsTuple b its2.toArray from p2) hu (items_eq r1 r2 h1 h2 ih)
 by_cases hl : ds.length = ds'.length
 ·rw [show min its.toArray.size its2.toArray.size = ds.length by simp; omega, beqs_all ds ds' hl, show (its.toArray.size == its2.toArray.size) = true by simp; omega, Bool.and_true] at this
  exact this
 ·rw [show (its.toArray.size == its2.toArray.size) = false by simp; omega, Bool.and_false] at this
  rw [beqs_len ds ds' hl]
  exact this
theorem dat_eqAt (I : Inv X pins σ H s) (d : Dt) : ∀ (A : Around) (d' : Dt) (x y : V) (u v : Value), A.units + d.dep < cLine → DatAt X.K H x d → DatAt X.K H y d' → RelV x u → RelV y v → SeqAt.EqAt A s u v (d.beq d') := by
 have flat : ∀ {A : Around} {d d' : Dt} {x y : V} {u v : Value}, flatV x = true → flatV y = true → eqV x y = d.beq d' → RelV x u → RelV y v → SeqAt.EqAt A s u v (d.beq d') := fun fx fy e ru rv => e ▸ eqAt_V ru rv fx fy
 have lOf : ∀ {a : Addr} {xs : List V}, SqL X.K H a xs → ∃ its : Array Value, s.heap.IsList a its := fun q => let ⟨its, _, p, _⟩ := I.list q; ⟨_, p.isList⟩
 have tOf : ∀ {a : Addr} {xs : List V}, SqT X.K H a xs → ∃ its : Array Value, s.heap.IsTuple a its := fun q => let ⟨its, _, p, _⟩ := I.tuple q; ⟨_, p⟩
 have refs : ∀ {A : Around} {a b : Addr} {d d' : Dt}, DatAt X.K H (.ref a) d → DatAt X.K H (.ref b) d' → SeqAt.RcAt A s (.ref a) (.ref b) (d.beq d') → SeqAt.EqAt A s (.ref a) (.ref b) (d.beq d') := by
  intro A a b d d' h h' r
  by_cases e : a = b
  ·subst e
   rw [← dat_inj I d _ _ h h', Dt.beq_refl]
   exact SeqAt.EqAt.same _
  ·exact SeqAt.EqAt.of_refs e r
 induction d using Dt.rec (motive_2 := fun ds => ∀ d ∈ ds, ∀ (A : Around) (d' : Dt) (x y : V) (u v : Value), A.units + d.dep < cLine → DatAt X.K H x d → DatAt X.K H y d' → RelV x u → RelV y v → SeqAt.EqAt A s u v (d.beq d')) with
 | non =>
  intro A d' x y u v hu h h' ru rv
  rw [DatAt] at h
  subst h
  have hu' : A.units < cLine := by omega
  cases d' with
  | tup ds' =>
   rw [DatAt] at h'; obtain ⟨b, ys, rfl, q, _⟩ := h'
   cases ru; cases rv
   obtain ⟨its, p⟩ := tOf q
   exact SeqAt.EqAt.none_tuple p hu'
  | lst ds' =>
   rw [DatAt] at h'; obtain ⟨b, ys, rfl, q, _⟩ := h'
   cases ru; cases rv
   obtain ⟨its, p⟩ := lOf q
   exact SeqAt.EqAt.none_list p hu'
  | _ => rw [DatAt] at h'; subst h'; exact flat rfl rfl (by simp [Dt.beq, eqV]) ru rv
 | bl b0 =>
  intro A d' x y u v hu h h' ru rv
  rw [DatAt] at h
  subst h
  have hu' : A.units < cLine := by omega
  cases d' with
  | tup ds' =>
   rw [DatAt] at h'; obtain ⟨b, ys, rfl, q, _⟩ := h'
   cases ru; cases rv
   obtain ⟨its, p⟩ := tOf q
   exact SeqAt.EqAt.bool_tuple _ p hu'
  | lst ds' =>
   rw [DatAt] at h'; obtain ⟨b, ys, rfl, q, _⟩ := h'
   cases ru; cases rv
   obtain ⟨its, p⟩ := lOf q
   exact SeqAt.EqAt.bool_list _ p hu'
  | _ => rw [DatAt] at h'; subst h'; exact flat rfl rfl (by simp [Dt.beq, eqV]) ru rv
 | int i0 =>
  intro A d' x y u v hu h h' ru rv
  rw [DatAt] at h
  subst h
  have hu' : A.units < cLine := by omega
  cases d' with
  | tup ds' =>
   rw [DatAt] at h'; obtain ⟨b, ys, rfl, q, _⟩ := h'
   obtain ⟨t, rfl⟩ := ru; cases rv
   obtain ⟨its, p⟩ := tOf q
   exact SeqAt.EqAt.int_tuple _ _ p hu'
  | lst ds' =>
   rw [DatAt] at h'; obtain ⟨b, ys, rfl, q, _⟩ := h'
   obtain ⟨t, rfl⟩ := ru; cases rv
   obtain ⟨its, p⟩ := lOf q
   exact SeqAt.EqAt.int_list _ _ p hu'
  | _ => rw [DatAt] at h'; subst h'; exact flat rfl rfl (by simp [Dt.beq, eqV]) ru rv
 | str z0 =>
  intro A d' x y u v hu h h' ru rv
  rw [DatAt] at h
  subst h
  have hu' : A.units < cLine := by omega
  cases d' with
  | tup ds' =>
   rw [DatAt] at h'; obtain ⟨b, ys, rfl, q, _⟩ := h'
   obtain ⟨t, rfl⟩ := ru; cases rv
   obtain ⟨its, p⟩ := tOf q
   exact SeqAt.EqAt.str_tuple _ _ p hu'
  | lst ds' =>
   rw [DatAt] at h'; obtain ⟨b, ys, rfl, q, _⟩ := h'
   obtain ⟨t, rfl⟩ := ru; cases rv
   obtain ⟨its, p⟩ := lOf q
   exact SeqAt.EqAt.str_list _ _ p hu'
  | _ => rw [DatAt] at h'; subst h'; exact flat rfl rfl (by simp [Dt.beq, eqV]) ru rv
 | tup ds ih =>
  intro A d' x y u v hu h h' ru rv
  have hD := h
  have hD' := h'
  rw [DatAt] at h
  obtain ⟨a, xs, rfl, q, hd⟩ := h
  cases ru
  obtain ⟨its, p⟩ := tOf q
  have hu' : A.units < cLine := by omega
  cases d' with
  | non => rw [DatAt] at h'; subst h'; cases rv; exact SeqAt.EqAt.tuple_none p hu'
  | bl b => rw [DatAt] at h'; subst h'; cases rv; exact SeqAt.EqAt.tuple_bool _ p hu'
  | int b => rw [DatAt] at h'; subst h'; obtain ⟨t, rfl⟩ := rv; exact SeqAt.EqAt.tuple_int _ _ p hu'
  | str b => rw [DatAt] at h'; subst h'; obtain ⟨t, rfl⟩ := rv; exact SeqAt.EqAt.tuple_str _ _ p hu'
  | lst ds' =>
   rw [DatAt] at h'; obtain ⟨b, ys, rfl, q', _⟩ := h'
   cases rv
   obtain ⟨its2, p2⟩ := lOf q'
   exact SeqAt.EqAt.tuple_list p p2 hu'
  | tup ds' =>
   rw [DatAt] at h'; obtain ⟨b, ys, rfl, q', hd'⟩ := h'
   cases rv
   refine refs hD hD' ?_
   have := rc_tuples (A := A) I q q' hd hd' hu' fun d hm d' x y u v h1 h2 r1 r2 => ih d hm A.in1 d' x y u v (by
    have := Dt.deps_mem hm
    rw [Dt.dep] at hu
    show A.units + 1 + d.dep < cLine
    omega) h1 h2 r1 r2
   simpa [Dt.beq] using this
 | lst ds ih =>
  intro A d' x y u v hu h h' ru rv
  have hD := h
  have hD' := h'
  rw [DatAt] at h
  obtain ⟨a, xs, rfl, q, hd⟩ := h
  cases ru
  obtain ⟨its, p⟩ := lOf q
  have hu' : A.units < cLine := by omega
  cases d' with
  | non => rw [DatAt] at h'; subst h'; cases rv; exact SeqAt.EqAt.list_none p hu'
  | bl b => rw [DatAt] at h'; subst h'; cases rv; exact SeqAt.EqAt.list_bool _ p hu'
  | int b => rw [DatAt] at h'; subst h'; obtain ⟨t, rfl⟩ := rv; exact SeqAt.EqAt.list_int _ _ p hu'
  | str b => rw [DatAt] at h'; subst h'; obtain ⟨t, rfl⟩ := rv; exact SeqAt.EqAt.list_str _ _ p hu'
  | tup ds' =>
   rw [DatAt] at h'; obtain ⟨b, ys, rfl, q', _⟩ := h'
   cases rv
   obtain ⟨its2, p2⟩ := tOf q'
   exact SeqAt.EqAt.list_tuple p p2 hu'
  | lst ds' =>
   rw [DatAt] at h'; obtain ⟨b, ys, rfl, q', hd'⟩ := h'
   cases rv
   refine refs hD hD' ?_
   have := rc_lists (A := A) I q q' hd hd' hu' fun d hm d' x y u v h1 h2 r1 r2 => ih d hm A.in1 d' x y u v (by
    have := Dt.deps_mem hm
    rw [Dt.dep] at hu
    show A.units + 1 + d.dep < cLine
    omega) h1 h2 r1 r2
   simpa [Dt.beq] using this
 | nil =>
  rename_i d hd A d' x y u v a1 a2 a3 a4 a5
  cases hd
 | cons d ds h1 h2 =>
  rename_i d0 hd A d' x y u v a1 a2 a3 a4 a5
  rcases List.mem_cons.mp hd with e | hd
  ·subst e; exact h1 A d' x y u v a1 a2 a3 a4 a5
  ·exact h2 d0 hd A d' x y u v a1 a2 a3 a4 a5
def Dt.isSq : Dt → Bool
 | .tup _ => true
 | .lst _ => true
 | _ => false
def rEqD (K : PySem.W.Frag) (neg : Bool) : R2 := fun x y H Q => ∃ d d' : Dt, DatAt K H x d ∧ DatAt K H y d' ∧ d.isSq = true ∧ d'.isSq = true ∧ d.dep ≤ 40 ∧ Q (.bl (if neg then !d.beq d' else d.beq d')) H
theorem op_eqD (K : PySem.W.Frag) (hu : X.A.units + 64 < cLine) (hK : X.K = K := by rfl) : OpR X (compareOp .Eq) (rEqD K false) := by
 subst hK
 intro pins s σ H x y v u Q I rx ry h
 obtain ⟨d, d', h, h', sq, sq', hd, q⟩ := h
 have hA : ∀ e : Dt, e.dep ≤ 40 → X.A.in1.units + e.dep < cLine := fun e he => by show X.A.units + 1 + e.dep < cLine; omega
 have hu' : X.A.units < cLine := by omega
 cases d with
 | tup ds =>
  rw [DatAt] at h
  obtain ⟨a, xs, rfl, q1, hd1⟩ := h
  cases rx
  have ih : ∀ d ∈ ds, ∀ (d' : Dt) (x y : V) (u v : Value), DatAt X.K H x d → DatAt X.K H y d' → RelV x u → RelV y v → SeqAt.EqAt X.A.in1 s u v (d.beq d') := fun d hm d' x y u v h1 h2 r1 r2 =>
   dat_eqAt I d X.A.in1 d' x y u v (hA d (by have := Dt.deps_mem hm; rw [Dt.dep] at hd; omega)) h1 h2 r1 r2
  cases d' with
  | tup ds' =>
   rw [DatAt] at h'
   obtain ⟨b, ys, rfl, q2, hd2⟩ := h'
   cases ry
   exact rc_tuples I q1 q2 hd1 hd2 hu' ih _ _ _ _ ⟨.bl _, H, I, rfl, by simpa [Dt.beq] using q⟩
  | lst ds' =>
   rw [DatAt] at h'
   obtain ⟨b, ys, rfl, q2, hd2⟩ := h'
   cases ry
   obtain ⟨its, _, p, _⟩ := I.tuple q1
   obtain ⟨its2, _, p2, _⟩ := I.list q2
   exact SeqAt.RcAt.tuple_list (show s.heap.IsTuple a its.toArray from p) p2.isList hu' _ _ _ _ ⟨.bl _, H, I, rfl, by simpa [Dt.beq] using q⟩
  | _ => cases sq'
 | lst ds =>
  rw [DatAt] at h
  obtain ⟨a, xs, rfl, q1, hd1⟩ := h
  cases rx
  have ih : ∀ d ∈ ds, ∀ (d' : Dt) (x y : V) (u v : Value), DatAt X.K H x d → DatAt X.K H y d' → RelV x u → RelV y v → SeqAt.EqAt X.A.in1 s u v (d.beq d') := fun d hm d' x y u v h1 h2 r1 r2 =>
   dat_eqAt I d X.A.in1 d' x y u v (hA d (by have := Dt.deps_mem hm; rw [Dt.dep] at hd; omega)) h1 h2 r1 r2
  cases d' with
  | lst ds' =>
   rw [DatAt] at h'
   obtain ⟨b, ys, rfl, q2, hd2⟩ := h'
   cases ry
   exact rc_lists I q1 q2 hd1 hd2 hu' ih _ _ _ _ ⟨.bl _, H, I, rfl, by simpa [Dt.beq] using q⟩
  | tup ds' =>
   rw [DatAt] at h'
   obtain ⟨b, ys, rfl, q2, hd2⟩ := h'
   cases ry
   obtain ⟨its, _, p, _⟩ := I.list q1
   obtain ⟨its2, _, p2, _⟩ := I.tuple q2
   exact SeqAt.RcAt.list_tuple p.isList (show s.heap.IsTuple b its2.toArray from p2) hu' _ _ _ _ ⟨.bl _, H, I, rfl, by simpa [Dt.beq] using q⟩
  | _ => cases sq'
 | _ => cases sq
theorem op_neD (K : PySem.W.Frag) (hu : X.A.units + 64 < cLine) (hK : X.K = K := by rfl) : OpR X (compareOp .NotEq) (fun x y H Q => rEqD K true x y H Q ∧ ∃ d d' : Dt, DatAt K H x d ∧ DatAt K H y d' ∧ ((∃ ds ds', d = .tup ds ∧ d' = .tup ds') ∨ ∃ ds ds', d = .lst ds ∧ d' = .lst ds')) := by
 subst hK
 intro pins s σ H x y v u Q I rx ry h
 obtain ⟨⟨d, d', h, h', sq, sq', hd, q⟩, e, e', g, g', hk⟩ := h
 have e1 := dat_inj I d x e h g
 have e2 := dat_inj I d' y e' h' g'
 subst e1 e2
 have hA : ∀ e : Dt, e.dep ≤ 40 → X.A.in1.units + e.dep < cLine := fun e he => by show X.A.units + 1 + e.dep < cLine; omega
 have hu' : X.A.units < cLine := by omega
 rcases hk with ⟨ds, ds', rfl, rfl⟩ | ⟨ds, ds', rfl, rfl⟩
 ·rw [DatAt] at h h'
  obtain ⟨a, xs, rfl, q1, h1⟩ := h
  obtain ⟨b, ys, rfl, q2, h2⟩ := h'
  cases rx
  cases ry
  have ih : ∀ d ∈ ds, ∀ (d' : Dt) (x y : V) (u v : Value), DatAt X.K H x d → DatAt X.K H y d' → RelV x u → RelV y v → SeqAt.EqAt X.A.in1 s u v (d.beq d') := fun d hm d' x y u v h1 h2 r1 r2 =>
   dat_eqAt I d X.A.in1 d' x y u v (hA d (by have := Dt.deps_mem hm; rw [Dt.dep] at hd; omega)) h1 h2 r1 r2
  obtain ⟨its, r1, p1, _⟩ := I.tuple q1
  obtain ⟨its2, r2, p2, _⟩ := I.tuple q2
  have l1 := r1.length
  have l2 := r2.length
  have l3 := h1.length
  have l4 := h2.length
  have z := SeqAt.RcNeAt.tuples (show s.heap.IsTuple a its.toArray from p1) (show s.heap.IsTuple b its2.toArray from p2) hu' (items_eq r1 r2 h1 h2 ih)
  have fin : SeqAt.RcNeAt X.A s (.ref a) (.ref b) (!Dt.beqs ds ds') := by
   by_cases hl : ds.length = ds'.length
   ·rw [show min its.toArray.size its2.toArray.size = ds.length by simp; omega, beqs_all ds ds' hl, show (its.toArray.size == its2.toArray.size) = true by simp; omega, Bool.and_true] at z
    exact z
   ·rw [show (its.toArray.size == its2.toArray.size) = false by simp; omega, Bool.and_false] at z
    rw [beqs_len ds ds' hl]
    exact z
  exact fin _ _ _ _ ⟨.bl _, H, I, rfl, by simpa [Dt.beq] using q⟩
 ·rw [DatAt] at h h'
  obtain ⟨a, xs, rfl, q1, h1⟩ := h
  obtain ⟨b, ys, rfl, q2, h2⟩ := h'
  cases rx
  cases ry
  have ih : ∀ d ∈ ds, ∀ (d' : Dt) (x y : V) (u v : Value), DatAt X.K H x d → DatAt X.K H y d' → RelV x u → RelV y v → SeqAt.EqAt X.A.in1 s u v (d.beq d') := fun d hm d' x y u v h1 h2 r1 r2 =>
   dat_eqAt I d X.A.in1 d' x y u v (hA d (by have := Dt.deps_mem hm; rw [Dt.dep] at hd; omega)) h1 h2 r1 r2
  obtain ⟨its, r1, p1, _⟩ := I.list q1
  obtain ⟨its2, r2, p2, _⟩ := I.list q2
  have l1 := r1.length
  have l2 := r2.length
  have l3 := h1.length
  have l4 := h2.length
  have fin : SeqAt.RcNeAt X.A s (.ref a) (.ref b) (!Dt.beqs ds ds') := by
   by_cases hl : ds.length = ds'.length
   ·have z := SeqAt.RcNeAt.lists p1.isList p2.isList (by simp; omega) hu' (items_eq r1 r2 h1 h2 ih)
    rw [show its.toArray.size = ds.length by simp; omega, beqs_all ds ds' hl] at z
    exact z
   ·rw [beqs_len ds ds' hl]
    exact SeqAt.RcNeAt.lists_lengths p1.isList p2.isList (by simp; omega) hu'
  exact fin _ _ _ _ ⟨.bl _, H, I, rfl, by simpa [Dt.beq] using q⟩
end
theorem dats_ints {K : PySem.W.Frag} {H : Hp} : ∀ (ns : List Int), DatsAt K H (ns.map V.int) (ns.map Dt.int)
 | [] => by simp [DatsAt]
 | n :: ns => by rw [List.map_cons, List.map_cons, DatsAt]; exact ⟨by rw [DatAt], dats_ints ns⟩
theorem deps_ints : ∀ (ns : List Int), Dt.deps (ns.map Dt.int) = 0
 | [] => by simp [Dt.deps]
 | n :: ns => by rw [List.map_cons, Dt.deps, deps_ints ns]; simp [Dt.dep]
section
variable {X : Cx}
def rTuple (K : PySem.W.Frag) : List V → Hp → VK → Prop := fun xs H Q => ∃ (p : Addr) (ys : List V), xs = [.ref p] ∧ ((SqL K H p ys ∧ ∀ l, H l = none → Q (.ref l) (upd H l (.tup ys))) ∨ (SqT K H p ys ∧ Q (.ref p) H))
theorem call_tupleK (K : PySem.W.Frag) (hK : X.K = K := by rfl) : CallR X (.type "tuple") (rTuple K) := by subst hK; exact call_tuple_of
end
end L2
namespace L2
open PySem
theorem intItem {ns : List Int} {i : Nat} {x : V} (h : (ns.map V.int)[i]? = some x) : ∃ f, x = .int f ∧ ns[i]? = some f := by
 rw [List.getElem?_map] at h
 cases e : ns[i]? with
 | none => rw [e] at h; cases h
 | some f => rw [e] at h; exact ⟨f, (Option.some.inj h).symm, rfl⟩
end L2
namespace L2
open PySem PySem.Spec PyProof.Rows
section
variable {X : Cx}
theorem pg_tupK (K : PySem.W.Frag) {es : List Expr} {k : Nat} {t : TGs} {n : Nat} {pos : Pos} (hc : X.calm = true) (h : PGs X es t)
  (hn : (assignEach es X.env).length = n := by rfl) (hst : (assignEach es X.env).findIdx? (·.1) = none := by rfl) (hK : X.K = K := by rfl) : PG X (.Tuple es k pos) (gTup K n t) := by
 subst hK; exact pg_tup hc h hn hst
end
mutual
def Dt.noL : Dt → Bool
 | .lst _ => false
 | .tup xs => Dt.noLs xs
 | _ => true
def Dt.noLs : List Dt → Bool
 | [] => true
 | x :: xs => x.noL && Dt.noLs xs
end
theorem dat_lst {K : PySem.W.Frag} {H : Hp} {a : Addr} {xs : List V} {ds : List Dt} (h : SqL K H a xs) (d : DatsAt K H xs ds) : DatAt K H (.ref a) (.lst ds) := by rw [DatAt]; exact ⟨a, xs, rfl, h, d⟩
theorem dats_nil {K : PySem.W.Frag} {H : Hp} : DatsAt K H [] [] := by simp [DatsAt]
end L2
namespace L2
open PySem
def KB2 (d e : Addr) (H H' : Hp) : Prop := ∀ b o, H b = some o → b ≠ d → b ≠ e → H' b = some o
theorem KB2.trans {d e : Addr} {H H1 H2 : Hp} (a : KB2 d e H H1) (b : KB2 d e H1 H2) : KB2 d e H H2 := fun c o h n m => b c o (a c o h n m) n m
theorem KB.l {d e : Addr} {H H' : Hp} (k : KB d H H') : KB2 d e H H' := fun b o h n _ => k b o h n
theorem KB.r {d e : Addr} {H H' : Hp} (k : KB e H H') : KB2 d e H H' := fun b o h _ n => k b o h n
theorem Same.kb2 {d e : Addr} {H H' : Hp} (s : Same H H') : KB2 d e H H' := fun b o h _ _ => s b o h
theorem FnOk.none {P : Program} {w : World} {K : PySem.W.Frag} {mg : Str → Option Value} {base : Heap} {CX : CXT} {k : Nat} {f : Addr} {fd : FuncData} {ps : List Str} {sp : Sp} (h : ∀ vs H Q E, ¬ sp vs H Q E) : FnOk P w K mg base CX k f fd ps sp :=
 ⟨fun vs H Q E q => (h _ _ _ _ q).elim, fun A outer s H args us vs Q E _ _ _ _ hs => (h _ _ _ _ hs).elim⟩
end L2
namespace L2
open PySem PySem.Spec PyProof.Rows
theorem paired_reverse {α β : Type} {r : α → β → Prop} {xs : List α} {ys : List β} (h : Paired r xs ys) : Paired r xs.reverse ys.reverse := by
 induction h with
 | nil => exact .nil
 | cons a _ ih => rw [List.reverse_cons, List.reverse_cons]; exact paired_append ih (.cons a .nil)
end L2
namespace L2
open PySem PySem.Spec PyProof.Rows
open AutoSeq1 (wpAny_loadPart')
section
variable {prog : Program} {w : World} {A : Around} {E : Value → Shared → Prop} {s : Shared}
theorem nextOf_tupI {it t : Addr} {i : Nat} {items : Array Value} {x : Value} {Q : Value → Shared → Prop} (hit : s.heap.IsTupleIter it t i) (ht : s.heap.IsTuple t items) (hx : items[i]? = some x)
  (hQ : ∀ h', h'.IsTupleIter it t (i + 1) → Heap.SameBut it s.heap h' → Q x { s with heap := h' }) : wpAny (model prog w) A (Builtin.SmallTypes.nextOf (.ref it)) Q E s := by
 obtain ⟨o, ho, hc, hd⟩ := id hit
 obtain ⟨ol, hol, _, nl, hdl⟩ := ht
 unfold Builtin.SmallTypes.nextOf
 refine wpAny_bind (wpAny_callSpecial?_slot (name := Str.ofString "__next__") hit.typeIs F.slot_tuple_iterator_next (wpAny_call_entry F.slot_tuple_iterator_next hit.typeIs F.entry_tuple_iterator_next ?_ (F.args_tuple_iterator_next_1 _)))
 (show wpAny _ _ (field (.ref it) 0 >>= _) _ _ s); (refine wpAny_bind (wpAny_field ho hd (x := .ref t) rfl ?_))
 (show wpAny _ _ (if (Value.ref t == Value.none) = true then _ else _) _ _ s); rw [if_neg (show ¬ ((Value.ref t == Value.none) = true) from Bool.false_ne_true)]
 (show wpAny _ _ (field (.ref it) 1 >>= _) _ _ s); (refine wpAny_bind (wpAny_field ho hd (x := .int i 0) rfl ?_))
 (show wpAny _ _ (seqItems? (.ref t) >>= _) _ _ s); (refine wpAny_bind (wpAny_seqItems hol hdl ?_))
 simp only [Int.toNat_natCast, hx]; refine wpAny_bind (wpAny_setField ho hd (by simp) (wpAny_pure ⟨x, rfl, wpAny_pure (hQ _ ?_ (Heap.SameBut.update ..))⟩))
 exact ⟨_, Heap.get?_update_self _ ho (Obj.isFreed_of_fields (Obj.data_mapFields hd _)), (Obj.cls_mapFields ..).trans hc, (by rw [Obj.data_mapFields hd]; simp [rawInt])⟩
theorem nextOf_tupE {it t : Addr} {i : Nat} {items : Array Value} {Q : Value → Shared → Prop} (hh : A.handled = none) (hit : s.heap.IsTupleIter it t i) (ht : s.heap.IsTuple t items) (hx : items[i]? = none)
  (hE : ∀ h' e, Heap.ExtBut it s.heap h' → (∃ o, h'.get? e = some o ∧ o.cls = .type "StopIteration") → E (.ref e) { s with heap := h' }) : wpAny (model prog w) A (Builtin.SmallTypes.nextOf (.ref it)) Q E s := by
 obtain ⟨o, ho, hc, hd⟩ := id hit
 obtain ⟨ol, hol, _, nl, hdl⟩ := ht
 unfold Builtin.SmallTypes.nextOf
 refine wpAny_bind (wpAny_callSpecial?_slot (name := Str.ofString "__next__") hit.typeIs F.slot_tuple_iterator_next (wpAny_call_entry F.slot_tuple_iterator_next hit.typeIs F.entry_tuple_iterator_next ?_ (F.args_tuple_iterator_next_1 _)))
 (show wpAny _ _ (field (.ref it) 0 >>= _) _ _ s); (refine wpAny_bind (wpAny_field ho hd (x := .ref t) rfl ?_))
 (show wpAny _ _ (if (Value.ref t == Value.none) = true then _ else _) _ _ s); rw [if_neg (show ¬ ((Value.ref t == Value.none) = true) from Bool.false_ne_true)]
 (show wpAny _ _ (field (.ref it) 1 >>= _) _ _ s); (refine wpAny_bind (wpAny_field ho hd (x := .int i 0) rfl ?_))
 (show wpAny _ _ (seqItems? (.ref t) >>= _) _ _ s); (refine wpAny_bind (wpAny_seqItems hol hdl ?_))
 simp only [Int.toNat_natCast, hx]; refine wpAny_bind (wpAny_rule (wpAny_bind (wpAny_setField ho hd (by simp) ?_)))
 (show wpAny _ _ (newExc (.type "StopIteration") [] >>= _) _ _ _); (refine wpAny_bind ?_); simp only [newExc, newTuple]
 (refine wpAny_bind (wpAny_newObj_type ?_ (by size_fits)))
 (refine wpAny_bind (m := firstArgMember _ _) (wpAny_of_eq (a := Value.none) (by first | rfl | (simp only [firstArgMember]; rfl)) ?_)); (refine wpAny_newObj_type ?_ (by size_fits))
 simp only [raiseNew]; refine wpAny_bind (wpAny_handled ?_)
 (first | rw [show A.in1.handled = none from hh] | rw [hh]); refine wpAny_bind (wpAny_pure (wpAny_throw ?_))
 exact hE _ _ (((Heap.SameBut.update (a := it) ..).extBut.push _).push _) ⟨_, Heap.get?_push_size _ rfl, rfl⟩
end
end L2
namespace L2
open PySem PySem.Spec PyProof.Rows
section
variable {X : Cx}
def rAll (K : PySem.W.Frag) : List V → Hp → VK → Prop := fun xs H Q => ∃ (a : Addr) (bs : List Bool), xs = [.ref a] ∧ SqL K H a (bs.map V.bl) ∧ Q (.bl (bs.all id)) H
theorem vals_bools {bs : List Bool} {its : List Value} (r : Vals (bs.map V.bl) its) : its = bs.map Value.bool := by
 induction bs generalizing its with
 | nil => cases r; rfl
 | cons b bs ih =>
  cases r with
  | cons r1 r2 =>
   rw [List.map_cons, ih r2]
   exact congrArg (· :: _) r1
theorem call_allK (K : PySem.W.Frag) (hc : X.calm = true) (hK : X.K = K := by rfl) : CallR X (.builtin "all") (rAll K) := by
 subst hK
 intro pins s σ H xs us Q I r h
 obtain ⟨a, bs, rfl, hq, q⟩ := h
 obtain ⟨u, rfl, ru⟩ := vals1 r
 cases ru
 obtain ⟨its, rv, p, _⟩ := I.list hq
 have e := vals_bools rv
 have bl : a < s.heap.objs.size := by obtain ⟨o, e, _⟩ := p.isList; exact Heap.lt_size e
 refine call_all_walk ?_
 refine wpAny_pyIter_list p.isList ?_
 refine ⟨s.heap.objs.size, _, _, _, _, _, fun i => (bs.getD i false), rfl, Walks.list (A := X.A.in1) (I.ok.hd hc) _ a (Nat.ne_of_lt bl) its.toArray, ⟨⟨_, Heap.get?_push_size _ rfl, rfl, rfl⟩, p.isList.push _⟩, ?_, fun h' tk k => ?_⟩
 ·intro i v s' Q' E' hv hQ'
  have : v = .bool (bs.getD i false) := by
   rw [List.getElem?_toArray, e, List.getElem?_map] at hv
   rw [List.getD_eq_getElem?_getD]
   cases eb : bs[i]? with
   | none => rw [eb] at hv; cases hv
   | some b => rw [eb] at hv; exact (Option.some.inj hv).symm
  rw [this]
  exact wpAny_truthy_bool hQ'
 ·refine ⟨.bl (bs.all id), H, I.kept fun b o eo => k b o (fun z => Nat.ne_of_lt (Heap.lt_size eo) (List.mem_singleton.mp z)) (Heap.get?_push_of_some _ eo), ?_, q⟩
  have hl : its.toArray.size = bs.length := by simp [e]
  have ea : ∀ cs : List Bool, (List.range cs.length).all (fun i => cs.getD i false) = cs.all id := fun cs => by
   induction cs with
   | nil => rfl
   | cons c cs ih =>
    rw [List.length_cons, List.range_succ_eq_map, List.all_cons, List.all_map, List.all_cons, ← ih]
    rfl
  show _ = Value.bool _
  rw [hl, ea]
end
section
variable {X : Cx} {pins : List (Addr × Obj)} {σ : List (Option V)} {H : Hp} {s : Shared} {h' : Heap}
theorem Inv.turnedL {t' : Nat} {ch : List Addr} (I : Inv X pins σ H s) (hf : ∀ b ∈ ch, FpOk X pins H b) (k : ∀ b u, b ∉ ch → s.heap.get? b = some u → h'.get? b = some u) : Inv X pins σ H { s with heap := h', toks := t' } := by
 have nch : ∀ b u, H b = some u → b ∉ ch := fun b u e z => by have q := (hf b z).1; rw [e] at q; cases q
 refine I.step (g' := s.gens) (d' := s.drawn) (ch := ch) (fun b hb => ?_) (fun b o _ _ hc e _ => k b o hc e) (fun b o _ _ hc e _ => ⟨o.slots, k b o hc e⟩) (fun _ _ _ _ n => n)
  (fun b o hc e => ⟨o, k b o hc e⟩) (fun _ _ e => e) (fun _ _ _ e => e) (fun b ps e => ⟨#[], by rw [e]; simp⟩) (fun m hm => ?_) (fun b u e => ?_) I.bare
 ·obtain ⟨f0, f1, f2, f3, f4, f5⟩ := hf b hb
  exact ⟨f3, f1, f4, f5⟩
 ·obtain ⟨ob, es, ep, ho, r⟩ := hm
  exact ⟨ob, es, ep, k _ ob (fun z => (hf _ z).2.1 rfl) ho, r⟩
 ·refine (I.hok b u e).stay (fun c v hc q => k c v ?_ q) (fun _ q => q) fun _ _ q => q
  rcases hc with z | z
  ·rw [z]; exact nch b u e
  ·exact nch c _ z
end
def Itz (K : PySem.W.Frag) (a b : Addr) : It :=
 ⟨fun i H => ∃ xs ys x y, SqL K H a xs ∧ SqL K H b ys ∧ xs[i]? = some x ∧ ys[i]? = some y,
  fun i H v H' => ∃ x y p, (∀ xs, SqL K H a xs → xs[i]? = some x) ∧ (∀ ys, SqL K H b ys → ys[i]? = some y) ∧ H p = none ∧ v = .ref p ∧ H' = upd H p (.tup [x, y]),
  fun i H => ∃ xs ys, SqL K H a xs ∧ SqL K H b ys ∧ (xs.length ≤ i ∨ ys.length ≤ i)⟩
theorem turn_zip {P : Program} {w : World} {K : PySem.W.Frag} {elts : List Expr} {x1} {tpos : Pos} (a b z TI TO i1 i2 : Addr) (D : ZipApart z TI TO i1 i2 a b) :
  Turn P w K (.Tuple elts x1 tpos) (Itz K a b) [z, TO, i1, i2, TI] z (fun i h => IsZip h z TI TO .none ∧ IsPair h TI (.ref i1) (.ref i2) ∧ (∃ x y, IsPair h TO x y) ∧ h.IsListIter i1 a i ∧ h.IsListIter i2 b i) where
 mem := by simp
 obj := fun i h st c hc => by
  obtain ⟨hz, hTI, ⟨x, y, hTO⟩, h1, h2⟩ := st
  have hc' : c = z ∨ c = TO ∨ c = i1 ∨ c = i2 ∨ c = TI := by simpa using hc
  rcases hc' with q | q | q | q | q
  ·subst q; exact ⟨_, hz, fun v e => nomatch e⟩
  ·subst q; exact ⟨_, hTO, fun v e => nomatch e⟩
  ·subst q
   obtain ⟨o, e, _, d⟩ := h1
   exact ⟨o, e, fun v q => by rw [d] at q; cases q⟩
  ·subst q
   obtain ⟨o, e, _, d⟩ := h2
   exact ⟨o, e, fun v q => by rw [d] at q; cases q⟩
  ·subst q; exact ⟨_, hTI, fun v e => nomatch e⟩
 keep := fun i h h' st k => by
  obtain ⟨hz, hTI, ⟨x, y, hTO⟩, h1, h2⟩ := st
  exact ⟨k z (by simp) _ hz, k TI (by simp) _ hTI, ⟨x, y, k TO (by simp) _ hTO⟩, h1.at fun o q => k i1 (by simp) o q, h2.at fun o q => k i2 (by simp) o q⟩
 item := by
  intro X hP hw hK hc i pins s σ H E I hf st hg
  subst hP hw hK
  obtain ⟨hz, hTI, ⟨u1, u2, hTO⟩, h1, h2⟩ := st
  obtain ⟨xs, ys, x, y, hq, hq2, hx, hy⟩ := hg
  obtain ⟨its, rv, p, _⟩ := I.list hq
  obtain ⟨its2, rv2, p2, _⟩ := I.list hq2
  obtain ⟨u, hu, ru⟩ := rv.get hx
  obtain ⟨v, hv, rv'⟩ := rv2.get hy
  refine wpAny_pyNext_zip_item D hz hTI hTO h1 h2 p.isList p2.isList (x := u) (y := v) (by simpa using hu) (by simpa using hv) fun h1' a1 a2 a3 a4 a5 a6 kk => ?_
  have nn : H s.heap.objs.size = none := I.hok.fresh (Nat.le_refl _)
  have hf4 : ∀ c ∈ [z, TO, i1, i2], FpOk X pins H c := fun c hc => hf c (by
   have hc' : c = z ∨ c = TO ∨ c = i1 ∨ c = i2 := by simpa using hc
   rcases hc' with q | q | q | q <;> simp [q])
  have I1 : Inv X pins σ (upd H s.heap.objs.size (.tup [x, y])) { s with heap := h1', toks := s.toks } :=
   I.turnLaid (ch := [z, TO, i1, i2]) hf4 (fun c o hc q => kk c o (fun e => hc (by simp [e])) (fun e => hc (by simp [e])) (fun e => hc (by simp [e])) (fun e => hc (by simp [e])) q) (Nat.le_refl _)
    ⟨⟨by show 2 ≤ sizeLine; decide, _, a5, rfl⟩, [u, v], .cons ru (.cons rv' .nil), ⟨_, a5, rfl, _, rfl⟩⟩
  have lz : z < s.heap.objs.size := Heap.lt_size hz
  have lTI : TI < s.heap.objs.size := Heap.lt_size hTI
  have lTO : TO < s.heap.objs.size := Heap.lt_size hTO
  have l1 : i1 < s.heap.objs.size := by obtain ⟨o, q, _⟩ := id h1; exact Heap.lt_size q
  have l2 : i2 < s.heap.objs.size := by obtain ⟨o, q, _⟩ := id h2; exact Heap.lt_size q
  refine ⟨_, rfl, wpAny_letOwnedTupleGo_zip a1 fun h2' e2 sb => ?_⟩
  obtain ⟨f0, f1, f2, f3, f4, f5⟩ := hf z (by simp)
  have I2 := I1.turned (h' := h2') (t' := s.toks) (it := z) (fun c o hc q => (sb.2 c hc).trans q) (by rw [upd_ne (Nat.ne_of_lt lz)]; exact f0) f1 f3 f4 f5
  refine ⟨.ref s.heap.objs.size, _, I2, rfl, ⟨x, y, s.heap.objs.size, fun zs hy => by rw [I.list_inj hy hq]; exact hx, fun zs hz' => by rw [I.list_inj hz' hq2]; exact hy, nn, rfl, rfl⟩,
   ⟨e2, (sb.2 TI D.TIz).trans (kk _ _ D.TIz D.TITO D.TIi1 D.TIi2 hTI), ⟨_, _, (sb.2 TO D.TOz).trans a2⟩, a3.at fun o q => (sb.2 i1 D.i1z).trans q, a4.at fun o q => (sb.2 i2 D.i2z).trans q⟩, fun c hc => ?_⟩
  have hlt : c < s.heap.objs.size := by
   have hc' : c = z ∨ c = TO ∨ c = i1 ∨ c = i2 ∨ c = TI := by simpa using hc
   rcases hc' with q | q | q | q | q
   ·rw [q]; exact lz
   ·rw [q]; exact lTO
   ·rw [q]; exact l1
   ·rw [q]; exact l2
   ·rw [q]; exact lTI
  rw [upd_ne (Nat.ne_of_lt hlt)]
  exact (hf c hc).1
 done := by
  intro X hP hw hK hc i pins s σ H E I hf st hg
  subst hP hw hK
  obtain ⟨hz, hTI, ⟨u1, u2, hTO⟩, h1, h2⟩ := st
  obtain ⟨xs, ys, hq, hq2, hx⟩ := hg
  obtain ⟨its, rv, p, _⟩ := I.list hq
  obtain ⟨its2, rv2, p2, _⟩ := I.list hq2
  have hl := rv.length
  have hl2 := rv2.length
  have hend : its.toArray[i]? = none ∨ its2.toArray[i]? = none := by
   rcases hx with q | q
   ·exact .inl (by simp; omega)
   ·exact .inr (by simp; omega)
  have hf4 : ∀ c ∈ [z, TO, i1, i2], FpOk X pins H c := fun c hc => hf c (by
   have hc' : c = z ∨ c = TO ∨ c = i1 ∨ c = i2 := by simpa using hc
   rcases hc' with q | q | q | q <;> simp [q])
  exact wpAny_pyNext_zip_end (I.ok.hd hc) D hz hTI hTO h1 h2 p.isList p2.isList hend fun h' kk =>
   ⟨rfl, I.turnedL (t' := s.toks) (ch := [z, TO, i1, i2]) hf4 (fun c o hc q => kk c o (fun e => hc (by simp [e])) (fun e => hc (by simp [e])) (fun e => hc (by simp [e])) (fun e => hc (by simp [e])) q)⟩
 self := fun _ _ _ _ _ st h => wpAny_pyIter_zip st.1 h
def iZip (K : PySem.W.Frag) (ta : TA) : TI := fun σ H R => ta σ H fun vs H1 => ∃ a b, vs = [.ref a, .ref b] ∧ (∃ xs, SqL K H1 a xs) ∧ (∃ ys, SqL K H1 b ys) ∧ R (Itz K a b) H1
theorem pi_zip {X : Cx} {elts : List Expr} {x1} {tpos : Pos} {a b : Expr} {ta : TA} {p pos : Pos} (hg : Gl X "zip") (hm : X.mg "zip" = none) (ha : PA X [a, b] ta)
  (hs : starEach [a, b] X.env = [(false, eval a X.env), (false, eval b X.env)] := by rfl) (hs2 : starEach [b] X.env = [(false, eval b X.env)] := by rfl) :
  PI X (.Tuple elts x1 tpos) (.Call (.Name "zip" p) [a, b] [] pos) (iZip X.K ta) := by
 intro pins s σ H R I h
 refine Call_ (ld_blt I hg hm boot_zip (PyProof.Rows.callWith_type1 (thn (ha pos pins s σ H _ I h) fun us s1 ⟨vs, H1, I1, r1, q1⟩ => ?_) (by rw [hs, hs2]) (by rw [hs2]; rfl)))
 obtain ⟨l1, l2, e, ⟨xs, hq⟩, ⟨ys, hq2⟩, q⟩ := q1
 subst e
 cases r1 with
 | cons r rr =>
  cases rr with
  | cons r' rr =>
   cases rr
   cases r
   cases r'
   obtain ⟨its, rv, pl, _⟩ := I1.list hq
   obtain ⟨its2, rv2, pl2, _⟩ := I1.list hq2
   have a1 : l1 < s1.heap.objs.size := by obtain ⟨_, e, _⟩ := pl.isList; exact Heap.lt_size e
   have a2 : l2 < s1.heap.objs.size := by obtain ⟨_, e, _⟩ := pl2.isList; exact Heap.lt_size e
   refine call_zip_2 pl.isList pl2.isList fun h' hz hTI hTO hi1 hi2 hsz kk => ?_
   have I2 : Inv X pins σ H1 { s1 with heap := h' } := I1.kept (t' := s1.toks) kk
   refine wpAny_pyIter_zip hz ?_
   refine ⟨s1.heap.objs.size + 4, [s1.heap.objs.size + 4, s1.heap.objs.size + 3, s1.heap.objs.size, s1.heap.objs.size + 1, s1.heap.objs.size + 2], _, _, H1, rfl, I2, turn_zip l1 l2 _ _ _ _ _ (zipApart_new a1 a2), ⟨hz, hTI, ⟨_, _, hTO⟩, hi1, hi2⟩, fun c hc => ?_, q⟩
   have hle : s1.heap.objs.size ≤ c := by
    have hc' : c = s1.heap.objs.size + 4 ∨ c = s1.heap.objs.size + 3 ∨ c = s1.heap.objs.size ∨ c = s1.heap.objs.size + 1 ∨ c = s1.heap.objs.size + 2 := by simpa using hc
    rcases hc' with q | q | q | q | q <;> (rw [q]; first | exact Nat.le_add_right _ _ | exact Nat.le_refl _)
   exact I1.fpOk hle (I1.hok.fresh hle)
end L2
namespace L2
open PySem PySem.Spec PyProof.Rows PySem.W PySem.Builtin PySem.Builtin.ObjectAttr
end L2
namespace L2
open PySem PySem.Spec PyProof.Rows
section
variable {X : Cx}
theorem kit_bb {K : PySem.W.Frag} : PySem.W.kitOne K (.type "bool") (.type "bool") = some true := by rfl
end
section
variable {X : Cx} {e : Expr} {lo hi : Option Expr} {st : Expr} {te : TE} {tl th tk : TO} {p2 pos : Pos}
def rRevL (K : PySem.W.Frag) (x : V) (l u k : Option Int) : Hp → VK → Prop := fun H Q => ∃ a xs, l = none ∧ u = none ∧ k = some (-1) ∧ x = .ref a ∧ SqL K H a xs ∧ ∀ p, H p = none → Q (.ref p) (upd H p (.lst xs.reverse))
def tRevL (K : PySem.W.Frag) (te : TE) (tl th tk : TO) : TE := fun σ H Q => te σ H fun x H1 => tl σ H1 fun l H2 => th σ H2 fun u H3 => tk σ H3 fun k H4 => rRevL K x l u k H4 Q
theorem pe_revL (K : PySem.W.Frag) (he : PE X e te) (hl : PO X lo tl) (hu : PO X hi th) (hk : PO X (some st) tk) (hK : X.K = K := by rfl) : PE X (.Subscript e (.Slice lo hi (some st) p2) pos) (tRevL K te tl th tk) := by
 subst hK
 intro pins s σ H Q I h
 refine Subscript_ (thn (he pins s σ H _ I h) fun v s1 ⟨x, H1, I1, r1, q1⟩ => ?_)
 refine wpAny_Slice (thn (hl pins s1 σ H1 _ I1 q1) fun vl s2 ⟨l, H2, I2, pl, q2⟩ => thn (hu pins s2 σ H2 _ I2 q2) fun vu s3 ⟨u, H3, I3, pu, q3⟩ => thn (hk pins s3 σ H3 _ I3 q3) fun vk s4 ⟨k, H4, I4, pk, q4⟩ => ?_)
 obtain ⟨a, xs, rfl, rfl, rfl, rfl, hx, q⟩ := q4
 cases pl
 cases pu
 cases pk with
 | int i t =>
  cases r1
  have I5 : Inv X pins σ H4 { s4 with heap := s4.heap.push { cls := .type "slice", data := .fields #[.none, .none, .int (-1) t] } } := I4.kept (t' := s4.toks) fun b ob q => Heap.get?_push_of_some _ q
  obtain ⟨its, r, ht, hz⟩ := I5.list hx
  have hlen : its.toArray.size = xs.length := by rw [List.size_toArray]; exact r.length.symm
  show wpAny (model X.prog X.w) X.A (subscriptTail e (.Slice lo hi (some st) p2) (.ref a) (.ref s4.heap.objs.size)) (EP X pins σ Q) X.xe { s4 with heap := s4.heap.push { cls := .type "slice", data := .fields #[.none, .none, .int (-1) t] } }
  refine tail_any (ops := [.ref a, .ref s4.heap.objs.size]) ht.isList.typeIs list_getitem_lookup ?_ (by with_unfolding_all rfl)
  refine wpAny_getItem_list_slice (lo := none) (hi := none) (st := some (-1)) ht.isList (Heap.IsSliceOf.new ..) .none .none (.int _ _) (by decide) ?_ (by rw [hlen]; exact hz)
  rw [PySem.W.krv_pick]
  refine ⟨.ref _, _, I5.laid (o := .lst xs.reverse) (t' := s4.toks) (fun _ _ q => Heap.get?_push_of_some _ q) (Nat.le_refl _) ?_, rfl, q _ (I5.hok.fresh (Nat.le_refl _))⟩
  exact ⟨by rw [List.length_reverse]; exact hz, _, 0, paired_reverse r, Heap.get?_push_size _ rfl⟩
end
section
variable {prog : Program} {w : World} {A : Around} {E : Value → Shared → Prop} {s : Shared}
theorem tupIter_but {h h' : Heap} {it t b : Addr} {i : Nat} (x : h.IsTupleIter it t i) (sb : Heap.ExtBut b h h') (n : it ≠ b) : h'.IsTupleIter it t i := let ⟨o, ho, r⟩ := x; ⟨o, sb _ _ n ho, r⟩
theorem isTup_but {h h' : Heap} {t b : Addr} {ys : Array Value} (x : h.IsTuple t ys) (sb : Heap.ExtBut b h h') (n : t ≠ b) : h'.IsTuple t ys := let ⟨o, ho, r⟩ := x; ⟨o, sb _ _ n ho, r⟩
abbrev itT (l : Addr) : Obj := { cls := .type "tuple_iterator", data := .fields #[.ref l, .int 0 0] }
end
structure LamScope (ps frn : List Str) (scope : Scope) : Prop where
 kind : scope.kind = .function
 co : scope.isCoroutine = false
 gen : scope.isGenerator = false
 nocell : ∀ x ∈ scope.names, x.2 ≠ .cell
 par : ∀ x ∈ ps, scope.names.lookup x = some .local
 free : ∀ x ∈ frn, scope.names.lookup x = some .free
 only : ∀ x, scope.names.lookup x = some .free → x ∈ frn
 nd : (ps ++ frn).Nodup
structure LamCells (h : Heap) (cl : List (Str × Addr)) (frn : List Str) (fvs : List V) : Prop where
 inj : ∀ x y c, cl.lookup x = some c → cl.lookup y = some c → x = y
 cell : ∀ x c, cl.lookup x = some c → ∃ v, h.IsCell c v
 vals : Paired (fun x v => ∃ c u, cl.lookup x = some c ∧ h.IsCell c (some u) ∧ RelV v u) frn fvs
def cxL (P : Program) (w : World) (K : PySem.W.Frag) (mg : Str → Option Value) (base : Heap) (N : List Str) (qual : Str) (scope : Scope) (f : Addr) (cd : Value) (cl : List (Str × Addr)) (A : Around) (outer : List Env) (s : Shared) (H : Hp) : Cx where
 prog := P
 w := w
 K := K
 mg := mg
 base := base
 A := A.deeper (PySem.W.envX qual scope s.heap.objs.size f cd cl)
 N := N
 s₀ := s
 H₀ := H
 env := PySem.W.envX qual scope s.heap.objs.size f cd cl
 outer := outer
 stack := PySem.W.envX qual scope s.heap.objs.size f cd cl :: outer
 ex := []
 calm := true
 fn := fun _ => false
 pn := []
 xe := fun _ _ => False
theorem zip_rev {ps : List Str} {us : List Value} (nd : ps.Nodup) (hl : ps.length ≤ us.length) {i : Nat} {y : Str} {u : Value} (hp : ps[i]? = some y) (hu : us[i]? = some u) : (ps.zip us).reverse.lookup y = some u := by
 have hm : (y, u) ∈ (ps.zip us).reverse := by
  rw [List.mem_reverse]
  refine List.mem_of_getElem? (i := i) ?_
  rw [List.getElem?_zip_eq_some]
  exact ⟨hp, hu⟩
 have hn : ((ps.zip us).reverse.map (·.1)).Nodup := by
  rw [List.map_reverse]
  refine (List.reverse_perm _).nodup_iff.mpr ?_
  rw [List.map_fst_zip hl]
  exact nd
 generalize (ps.zip us).reverse = l at hm hn
 induction l with
 | nil => cases hm
 | cons p l ih =>
  rw [List.map_cons, List.nodup_cons] at hn
  rcases List.mem_cons.mp hm with e | e
  ·subst e; exact List.lookup_cons_self
  ·have : y ≠ p.1 := fun z => hn.1 (by rw [← z]; exact List.mem_map.mpr ⟨_, e, rfl⟩)
   obtain ⟨a, b⟩ := p
   rw [List.lookup_cons, show (y == a) = false from beq_false_of_ne this]
   exact ih e hn.2
theorem paired_get {α β : Type} {F : α → β → Prop} : ∀ {l : List α} {m : List β} {i : Nat} {a : α}, Paired F l m → l[i]? = some a → ∃ b, m[i]? = some b ∧ F a b
 | _, _, _, _, .nil, h => by simp at h
 | _, _, 0, _, .cons r _, h => by simp at h; subst h; exact ⟨_, rfl, r⟩
 | _, _, i + 1, _, .cons _ t, h => by
  simp only [List.getElem?_cons_succ] at h ⊢
  exact paired_get t h
theorem inv_lam {P : Program} {w : World} {K : PySem.W.Frag} {mg : Str → Option Value} {base : Heap} {ps frn : List Str} {qual : Str} {scope : Scope} {f : Addr} {cd : Value} {cl : List (Str × Addr)} {A : Around} {outer : List Env} {s : Shared} {H : Hp} {us : List Value} {vs fvs : List V} {h1 : Heap} {fo : Obj} {tk : Nat}
  (S : LamScope ps frn scope) (hd : A.handled = none) (e0 : Env0 P w K mg base A outer s H) (hl : vs.length = ps.length) (r : Vals vs us) (C : LamCells base cl frn fvs)
  (hns : h1.Ns s.heap.objs.size fun x => (ps.zip us).reverse.lookup x) (hsb : Heap.SameBut s.heap.objs.size (s.heap.push fo) h1) :
  Inv (cxL P w K mg base (ps ++ frn) qual scope f cd cl A outer s H) [] (vs.map some ++ fvs.map some) H { s with heap := h1, toks := tk } := by
 have hk : ∀ b o, s.heap.get? b = some o → h1.get? b = some o := fun b o e => hsb.extBut b o (Nat.ne_of_lt (Heap.lt_size e)) (Heap.get?_push_of_some _ e)
 have hkb : ∀ b o, base.get? b = some o → h1.get? b = some o := fun b o e => hk b o (e0.bs b o e).1
 have noA : ∀ b : Addr, b ∉ (cxL P w K mg base (ps ++ frn) qual scope f cd cl A outer s H).ex := fun b z => absurd (show b ∈ ([] : List Addr) from z) (by simp)
 have lf : frn.length = fvs.length := Paired.length C.vals
 refine ⟨⟨e0.mod, S.kind, rfl, rfl, Nat.le_refl _, C.inj, fun y hy => ?_, fun y c z => (nomatch z), fun _ => hd, Around.frames_deeper e0.frames, .inr ⟨rfl, rfl⟩, fun b z => absurd z (noA b), e0.bs, e0.bsz, fun b _ _ => noA b, fun b z => absurd z (noA b), e0.funs, e0.frf⟩,
  rfl, e0.bare, Un.kept hk, ⟨_, hns, fun i y v h1' h2 h3 => ?_⟩, fun y c h => ?_, e0.hok.fresh (Nat.le_refl _), fun y c h => ?_, fun p hp => absurd (show p ∈ ([] : List (Addr × Obj)) from hp) (by simp), e0.hok.kept hk, ?_⟩
 ·have hy : scope.names.lookup y = some .cell ∨ scope.names.lookup y = some .free := hy
  rcases hy with hy | hy
  ·exact absurd rfl (S.nocell _ (PySem.mem_of_lookup hy))
  ·have hm := S.only y hy
   obtain ⟨i, hi⟩ := List.getElem?_of_mem hm
   obtain ⟨v, _, c, u, hc, _⟩ := paired_get C.vals hi
   exact ⟨c, hc⟩
 ·have h1'' : (ps ++ frn)[i]? = some y := h1'
  by_cases hi : i < ps.length
  ·rw [List.getElem?_append_left hi] at h1''
   rw [List.getElem?_append_left (by rw [List.length_map]; omega), List.getElem?_map] at h2
   obtain ⟨v', hv', e⟩ := Option.map_eq_some_iff.mp h2
   have e' : v' = v := Option.some.inj e
   subst e'
   obtain ⟨u, hu, rv⟩ := r.get hv'
   have ndP : ps.Nodup := (List.nodup_append.mp S.nd).1
   exact ⟨u, rv, .inl ⟨S.par y (List.mem_of_getElem? h1''), zip_rev ndP (by rw [← hl, r.length]; exact Nat.le_refl _) h1'' hu⟩⟩
  ·rw [List.getElem?_append_right (by omega)] at h1''
   rw [List.getElem?_append_right (by rw [List.length_map]; omega), List.length_map, hl, List.getElem?_map] at h2
   obtain ⟨v', hv', e⟩ := Option.map_eq_some_iff.mp h2
   have e' : v' = v := Option.some.inj e
   subst e'
   obtain ⟨v2, hv2, c, u, hc, ⟨o, ho, hd'⟩, rv⟩ := paired_get C.vals h1''
   rw [hv'] at hv2
   cases hv2
   exact ⟨u, rv, .inr ⟨.inr (S.free y (List.mem_of_getElem? h1'')), c, hc, o, hkb _ _ ho, hd'⟩⟩
 ·obtain ⟨v, o, ho, hd'⟩ := C.cell y c h
  exact ⟨v, o, hkb _ _ ho, hd'⟩
 ·obtain ⟨v, o, ho, hd'⟩ := C.cell y c h
  exact (e0.bs c o ho).2
 ·show _ = (ps ++ frn).length
  rw [List.length_append, List.length_map, List.length_map, List.length_append, hl, lf]
theorem fn_lam {P : Program} {w : World} {K : PySem.W.Frag} {mg : Str → Option Value} {base : Heap} {k : Nat} {f c' : Addr} {name qual : Str} {params : Arguments} {body : Expr} {scope : Scope} {cl : List (Str × Addr)} {pm ctv : Value} {ps frn : List Str} {fvs : List V} {sp : Sp}
  (ho : base.get? f = some (PySem.W.kla_obj name qual params body scope cl pm c' ctv)) (hcr : base.CodeRec (.ref c') qual) (S : LamScope ps frn scope) (C : LamCells base cl frn fvs) (len : ∀ vs H Q E, sp vs H Q E → vs.length = ps.length)
  (hbody : ∀ (A : Around) (outer : List Env) (s : Shared) (H : Hp) (vs : List V) (Q : VK) (E : XK), Room k (A.deeper (PySem.W.envX qual scope s.heap.objs.size f (.ref c') cl)) → sp vs H Q E →
   ∃ t, PE (cxL P w K mg base (ps ++ frn) qual scope f (.ref c') cl A outer s H) body t ∧ t (vs.map some ++ fvs.map some) H Q) :
  FnOk P w K mg base CX0 (k + 1) f (PySem.W.kla_fn name qual params body scope cl pm (.ref c') ctv) ps sp := by
 refine ⟨len, fun A outer s H args us vs Q E hr e0 hb r hsp => ?_⟩
 have hl := len _ _ _ _ hsp
 have lim : s.heap.NoLimit := e0.mod.nolimit.keeps fun b o e => (e0.bs b o e).1
 have hcr' : s.heap.CodeRec (.ref c') qual := by
  obtain ⟨c, oc, vs', tq, hc, hoc, hdc, hq⟩ := hcr
  exact ⟨c, oc, vs', tq, hc, (e0.bs _ _ hoc).1, hdc, hq⟩
 refine PySem.W.kla_callFunE hr.depth (e0.bs _ _ ho).1 rfl S.co S.gen rfl hcr' (hb _ _ _ _ ?_)
 have hloc : ∀ y ∈ ps.zip us, scope.names.lookup y.1 = some .local := fun ⟨n, v⟩ hy => S.par n (List.of_mem_zip hy).1
 refine wpAny_newFunctionEnv S.nocell hloc (fun h₁ hns hsb => ⟨lim.fresh _ hsb, ?_⟩) S.kind
 obtain ⟨t, ht, hq⟩ := hbody A outer s H vs Q E (hr.deeper _) hsp
 have I : Inv (cxL P w K mg base (ps ++ frn) qual scope f (.ref c') cl A outer s H) [] (vs.map some ++ fvs.map some) H { s with heap := h₁, toks := s.toks + (ps.zip us).length } := inv_lam S hr.hd e0 hl r C hns hsb
 refine PySem.W.kla_codeExpr (wpAny_mono (ht [] _ _ H _ I hq) (fun v s' hs => ?_) fun e s' hs => hs.elim)
 obtain ⟨x, H', J, rv, q⟩ := hs
 exact ⟨x, H', J.os, J.bare, J.base, J.hok, rv, q⟩
section
variable {X : Cx} {x : Str} {p pos : Pos} {e : Expr} {es : List Expr} {t : TA} {k : Nat} {f : Addr} {fd : FuncData} {ps : List Str} {sp : Sp}
def tCallV (i : Nat) (f : Addr) (sp : Sp) (t : TA) : TE := fun σ H Q => σ[i]? = some (some (.ref f)) ∧ t σ H fun vs H1 => sp vs H1 Q E0
theorem pe_callV (F : FnOk X.prog X.w X.K X.mg X.base CX0 k f fd ps sp) {i : Nat} {o : Obj} (ho : X.base.get? f = some o) (hof : o.data = .func fd) (hr : Room k X.A) (hb : ∀ us : List Value, us.length = ps.length → bindArgs fd ⟨us, []⟩ = pure (ps.zip us))
  (hN : X.N[i]? = some x) (hv : Vis X.env.scope x) (ha : PA X (e :: es) t) (hdb : (x == ("__debug__" : Str)) = false := by decide) (hcd : (x == ("__classdict__" : Str)) = false := by decide)
  (he : starEach (e :: es) X.env = (false, eval e X.env) :: starEach es X.env := by rfl) (hpl : (backTo pos (starEach es X.env)).any (·.1) = false := by rfl) :
  PE X (.Call (.Name x p) (e :: es) [] pos) (tCallV i f sp t) := by
 intro pins s σ H Q I h
 obtain ⟨hi, h⟩ := h
 obtain ⟨m, hn, hl⟩ := I.loc
 obtain ⟨u, r, l⟩ := hl i x (.ref f) hN hi hv
 obtain rfl : u = Value.ref f := r
 have fin : wpAny (model X.prog X.w) X.A (callWith pos (.ref f) [] (backTo pos (starEach (e :: es) X.env)) []) (EP X pins σ Q) X.xe s := by
  have h0 : wpAny (model X.prog X.w) X.A (spliced (backTo pos (starEach (e :: es) X.env))) (fun us s₁ => s₁.heap.get? f = some o ∧ wpAny (model X.prog X.w) X.A (call (.ref f) ([] ++ us)) (EP X pins σ Q) X.xe s₁) X.xe s := by
   refine thn (ha pos pins s σ H _ I h) fun us s1 ⟨vs, H1, I1, r, q⟩ => ⟨I1.bk _ _ ho, ?_⟩
   exact run_fn (ds := []) (dvs := []) F hr (Binds.all hb) .nil pass0 I1 r (by rw [List.append_nil]; exact q)
  rw [he] at h0 ⊢
  refine PySem.W.callWith_of (P := fun h => h.get? f = some o) ?_ (fun h hf => ⟨.frame, .inl rfl, (PySem.W.Looks.ld (part := none) hf).andThen ?_⟩) (Calls.evalArgs_plain h0)
  ·show ((false || (backTo pos (starEach es X.env)).any (·.1)) || false) = false
   rw [hpl]; rfl
  ·rw [hof]
   exact .now
 rcases l with ⟨hk, hm⟩ | ⟨hk, c, hc, hcell⟩
 ·exact wpAny_Call_Name_kw (wpAny_Name (wpAny_loadName_local I.ok.kind hk hn hm fin) hdb)
 ·rcases hk with hk | hk
  ·exact wpAny_Call_Name_kw (wpAny_Name (wpAny_loadName_cell I.ok.kind hk hc hcell fin) hdb)
  ·exact wpAny_Call_Name_kw (wpAny_Name (wpAny_loadName_free I.ok.kind hk hc hcell fin hcd) hdb)
end
def fnO (f : Addr) (o : Obj) : HO := .ext fun h => h.get? f = some o
def cdO (c : Addr) (qual : Str) : HO := .ext fun h => h.CodeRec (.ref c) qual
section
variable {P : Program} {w : World} {H : Hp} {h : Heap}
theorem fnO_ok {f : Addr} {o : Obj} (e : h.get? f = some o) : ObjOk P w H h f (fnO f o) :=
 ⟨e, ⟨o, e⟩, fun h1 h2 q k => k o q⟩
theorem cdO_ok {c : Addr} {qual : Str} (e : h.CodeRec (.ref c) qual) : ObjOk P w H h c (cdO c qual) := by
 refine ⟨e, ?_, fun h1 h2 q k => ?_⟩
 ·obtain ⟨c', o, vs, t, e1, e2, _⟩ := e
  cases e1
  exact ⟨o, e2⟩
 ·obtain ⟨c', o, vs, t, e1, e2, r⟩ := q
  cases e1
  exact ⟨c, o, vs, t, rfl, k o e2, r⟩
end
def Tab (H : Hp) (T : Addr) (L : List (Pos × Str)) : Prop :=
 ∃ ps : Array Value, H T = some (.tbl ps) ∧ TriplesOk ps.toList ∧ ∀ p ∈ L, codeAmong p.1 ps.toList = none ∨ ∃ c, codeAmong p.1 ps.toList = some (.ref c) ∧ H c = some (cdO c p.2)
theorem Tab.same {H H' : Hp} {T : Addr} {L : List (Pos × Str)} (x : Tab H T L) (s : Same H H') : Tab H' T L := by
 obtain ⟨ps, h1, h2, h3⟩ := x
 refine ⟨ps, s _ _ h1, h2, fun p hp => ?_⟩
 rcases h3 p hp with z | ⟨c, z, q⟩
 ·exact .inl z
 ·exact .inr ⟨c, z, s _ _ q⟩
theorem among_snoc {p q : Pos} {c : Value} : ∀ (l : List Value), TriplesOk l → ∀ d, codeAmong p (l ++ [rawInt q.line, rawInt q.col, c]) = some d → codeAmong p l = some d ∨ (codeAmong p l = none ∧ p.line = q.line ∧ p.col = q.col ∧ d = c) := by
 intro l
 fun_induction TriplesOk l with
 | case1 =>
  intro _ d h
  simp only [List.nil_append, codeAmong, rawInt] at h
  split at h
  ·rename_i hc
   simp at hc
   cases h
   exact .inr ⟨rfl, by omega, by omega, rfl⟩
  ·cases h
 | case2 a t b u x rest ih =>
  intro hl d h
  simp only [List.cons_append, codeAmong] at h ⊢
  split at h
  ·rename_i hc; rw [if_pos hc]; exact .inl h
  ·rename_i hc; rw [if_neg hc]; exact ih hl d h
 | case3 l h1 h2 => intro h; exact h.elim
def Apart (L : List (Pos × Str)) : Prop := ∀ p ∈ L, ∀ q ∈ L, p.1.line = q.1.line → p.1.col = q.1.col → p = q
theorem Tab.grown {H H' : Hp} {T c' : Addr} {L : List (Pos × Str)} {ps : Array Value} {q : Pos × Str} (hq : q ∈ L) (ap : Apart L) (h2 : TriplesOk ps.toList) (h3 : ∀ p ∈ L, codeAmong p.1 ps.toList = none ∨ ∃ c, codeAmong p.1 ps.toList = some (.ref c) ∧ H c = some (cdO c p.2))
  (hT : H' T = some (.tbl (ps ++ #[rawInt q.1.line, rawInt q.1.col, .ref c']))) (hc : H' c' = some (cdO c' q.2)) (k : ∀ b φ, H b = some (.ext φ) → H' b = some (.ext φ)) : Tab H' T L := by
 have e : (ps ++ #[rawInt q.1.line, rawInt q.1.col, .ref c']).toList = ps.toList ++ [rawInt q.1.line, rawInt q.1.col, .ref c'] := by simp
 refine ⟨_, hT, by rw [e]; exact TriplesOk_snoc _ _ _ _ h2, fun p hp => ?_⟩
 rw [e]
 cases z : codeAmong p.1 (ps.toList ++ [rawInt q.1.line, rawInt q.1.col, .ref c']) with
 | none => exact .inl rfl
 | some d =>
  rcases among_snoc _ h2 d z with y | ⟨_, y1, y2, y3⟩
  ·rcases h3 p hp with n | ⟨c, n, r⟩
   ·rw [n] at y; cases y
   ·rw [n] at y; cases y
    exact .inr ⟨c, rfl, k _ _ r⟩
  ·have := ap p hp q hq y1 y2
   subst this
   subst y3
   exact .inr ⟨c', rfl, hc⟩
section
variable {X : Cx} {pos : Pos} {params : Arguments} {body : Expr} {scope : Scope} {c T : Addr} {clos : List (Str × Addr)} {L : List (Pos × Str)} {bm : Addr} {ob : Obj}
abbrev lamO (X : Cx) (params : Arguments) (body : Expr) (scope : Scope) (clos : List (Str × Addr)) (c' : Addr) (ctv : Value) : Obj := PySem.W.kla_obj "<lambda>" (X.env.qual ++ "<lambda>") params body scope clos ((X.mg "__name__").getD .none) c' ctv
def tLam (X : Cx) (params : Arguments) (body : Expr) (scope : Scope) (clos : List (Str × Addr)) (T : Addr) (L : List (Pos × Str)) : TE := fun σ H Q =>
 Tab H T L ∧ ∀ f c' ctv H', H f = none → H' f = some (fnO f (lamO X params body scope clos c' ctv)) → H' c' = some (cdO c' (X.env.qual ++ "<lambda>")) → Tab H' T L → KB T H H' → Q (.ref f) H'
def BltAt (mg : Str → Option Value) (base : Heap) : Prop :=
 ∃ bm o, mg "__builtins__" = some (.ref bm) ∧ bm ≠ builtinsNs ∧ base.get? bm = some o ∧ o.cls = .type "module" ∧ o.dict = some builtinsNs ∧ o.data = .plain
theorem pe_lam (hcode : X.env.code = .ref c) (C : PySem.W.CodeHd X.base c T) (hB : BltAt X.mg X.base) (hcl : closureFor scope X.env = pure clos) (hdef : defaultsOf params X.env = ([], [])) (hL : (pos, X.env.qual ++ "<lambda>") ∈ L) (ap : Apart L) (hfs : X.ex = []) :
  PE X (.Lambda params body scope pos) (tLam X params body scope clos T L) := by
 intro pins s σ H Q I ⟨⟨ps, hT, ht, htab⟩, h⟩
 refine PySem.W.kla_eval hdef ?_
 have hTo : s.heap.get? T = some (PySem.W.tabObj ps) := I.hok T _ hT
 have hg : s.heap.Ns mainGlobals X.mg := I.ok.mod.glob.keeps I.bk
 have hgT : mainGlobals ≠ T := fun q => by
  obtain ⟨o, es, ep, e, hd, _⟩ := hg
  rw [q, hTo] at e; cases e; cases hd
 have hBA : s.heap.BuiltinsAt X.mg T := by
  obtain ⟨bm, o, h1, h2, h3, h4, h5, h6⟩ := hB
  refine ⟨bm, o, h1, h2, fun q => ?_, fun q => ?_, I.bk _ _ h3, h4, h5, h6⟩
  ·obtain ⟨o', es, ep, e, hd, _⟩ := I.ok.mod.glob
   rw [q, e] at h3; cases h3; rw [hd] at h6; cases h6
  ·have := I.bk _ _ h3
   rw [q, hTo] at this; cases this; cases h4
 have hCs := C.keeps I.bk
 rcases htab _ hL with hn | ⟨c', hc', hHc⟩
 ·refine PySem.W.kla_makeFunction (mg := X.mg) hcl I.ok.glob hg hcode hCs hTo ht hn hgT hBA fun c' ctv h' tk hx hge hlt hrec htb => ?_
  have nc : H c' = none := I.hok.fresh hge
  have szh : s.heap.objs.size ≤ h'.objs.size := Nat.le_of_lt (Nat.lt_of_le_of_lt hge hlt)
  have nf : H h'.objs.size = none := I.hok.fresh szh
  have fc : h'.objs.size ≠ c' := Nat.ne_of_gt hlt
  have Tc : T ≠ c' := ne_of_none hT nc
  have Tf : T ≠ h'.objs.size := ne_of_none hT nf
  have fT := Ne.symm Tf
  have cT := Ne.symm Tc
  have keep : ∀ b o, b ≠ T → s.heap.get? b = some o → (h'.push (lamO X params body scope clos c' ctv)).get? b = some o := fun b o hb e => Heap.get?_push_of_some _ (hx b o hb e)
  let H' : Hp := upd (upd (upd H T (.tbl (ps ++ #[rawInt pos.line, rawInt pos.col, .ref c']))) c' (cdO c' (X.env.qual ++ "<lambda>"))) h'.objs.size (fnO h'.objs.size (lamO X params body scope clos c' ctv))
  have eT : H' T = some (.tbl (ps ++ #[rawInt pos.line, rawInt pos.col, .ref c'])) := by show upd _ _ _ _ = _; rw [upd_ne Tf, upd_ne Tc, upd_same]
  have ec : H' c' = some (cdO c' (X.env.qual ++ "<lambda>")) := by show upd _ _ _ _ = _; rw [upd_ne fc.symm, upd_same]
  have ef : H' h'.objs.size = some (fnO h'.objs.size (lamO X params body scope clos c' ctv)) := upd_same
  have eo : ∀ b, b ≠ T → b ≠ c' → b ≠ h'.objs.size → H' b = H b := fun b h1 h2 h3 => by show upd _ _ _ _ = _; rw [upd_ne h3, upd_ne h2, upd_ne h1]
  have kb : KB T H H' := fun b o e hb => by rw [eo b hb (ne_of_none e nc) (ne_of_none e nf)]; exact e
  have hnew : ∀ b o, s.heap.get? b = some o → b ≠ c' ∧ b ≠ h'.objs.size := fun b o e => ⟨Nat.ne_of_lt (Nat.lt_of_lt_of_le (Heap.lt_size e) hge), Nat.ne_of_lt (Nat.lt_of_lt_of_le (Heap.lt_size e) szh)⟩
  have tabOk' := Tab.grown (H := H) (H' := H') hL ap ht htab eT ec fun b φ e => kb b _ e fun z => by rw [z, hT] at e; cases e
  have hok' : HOk X.prog X.w H' (h'.push (lamO X params body scope clos c' ctv)) := fun b u e => by
   by_cases b1 : b = T
   ·subst b1
    rw [eT] at e; cases e
    exact Heap.get?_push_of_some _ htb
   by_cases b2 : b = c'
   ·subst b2
    rw [ec] at e; cases e
    exact cdO_ok (hrec.push _)
   by_cases b3 : b = h'.objs.size
   ·subst b3
    rw [ef] at e; cases e
    exact fnO_ok (Heap.get?_push_size _ rfl)
   rw [eo b b1 b2 b3] at e
   refine (I.hok b u e).stay (fun d v hd q => keep d v ?_ q) (fun d q => kb d _ q ?_) fun d xs q => kb d _ q ?_
   ·rintro rfl
    rcases hd with z | z
    ·exact b1 z.symm
    ·rw [hT] at z; cases z
   ·rintro rfl; rw [hT] at q; cases q
   ·rintro rfl; rw [hT] at q; cases q
  refine ⟨.ref h'.objs.size, H', ?_, rfl, h _ _ _ _ nf ef ec tabOk' kb⟩
  have ne_T : ∀ b, H b = none → b ≠ T := fun b n z => by rw [z, hT] at n; cases n
  refine I.un ⟨fun b o e n _ _ => keep b o (ne_T b n) e, fun b o e n _ _ => ⟨o.slots, keep b o (ne_T b n) e⟩, fun b o e n _ => by rw [eo b (ne_T b n) (hnew b o e).1 (hnew b o e).2]; exact n, fun b o e _ => ?_, fun b xs e => kb b _ e fun z => ?_, fun b o u e => kb b _ e fun z => ?_, fun b qs e => ?_⟩ hok'
  ·by_cases hb : b = T
   ·subst hb; exact ⟨_, Heap.get?_push_of_some _ htb⟩
   ·exact ⟨o, keep b o hb e⟩
  ·rw [z, hT] at e; cases e
  ·rw [z, hT] at e; cases e
  ·by_cases hb : b = T
   ·subst hb
    rw [hT] at e; cases e
    exact ⟨_, eT⟩
   ·exact ⟨#[], by rw [kb b _ e hb]; simp⟩
 ·refine PySem.W.kla_makeFunctionHit (mg := X.mg) hcl I.ok.glob hg hcode hCs hTo ht hc' hBA fun ctv h' tk hk hsz => ?_
  have nf : H h'.objs.size = none := I.hok.fresh hsz
  have keep : ∀ b o, s.heap.get? b = some o → (h'.push (lamO X params body scope clos c' ctv)).get? b = some o := fun b o e => Heap.get?_push_of_some _ (hk b o e)
  have kb : Same H (upd H h'.objs.size (fnO h'.objs.size (lamO X params body scope clos c' ctv))) := fun b o e => by rw [upd_ne (ne_of_none e nf)]; exact e
  refine ⟨.ref h'.objs.size, upd H h'.objs.size (fnO h'.objs.size (lamO X params body scope clos c' ctv)), I.laid keep hsz (fnO_ok (Heap.get?_push_size _ rfl)), rfl, h _ c' ctv _ nf upd_same (kb _ _ hHc) (Tab.same ⟨ps, hT, ht, htab⟩ kb) fun b o e _ => kb b o e⟩
end
def untr (D : List Addr) (H : Hp) : Hp := fun b => if b ∈ D then none else H b
def retr (D : List Addr) (H H2 : Hp) : Hp := fun b => if b ∈ D then H b else H2 b
theorem untr_in {D : List Addr} {H : Hp} {b : Addr} (h : b ∈ D) : untr D H b = none := if_pos h
theorem untr_out {D : List Addr} {H : Hp} {b : Addr} (h : b ∉ D) : untr D H b = H b := if_neg h
theorem retr_in {D : List Addr} {H H2 : Hp} {b : Addr} (h : b ∈ D) : retr D H H2 b = H b := if_pos h
theorem retr_out {D : List Addr} {H H2 : Hp} {b : Addr} (h : b ∉ D) : retr D H H2 b = H2 b := if_neg h
def wide (h : Heap) (H : Hp) (fs : List Addr) : Heap := PySem.W.hideAll (hidT h H) fs
theorem wide_size (h : Heap) (H : Hp) (fs : List Addr) : (wide h H fs).objs.size = h.objs.size := (PySem.W.hideAll_size _ _).trans (hidT_size _ _)
theorem wide_get {h : Heap} {H : Hp} {fs : List Addr} {b : Addr} {o : Obj} (e : h.get? b = some o) (n : H b = none) (nf : b ∉ fs) : (wide h H fs).get? b = some o := PySem.W.hideAll_get _ (hidT_get e n) nf
theorem of_wide {h : Heap} {H : Hp} {fs : List Addr} {b : Addr} {o : Obj} (e : (wide h H fs).get? b = some o) : h.get? b = some o ∧ H b = none := of_hidT (PySem.W.of_hideAll fs e)
theorem wide_none {h : Heap} {H : Hp} {fs : List Addr} {b : Addr} (hb : b ∈ fs) : (wide h H fs).get? b = none := PySem.W.hideAll_none fs hb
theorem funFrames_base {h base base' : Heap} : ∀ {l : List Env}, h.FunFrames base l → (∀ b ∈ frs l, base'.get? b = none) → h.FunFrames base' l
 | [], _, _ => trivial
 | env :: r, ⟨hk, ⟨L, o, hf, hn, ho, hd⟩, hr⟩, k => by
  have e : frs (env :: r) = L :: frs r := by unfold frs; rw [List.filterMap_cons, hf]
  exact ⟨hk, ⟨L, o, hf, k L (by rw [e]; exact List.mem_cons_self), ho, hd⟩, funFrames_base hr fun b hb => k b (by rw [e]; exact List.mem_cons_of_mem _ hb)⟩
structure Wide (X : Cx) (σ : St) (D : List Addr) (H : Hp) (base' : Heap) : Prop where
 sub : ∀ b o, X.base.get? b = some o → base'.get? b = some o
 mod : Mod X.K X.mg base'
 ext : ∀ a φ, a ∈ D → H a = some (.ext φ) → φ base'
 val : ∀ (i : Nat) (x : Str) (v : V), X.N[i]? = some x → σ[i]? = some (some v) → X.env.scope.names.lookup x = some .cell → ∃ c u, X.env.cells.lookup x = some c ∧ base'.IsCell c (some u) ∧ RelV v u
 cell : ∀ x c, X.env.cells.lookup x = some c → ∃ v, base'.IsCell c v
 inj : ∀ x y c, X.env.cells.lookup x = some c → X.env.cells.lookup y = some c → x = y
section
variable {X : Cx} {k : Nat} {f : Addr} {fd : FuncData} {ps : List Str} {sp : Sp} {pins : List (Addr × Obj)} {σ : St} {H : Hp} {s : Shared} {D : List Addr}
theorem wide_of (I : Inv X pins σ H s) (hfn : ∀ x, X.fn x = true) (hD : ∀ a ∈ D, ∃ φ, H a = some (.ext φ)) : Wide X σ D H (wide s.heap (untr D H) (frs X.stack)) := by
 have nD : ∀ b, H b = none → b ∉ D := fun b n z => by obtain ⟨φ, e⟩ := hD b z; rw [n] at e; cases e
 have nfr : ∀ b o, X.base.get? b = some o → b ∉ frs X.stack := fun b o e z => by
  rcases List.mem_cons.mp (I.stkSub b z) with q | q
  ·have := Heap.lt_size e
   rw [q] at this
   exact absurd (Nat.lt_of_lt_of_le this (Nat.le_trans I.ok.bsz I.ok.above)) (Nat.lt_irrefl _)
  ·exact I.ok.nofr e q
 have sub : ∀ b o, X.base.get? b = some o → (wide s.heap (untr D H) (frs X.stack)).get? b = some o := fun b o e =>
  wide_get (I.bs b o e).1 (by rw [untr_out (nD b (I.bs b o e).2)]; exact (I.bs b o e).2) (nfr b o e)
 have cellK : ∀ x c v, X.env.cells.lookup x = some c → s.heap.IsCell c v → (wide s.heap (untr D H) (frs X.stack)).IsCell c v := fun x c v e ⟨o, ho, hd⟩ => by
  refine ⟨o, wide_get ho (by rw [untr_out (nD c (I.freeC x c e))]; exact I.freeC x c e) fun z => ?_, hd⟩
  rcases List.mem_cons.mp (I.stkSub c z) with q | q
  ·exact I.cne x c e q
  ·obtain ⟨_, o', ho', _⟩ := I.ok.funs.mem q
   exact absurd (Nat.lt_of_lt_of_le (Heap.lt_size ho') (I.ok.cab x c (hfn x) e)) (Nat.lt_irrefl _)
 refine ⟨sub, ⟨I.ok.mod.kin.keeps sub, I.ok.mod.glob.keeps sub, ?_, I.ok.mod.nolimit.keeps sub⟩, fun a φ ha e => ?_, fun i x v h1 h2 h3 => ?_, fun x c e => ?_, I.ok.inj⟩
 ·obtain ⟨mb, h1, h2⟩ := I.ok.mod.blt
  exact ⟨mb, h1.keeps sub, h2⟩
 ·obtain ⟨p, ⟨o, ho⟩, st⟩ := I.hok a _ e
  refine st _ _ p fun o' e' => wide_get e' (untr_in ha) fun z => ?_
  rw [I.stkFree a z] at e; cases e
 ·obtain ⟨m, _, hl⟩ := I.loc
  obtain ⟨u, r, l⟩ := hl i x v h1 h2 (.inr (.inl h3))
  rcases l with ⟨q, _⟩ | ⟨_, c, e, z⟩
  ·have q' : X.env.scope.names.lookup x = some .local := q
   rw [h3] at q'; cases q'
  ·exact ⟨c, u, e, cellK x c _ e z, r⟩
 ·obtain ⟨v, z⟩ := I.cell x c e
  exact ⟨v, cellK x c v e z⟩
theorem run_fnW {Q : VK} {us : List Value} {vs : List V} (I : Inv X pins σ H s) (hfn : ∀ x, X.fn x = true) (hD : ∀ a ∈ D, ∃ φ, H a = some (.ext φ)) (F : FnOk X.prog X.w X.K X.mg (wide s.heap (untr D H) (frs X.stack)) CX0 k f fd ps sp) (hr : Room k X.A)
  (hb : Binds X.K fd ps []) (r : Vals vs us) (h : sp vs (untr D H) (fun v H2 => (∀ b ∈ D, H2 b = none) → Q v (retr D H H2)) E0) : wpAny (model X.prog X.w) X.A (call (.ref f) us) (EP X pins σ Q) X.xe s := by
 have W := wide_of I hfn hD
 have hl : (us ++ []).length = ps.length := by rw [List.append_nil, ← r.length]; exact F.len _ _ _ _ h
 have keepU : ∀ b u, H b = some u → (∀ φ, u ≠ .ext φ) → untr D H b = some u := fun b u e ne => by
  rw [untr_out fun z => ?_]; exact e
  obtain ⟨φ, q⟩ := hD b z
  rw [e] at q; cases q; exact ne φ rfl
 have uU : ∀ b u, untr D H b = some u → b ∉ D ∧ H b = some u := fun b u e => by
  by_cases hb : b ∈ D
  ·rw [untr_in hb] at e; cases e
  ·rw [untr_out hb] at e; exact ⟨hb, e⟩
 have hokU : HOk X.prog X.w (untr D H) s.heap := fun b u e => (I.hok b u (uU b u e).2).stay (fun _ _ _ q => q) (fun d q => keepU d _ q fun φ z => nomatch z) fun d xs q => keepU d _ q fun φ z => nomatch z
 have nU : ∀ b, H b = none → untr D H b = none := fun b n => by
  by_cases hb : b ∈ D
  ·exact untr_in hb
  ·rw [untr_out hb]; exact n
 have e0 : Env0 X.prog X.w X.K X.mg (wide s.heap (untr D H) (frs X.stack)) X.A X.stack s (untr D H) :=
  ⟨I.ok.frames, W.mod, fun b o e => of_wide e, Nat.le_of_eq (wide_size _ _ _), funFrames_base I.stack fun b hb => wide_none hb, fun b hb => nU b (I.stkFree b hb), hokU, I.bare⟩
 refine wpAny_call (codeAny_mono (F.run X.A X.stack s (untr D H) ⟨us, []⟩ us vs _ _ hr e0 (by have := hb s us I.kIn hl; rwa [List.append_nil] at this) r h) fun r s' hq => ?_)
 cases r with
 | error e => exact hq.elim
 | ok fl =>
  cases fl with
  | next => exact False.elim hq
  | brk => exact False.elim hq
  | cont => exact False.elim hq
  | ret u =>
   obtain ⟨v, H2, os, bare, un, hok, r, q⟩ := hq
   have inD : ∀ b, b ∈ D → ∃ φ o, H b = some (.ext φ) ∧ s.heap.get? b = some o ∧ s'.heap.get? b = some o ∧ H2 b = none := fun b hb => by
    obtain ⟨φ, e⟩ := hD b hb
    obtain ⟨p, ⟨o, ho⟩, st⟩ := I.hok b _ e
    refine ⟨φ, o, e, ho, un.keep b o ho (untr_in hb) (fun z => ?_) (by simp), un.free b o ho (untr_in hb) (by simp)⟩
    rw [I.stkFree b z] at e; cases e
   have nd2 : ∀ b u, H2 b = some u → b ∉ D := fun b u e z => by obtain ⟨_, _, _, _, _, n⟩ := inD b z; rw [n] at e; cases e
   have hokR : HOk X.prog X.w (retr D H H2) s'.heap := fun b u e => by
    by_cases hb : b ∈ D
    ·rw [retr_in hb] at e
     obtain ⟨φ, o, e1, ho, ho', _⟩ := inD b hb
     rw [e1] at e; cases e
     obtain ⟨p, _, st⟩ := I.hok b _ e1
     exact ⟨st _ _ p fun o2 e2 => by rw [ho] at e2; cases e2; exact ho', ⟨o, ho'⟩, st⟩
    ·rw [retr_out hb] at e
     exact (hok b u e).stay (fun _ _ _ q => q) (fun d q => by rw [retr_out (nd2 d _ q)]; exact q) fun d xs q => by rw [retr_out (nd2 d _ q)]; exact q
   have unR : Un (frs X.stack) [] H (retr D H H2) s.heap s'.heap := by
    have nD : ∀ b, H b = none → b ∉ D := fun b n z => by obtain ⟨φ, e⟩ := hD b z; rw [n] at e; cases e
    refine ⟨fun b o e n h1 h2 => un.keep b o e (nU b n) h1 h2, fun b o e n h1 h2 => un.slot b o e (nU b n) h1 h2, fun b o e n h2 => by rw [retr_out (nD b n)]; exact un.free b o e (nU b n) h2, un.there, fun b xs e => ?_, fun b o u e => ?_, fun b qs e => ?_⟩
    ·have e1 := keepU b _ e fun φ z => nomatch z
     rw [retr_out (uU b _ e1).1]; exact un.tups b xs e1
    ·have e1 := keepU b _ e fun φ z => nomatch z
     rw [retr_out (uU b _ e1).1]; exact un.frzs b o u e1
    ·have e1 := keepU b _ e fun φ z => nomatch z
     rw [retr_out (uU b _ e1).1]; exact un.tbls b qs e1
   exact I.after ⟨v, _, os, bare, unR, hokR, r, q fun b hb => by obtain ⟨_, _, _, _, _, n⟩ := inD b hb; exact n⟩
end
section
variable {X : Cx} {x : Str} {p pos : Pos} {e : Expr} {es : List Expr} {t : TA} {k : Nat} {f : Addr} {fd : FuncData} {ps : List Str}
def tCallW (X : Cx) (k : Nat) (f : Addr) (fd : FuncData) (ps : List Str) (t : TA) : TE := fun σ H Q => t σ H fun vs H1 => ∃ D : List Addr, (∀ a ∈ D, ∃ φ, H1 a = some (.ext φ)) ∧
 ∀ base' : Heap, Wide X σ D H1 base' → ∃ sp : Sp, FnOk X.prog X.w X.K X.mg base' CX0 k f fd ps sp ∧ sp vs (untr D H1) (fun v H2 => (∀ b ∈ D, H2 b = none) → Q v (retr D H1 H2)) E0
theorem pe_callW (hfn : ∀ x, X.fn x = true) (hr : Room k X.A) (hg : Gl X x) (hm : X.mg x = some (.ref f)) (hk : PySem.W.keepIn X.K (.ref f) = true) (hb : Binds X.K fd ps [])
  (ha : PA X (e :: es) t) (hdb : (x == ("__debug__" : Str)) = false := by decide) (he : starEach (e :: es) X.env = (false, eval e X.env) :: starEach es X.env := by rfl) (hpl : (backTo pos (starEach es X.env)).any (·.1) = false := by rfl) :
  PE X (.Call (.Name x p) (e :: es) [] pos) (tCallW X k f fd ps t) := by
 intro pins s σ H Q I h
 refine wpAny_Call_Name_kw (ld_glob I hg hm ?_ hdb)
 refine PySem.W.callWith_K (h₀ := X.base) I.ok.mod.kin hk (thn (ha pos pins s σ H _ I h) fun us s1 ⟨vs, H1, I1, r, D, hD, q⟩ => ⟨I1.kIn, ?_⟩) he hpl
 obtain ⟨sp, F, hsp⟩ := q _ (wide_of I1 hfn hD)
 exact run_fnW I1 hfn hD F hr hb r hsp
end
def OnlyT (ts : List Addr) (H : Hp) : Prop := (∀ b, H b = none ∨ (∃ o xs, H b = some (.frz o (.lst xs))) ∨ (b ∈ ts ∧ H b = some (.tbl #[]))) ∧ ∀ b ∈ ts, H b = some (.tbl #[])
theorem OnlyT.tab {ts : List Addr} {H : Hp} {T : Addr} {L : List (Pos × Str)} (x : OnlyT ts H) (h : T ∈ ts) : Tab H T L := ⟨#[], x.2 T h, trivial, fun p _ => .inl rfl⟩
theorem law_callT {P : Program} {w : World} {K : PySem.W.Frag} {mg mb : Str → Option Value} {CX : CXT} {k : Nat} {fa a : Addr} {fd : FuncData} {x : Str} {sp : Sp} {s₁ : Shared} {vs : List Value} {ns : List Int} {ts : List Addr}
  (KX : K.In s₁.heap) (hns : s₁.heap.Ns mainGlobals mg) (hb : s₁.heap.Ns builtinsNs mb) (hbb : ∀ x : Str, x ≠ "__name__" → mb x = bootBuiltins x) (hlim : s₁.heap.NoLimit) (hg : s₁.gens = #[])
  (ha : s₁.heap.get? a = some { cls := .type "list", data := .seq vs.toArray }) (hi : IntsAre vs ns) (hl : ns.length ≤ sizeLine) (hr : Room k callerA)
  (hts : ∀ T ∈ ts, (∃ c, PySem.W.CodeHd s₁.heap c T) ∧ s₁.heap.get? T = some (PySem.W.tabObj #[]) ∧ K.lookup T = none) (hBA : BltAt mg s₁.heap)
  (F : ∀ base : Heap, K.In base → base.Ns mainGlobals mg → BltAt mg base → FnOk P w K mg base CX k fa fd [x] sp) (hbind : ∀ (s : Shared) (u : Value), BindsTo s fd ⟨[u], []⟩ [(x, u)])
  (hsp : ∀ H : Hp, OnlyT ts H → SqL K H a (ns.map V.int) → sp [.ref a] H (fun v _ => v = .bl true) fun _ _ _ => False)
  (hCX : ∀ H e s', CX [] H s₁ (fun _ _ _ => False) e s' → False) :
  codeAny (model P w) callerA (.call (.ref fa) ⟨[.ref a], []⟩) (fun r s' => r = .ok (.ret (.bool true)) ∧ OldK s₁.heap s'.heap ∧ s'.os = s₁.os ∧ AllBare s'.gens) s₁ := by
 have rv := vals_ints hi
 have lenV := hi.length
 have aT : a ∉ ts := fun z => by
  have := (hts a z).2.1
  rw [ha] at this; cases this
 have core : ∀ H : Hp, OnlyT ts H → SqL K H a (ns.map V.int) → HOk P w H s₁.heap → (∀ b, H b ≠ none → b = a ∨ b ∈ ts) → (H a ≠ none → K.lookup a = none) →
   codeAny (model P w) callerA (.call (.ref fa) ⟨[.ref a], []⟩) (fun r s' => r = .ok (.ret (.bool true)) ∧ OldK s₁.heap s'.heap ∧ s'.os = s₁.os ∧ AllBare s'.gens) s₁ := by
  intro H hO hS hok hA hK
  have base_of : ∀ {b : Addr} {o : Obj}, s₁.heap.get? b = some o → H b = none → (hidT s₁.heap H).get? b = some o := fun e n => hidT_get e n
  have noA : ∀ {b : Addr} {o : Obj}, s₁.heap.get? b = some o → o ≠ { cls := .type "list", data := .seq vs.toArray } → o ≠ PySem.W.tabObj #[] → H b = none := fun {b o} e d1 d2 => by
   cases q : H b with
   | none => rfl
   | some u =>
    rcases hA b (by rw [q]; simp) with e' | e'
    ·subst e'
     rw [ha] at e; cases e
     exact absurd rfl d1
    ·have := (hts b e').2.1
     rw [e] at this; cases this
     exact absurd rfl d2
  have nsK : ∀ {b : Addr} {m : Str → Option Value}, s₁.heap.Ns b m → (hidT s₁.heap H).Ns b m := fun {b m} ⟨o, es, ep, e, d, r⟩ => ⟨o, es, ep, base_of e (noA e (fun z => by rw [z] at d; cases d) fun z => by rw [z] at d; cases d), d, r⟩
  have hKb : K.In (hidT s₁.heap H) := fun b o e => base_of (KX b o e) (by
   cases q : H b with
   | none => rfl
   | some u =>
    rcases hA b (by rw [q]; simp) with e' | e'
    ·subst e'
     rw [hK (by rw [q]; simp)] at e; cases e
    ·rw [(hts b e').2.2] at e; cases e)
  have hBb : BltAt mg (hidT s₁.heap H) := by
   obtain ⟨bm, o, h1, h2, h3, h4, h5, h6⟩ := hBA
   exact ⟨bm, o, h1, h2, base_of h3 (noA h3 (fun z => by rw [z] at h4; exact absurd (Value.type.inj h4) (by decide)) fun z => by rw [z] at h4; cases h4), h4, h5, h6⟩
  have hM : Mod K mg (hidT s₁.heap H) := ⟨hKb, nsK hns, ⟨mb, nsK hb, hbb⟩, let ⟨mc, h1, h2⟩ := hlim; ⟨mc, nsK h1, h2⟩⟩
  have e0 : Env0 P w K mg (hidT s₁.heap H) callerA [] s₁ H := ⟨rfl, hM, fun b o e => of_hidT e, Nat.le_of_eq (hidT_size _ _), trivial, fun b hb => absurd (show b ∈ ([] : List Addr) from hb) (by simp), hok, .of_eq hg⟩
  refine codeAny_mono ((F _ hKb (nsK hns) hBb).run callerA [] s₁ H ⟨[.ref a], []⟩ [.ref a] [.ref a] _ _ hr e0 (hbind s₁ (.ref a)) (.cons rfl .nil) (hsp H hO hS)) fun r s' h => ?_
  cases r with
  | error e => exact (hCX H e s' h).elim
  | ok fl =>
   cases fl with
   | next => exact False.elim h
   | brk => exact False.elim h
   | cont => exact False.elim h
   | ret u =>
    obtain ⟨v, H', os, bare, un, hok', r', q⟩ := h
    have q' : v = .bl true := q
    subst q'
    obtain rfl : u = Value.bool true := r'
    refine ⟨rfl, ⟨fun b o e => ?_, fun b o e => un.there b o e (by simp)⟩, os, bare⟩
    cases q : H b with
    | none => exact .inl (un.keep b o e q (by intro z; exact absurd (show b ∈ ([] : List Addr) from z) (by simp)) (by simp))
    | some u =>
     rcases hO.1 b with z | ⟨ob, xs, z⟩ | ⟨hb, z⟩
     ·rw [q] at z; cases z
     ·have z2 := un.frzs b ob _ z
      obtain ⟨e1, _⟩ := hok b _ z
      obtain ⟨e2, _⟩ := hok' b _ z2
      rw [e] at e1; cases e1
      exact .inl e2
     ·obtain ⟨more, z2⟩ := un.tbls b _ z
      have e2 : s'.heap.get? b = some (PySem.W.tabObj (#[] ++ more)) := hok' b _ z2
      obtain ⟨⟨c, hc⟩, e3, _⟩ := hts b hb
      have e4 : o = PySem.W.tabObj #[] := by rw [e] at e3; exact Option.some.inj e3
      subst e4
      exact .inr (.inl ⟨(hc.tab e3).isCodeTable, rfl, #[], more, rfl, e2⟩)
 have tne : ∀ T ∈ ts, T ≠ a := fun T hT z => aT (z ▸ hT)
 cases hk : K.lookup a with
 | some o =>
  have e := KX a o hk
  rw [ha] at e
  cases e
  refine core (fun b => if b ∈ ts then some (.tbl #[]) else none) ⟨fun b => ?_, fun b hb => if_pos hb⟩ (.inr ⟨_, vs.toArray, _, hk, rfl, rfl, rfl, by rw [List.size_toArray, lenV]; exact hl, by simpa using rv⟩) (fun b u z => ?_) (fun b z => ?_) fun z => absurd (if_neg aT) z
  ·by_cases hb : b ∈ ts
   ·exact .inr (.inr ⟨hb, if_pos hb⟩)
   ·exact .inl (if_neg hb)
  ·by_cases hb : b ∈ ts
   ·have z' := (if_pos hb).symm.trans z
    cases z'
    exact (hts b hb).2.1
   ·have z' := (if_neg hb).symm.trans z
    cases z'
  ·by_cases hb : b ∈ ts
   ·exact .inr hb
   ·exact absurd (if_neg hb) z
 | none =>
  have eA : ∀ b, b = a → (if b ∈ ts then some (HO.tbl #[]) else if b = a then some (HO.frz { cls := .type "list", data := .seq vs.toArray } (.lst (ns.map V.int))) else none) = some (HO.frz { cls := .type "list", data := .seq vs.toArray } (.lst (ns.map V.int))) := fun b hb => by
   rw [if_neg (hb ▸ aT), if_pos hb]
  have eN : ∀ b, b ∉ ts → b ≠ a → (if b ∈ ts then some (HO.tbl #[]) else if b = a then some (HO.frz { cls := .type "list", data := .seq vs.toArray } (.lst (ns.map V.int))) else none) = none := fun b h1 h2 => by
   rw [if_neg h1, if_neg h2]
  refine core (fun b => if b ∈ ts then some (.tbl #[]) else if b = a then some (.frz { cls := .type "list", data := .seq vs.toArray } (.lst (ns.map V.int))) else none) ⟨fun b => ?_, fun b hb => if_pos hb⟩ (.inl (.inr ⟨{ cls := .type "list", data := .seq vs.toArray }, eA a rfl⟩)) (fun b u z => ?_) (fun b z => ?_) fun _ => hk
  ·by_cases hb : b ∈ ts
   ·exact .inr (.inr ⟨hb, if_pos hb⟩)
   by_cases hb2 : b = a
   ·exact .inr (.inl ⟨_, _, eA b hb2⟩)
   ·exact .inl (eN b hb hb2)
  ·by_cases hb : b ∈ ts
   ·have z' := (if_pos hb).symm.trans z
    cases z'
    exact (hts b hb).2.1
   by_cases hb2 : b = a
   ·have z' := (eA b hb2).symm.trans z
    cases z'
    subst hb2
    exact ⟨ha, by rw [List.length_map]; exact hl, vs, _, rv, ha⟩
   ·have z' := (eN b hb hb2).symm.trans z
    cases z'
  ·by_cases hb : b ∈ ts
   ·exact .inr hb
   by_cases hb2 : b = a
   ·exact .inl hb2
   ·exact absurd (eN b hb hb2) z
theorem walk_ofT {l : PySem.W.OpenLaw} {n k : Nat} {q : Program} {loose : List Str} {XP : (Str → Option Value) → Heap → Prop} {YP : World → Heap → Prop} {d : DefRec} {K : Params → PySem.W.Frag} {sp : World → List Addr → Sp} {x : Str}
  (hn : l.most = some n) (hn2 : n ≤ sizeLine) (hdf : d.params.defaults = []) (hr : Room k callerA)
  (hY : ∀ (w : World) (h : Heap), YP w h → (K w.params).In h)
  (F : ∀ (w : World) (mg : Str → Option Value) (fa : Addr) (h : Heap), (K w.params).In h → h.Ns mainGlobals mg → mg d.name = some (.ref fa) → YP w h →
   ∃ (fd : FuncData) (ts : List Addr), (∀ T ∈ ts, (∃ c, PySem.W.CodeHd h c T) ∧ h.get? T = some (PySem.W.tabObj #[]) ∧ (K w.params).lookup T = none) ∧ (∀ (s : Shared) (u : Value), BindsTo s fd ⟨[u], []⟩ [(x, u)]) ∧
    ∀ base : Heap, (K w.params).In base → base.Ns mainGlobals mg → BltAt mg base → FnOk l.prog w (K w.params) mg base CX0 k fa fd [x] (sp w ts))
  (hsp : ∀ (w : World) (H : Hp) (a : Addr) (ns : List Int) (ts : List Addr), ns.length ≤ n → OnlyT ts H → SqL (K w.params) H a (ns.map V.int) → sp w ts [.ref a] H (fun v _ => v = .bl true) fun _ _ _ => False) :
  PySem.W.WalkO q loose XP YP l.row.toRowW d [] (fun f vs => PySem.call f vs) := by
 refine Att.attach_call hn hdf fun w s₀ s₁ mg mb fa o pm cd doc a vs ns G Y ho hd hcd hmg hobj hints hlen hg => ?_
 have KX := hY w _ Y
 obtain ⟨fd, ts, h1, hb, hF⟩ := F w mg fa _ KX G.T.g hmg Y
 obtain ⟨bm, ob, b1, b2, b3, b4⟩ := G.T.bmain
 exact law_callT KX G.T.g G.T.b G.T.builtins G.T.nolimit hg hobj hints (Nat.le_trans hlen hn2) hr h1 ⟨bm, ob, b1, b2, b3, b4⟩ hF hb (fun H hO hS => hsp w H a ns ts hlen hO hS) fun H e s' => id
section
variable {X : Cx}
theorem items_ints {lo : Int} {n : Nat} {acc : Array Value} (h : ItemsOf (fun i v => ∃ t, v = .int (lo + i * 1) t) acc n) : Vals ((List.range n).map fun (i : Nat) => V.int (lo + i)) acc.toList := by
 obtain ⟨hs, hv⟩ := h
 have key : ∀ (l : List Value) (m : Nat), (∀ (j : Nat) (v : Value), l[j]? = some v → ∃ t, v = .int (lo + ((m + j : Nat) : Int)) t) → Vals ((List.range' m l.length).map fun (i : Nat) => V.int (lo + i)) l := by
  intro l
  induction l with
  | nil => intro m _; exact .nil
  | cons v l ih =>
   intro m hq
   rw [List.length_cons, List.range'_succ, List.map_cons]
   refine .cons ?_ (ih (m + 1) fun j u hu => ?_)
   ·obtain ⟨t, e⟩ := hq 0 v rfl
    exact ⟨t, by simpa using e⟩
   ·obtain ⟨t, e⟩ := hq (j + 1) u (by simpa using hu)
    exact ⟨t, by rw [e, show m + (j + 1) = m + 1 + j by omega]⟩
 have := key acc.toList 0 fun j v hj => by
  obtain ⟨t, e⟩ := hv j v (by rw [← Array.getElem?_toList]; exact hj)
  exact ⟨t, by rw [e]; simp⟩
 rw [Array.length_toList, hs, ← List.range_eq_range'] at this
 exact this
end
theorem whileM {c : TT} {tb : TS} {D : Ends} {σ : St} {H : Hp} (W : Nat → St → Hp → Prop) (h0 : ∃ m, W m σ H)
  (hs : ∀ m σ H, W m σ H → c σ H fun b H1 => if b = true then tb { D with nx := fun σ' H' => ∃ m', m' < m ∧ W m' σ' H', ct := fun σ' H' => ∃ m', m' < m ∧ W m' σ' H', bk := D.nx } σ H1 else D.nx σ H1)
  (mono : ∀ σ H Q Q', (∀ b H1, Q b H1 → Q' b H1) → c σ H Q → c σ H Q') : tWhile c tb D σ H := by
 refine ⟨W, h0, fun m σ H w => mono σ H _ _ (fun b H1 q => ?_) (hs m σ H w)⟩
 cases b with
 | true => exact ⟨_, fun σ' H' p => p, q⟩
 | false => exact q
structure FunC (K : PySem.W.Frag) (x qual : Str) (st : Stmt) (f : Addr) (fd : FuncData) (cd : Value) : Prop where
 ex : ∃ (oc : Value) (od : Option Addr) (dV kV doc pm : Value) (an : Option Addr) (ct : Value) (osl : Array (Option Value)),
  fd = PySem.W.fnOf x qual (defArgs st) (defBody st) (defScope st) dV kV doc pm an cd ct ∧ K.lookup f = some ⟨oc, od, .func fd, osl⟩ ∧ PySem.W.codeIn K cd qual = true
 kp : PySem.W.keepIn K (.ref f) = true
section
variable {P : Program} {w : World} {K : PySem.W.Frag} {mg : Str → Option Value} {base : Heap}
theorem FunC.ok {x qual : Str} {st : Stmt} {f : Addr} {fd : FuncData} {cd : Value} {N ps : List Str} {k : Nat} {sp : Sp} (F : FunC K x qual st f fd cd) (S : FnScope N ps (defScope st)) (len : ∀ vs H Q E, sp vs H Q E → vs.length = ps.length)
  (hbody : ∀ (A : Around) (outer : List Env) (s : Shared) (H : Hp) (vs : List V) (Q : VK) (E : XK), Room k (A.deeper (envOfC qual (defScope st) s.heap.objs.size f cd)) → sp vs H Q E →
   ∃ t, PSs (cxOf CX0 P w K mg base N qual (defScope st) f cd A outer s H E).nox (defBody st) t ∧ t { nx := fun _ H' => Q .non H', rt := Q } (start N vs) H) : FnOk P w K mg base CX0 (k + 1) f fd ps sp := by
 obtain ⟨oc, od, dV, kV, doc, pm, an, ct, osl, rfl, lk, hcd⟩ := F.ex
 refine fn_of lk hcd S len fun A outer s H vs Q E hr hsp => ?_
 obtain ⟨t, h, q⟩ := hbody A outer s H vs Q E hr hsp
 exact ⟨t, h.nox, q⟩
theorem func_mk {x qual : Str} {st : Stmt} {f : Addr} {oc : Value} {od an : Option Addr} {osl : Array (Option Value)} {dV kV doc pm cd ct : Value} (l : K.lookup f = some ⟨oc, od, .func (PySem.W.fnOf x qual (defArgs st) (defBody st) (defScope st) dV kV doc pm an cd ct), osl⟩)
  (c : PySem.W.codeIn K cd qual = true) (k : PySem.W.keepIn K (.ref f) = true) : FunC K x qual st f (PySem.W.fnOf x qual (defArgs st) (defBody st) (defScope st) dV kV doc pm an cd ct) cd := ⟨⟨oc, od, dV, kV, doc, pm, an, ct, osl, rfl, l, c⟩, k⟩
end
section
variable {X : Cx} {pos : Pos} {params : Arguments} {body : Expr} {scope : Scope} {c T : Addr} {clos : List (Str × Addr)} {L : List (Pos × Str)}
theorem pe_lamK (hcode : X.env.code = .ref c) (hC : PySem.W.codeHdIn X.K c T = true) (hB : BltAt X.mg X.base) (hcl : closureFor scope X.env = pure clos) (hdef : defaultsOf params X.env = ([], [])) (hL : (pos, X.env.qual ++ "<lambda>") ∈ L) (ap : Apart L) (hfs : X.ex = []) :
  PE X (.Lambda params body scope pos) (tLam X params body scope clos T L) := fun pins s σ H Q I h => pe_lam hcode (PySem.W.codeHd_of_K I.ok.mod.kin hC) hB hcl hdef hL ap hfs pins s σ H Q I h
theorem codeHd_in {K : PySem.W.Frag} {c T : Addr} {od : Option Addr} {vs : Array Value} {sl : Array (Option Value)} (lc : K.lookup c = some ⟨.type "code", od, .fields vs, sl⟩)
  (e : ((match (vs[11]? : Option Value) with | some (.ref P') => P' == T | _ => false) && (match vs.getD 18 .none with | .str _ _ => true | _ => false) && (match vs.getD 7 .none with | .int _ _ => true | _ => false) &&
   (match vs.getD 9 .none with | .bool _ => true | _ => false) && (match vs.getD 10 .none with | .int _ _ => true | _ => false) && c != T) = true) : PySem.W.codeHdIn K c T = true := by
 unfold PySem.W.codeHdIn
 rw [lc]
 exact e
end
theorem LamScope.mk' {ps frn : List Str} {scope : Scope} (h1 : scope.kind = .function) (h2 : scope.isCoroutine = false) (h3 : scope.isGenerator = false) (h4 : ∀ x ∈ scope.names, x.2 ≠ .cell) (h5 : ∀ x ∈ ps, scope.names.lookup x = some .local) (h6 : ∀ x ∈ frn, scope.names.lookup x = some .free)
  (h7 : ∀ p ∈ scope.names, p.2 = .free → p.1 ∈ frn) (h8 : (ps ++ frn).Nodup) : LamScope ps frn scope := ⟨h1, h2, h3, h4, h5, h6, fun x e => h7 (x, .free) (PySem.mem_of_lookup e) rfl, h8⟩
def FnAt (P : Program) (w : World) (K : PySem.W.Frag) (mg : Str → Option Value) (base : Heap) (k : Nat) (f : Addr) (n : Nat) (sp : Sp) : Prop :=
 ∃ (o : Obj) (fd : FuncData) (ps : List Str), base.get? f = some o ∧ o.data = .func fd ∧ ps.length = n ∧ (∀ us : List Value, us.length = ps.length → bindArgs fd ⟨us, []⟩ = pure (ps.zip us)) ∧ FnOk P w K mg base CX0 k f fd ps sp
theorem FnAt.lam {X : Cx} {σ : St} {D : List Addr} {H : Hp} {base' : Heap} {params : Arguments} {body : Expr} {scope : Scope} {clos : List (Str × Addr)} {c' f : Addr} {ctv : Value} {ps frn : List Str} {fvs : List V} {k : Nat} {sp : Sp} (W : Wide X σ D H base')
  (hf : H f = some (fnO f (lamO X params body scope clos c' ctv))) (hfD : f ∈ D) (hc : H c' = some (cdO c' (X.env.qual ++ "<lambda>"))) (hcD : c' ∈ D) (S : LamScope ps frn scope) (sub : ∀ p ∈ clos, X.env.cells.lookup p.1 = some p.2)
  (vals : Paired (fun (x : Str) (v : V) => ∃ i : Nat, X.N[i]? = some x ∧ σ[i]? = some (some v) ∧ X.env.scope.names.lookup x = some .cell ∧ clos.lookup x = X.env.cells.lookup x) frn fvs)
  (hb : ∀ (us : List Value), us.length = ps.length → bindArgs (PySem.W.kla_fn "<lambda>" (X.env.qual ++ "<lambda>") params body scope clos ((X.mg "__name__").getD .none) (.ref c') ctv) ⟨us, []⟩ = pure (ps.zip us)) (len : ∀ vs H Q E, sp vs H Q E → vs.length = ps.length)
  (hbody : ∀ (A : Around) (outer : List Env) (s : Shared) (H : Hp) (vs : List V) (Q : VK) (E : XK), Room k (A.deeper (PySem.W.envX (X.env.qual ++ "<lambda>") scope s.heap.objs.size f (.ref c') clos)) → sp vs H Q E →
   ∃ t, PE (cxL X.prog X.w X.K X.mg base' (ps ++ frn) (X.env.qual ++ "<lambda>") scope f (.ref c') clos A outer s H) body t ∧ t (vs.map some ++ fvs.map some) H Q) : FnAt X.prog X.w X.K X.mg base' (k + 1) f ps.length sp := by
 have ho : base'.get? f = some (lamO X params body scope clos c' ctv) := W.ext f _ hfD hf
 have hcr : base'.CodeRec (.ref c') (X.env.qual ++ "<lambda>") := W.ext c' _ hcD hc
 have sub' : ∀ x c, clos.lookup x = some c → X.env.cells.lookup x = some c := fun x c e => sub (x, c) (PySem.mem_of_lookup e)
 have C : LamCells base' clos frn fvs := by
  refine ⟨fun x y c h1 h2 => W.inj x y c (sub' x c h1) (sub' y c h2), fun x c h => W.cell x c (sub' x c h), Paired.mapP vals fun x v ⟨i, h1, h2, h3, h4⟩ => ?_⟩
  obtain ⟨c, u, e1, e2, e3⟩ := W.val i x v h1 h2 h3
  exact ⟨c, u, h4.trans e1, e2, e3⟩
 exact ⟨_, _, ps, ho, rfl, rfl, hb, fn_lam ho hcr S C len hbody⟩
theorem retr_same {D : List Addr} {H1 H2 : Hp} (s : Same (untr D H1) H2) : Same H1 (retr D H1 H2) := fun b o e => by
 by_cases hb : b ∈ D
 ·rw [retr_in hb]; exact e
 ·rw [retr_out hb]; exact s _ _ (by rw [untr_out hb]; exact e)
theorem untr_get {D : List Addr} {H : Hp} {b : Addr} {o : HO} (hD : ∀ a ∈ D, ∃ φ, H a = some (.ext φ)) (e : H b = some o) (hn : ∀ φ, o ≠ .ext φ) : untr D H b = some o := by
 rw [untr_out fun z => ?_]
 ·exact e
 ·obtain ⟨φ, q⟩ := hD b z
  rw [e] at q
  exact hn φ (Option.some.inj q)
section
variable {X : Cx}
def tLR1 (ta : TA) : TE := fun σ H Q => ta σ H fun vs H1 => ∃ n : Nat, vs = [.int n] ∧ n ≤ 100000 ∧ ∀ l, H1 l = none → Q (.ref l) (upd H1 l (.lst ((List.range n).map fun (i : Nat) => V.int i)))
theorem pe_listrange1 {a : Expr} {ta : TA} {p p' pos pos' : Pos} (hc : X.A.handled = none) (hg : Gl X "list") (hm : X.mg "list" = none) (hg' : Gl X "range") (hm' : X.mg "range" = none) (ha : PA X [a] ta)
  (hs : starEach [a] X.env = [(false, eval a X.env)] := by rfl) : PE X (.Call (.Name "list" p) [.Call (.Name "range" p') [a] [] pos'] [] pos) (tLR1 ta) := by
 intro pins s σ H Q I h
 refine wpAny_Call_Name_kw (ld_blt I hg hm bt_list ?_)
 refine PyProof.Rows.callWith_type1 ?_ rfl rfl
 rw [show starEach [.Call (.Name "range" p') [a] [] pos'] X.env = [(false, eval (.Call (.Name "range" p') [a] [] pos') X.env)] from rfl]
 show wpAny _ _ (spliced [(false, eval (.Call (.Name "range" p') [a] [] pos') X.env)]) _ _ s
 refine Calls.spliced_cons ?_
 refine Call_ (ld_blt I hg' hm' boot_range (PyProof.Rows.callWith_type1 (thn (ha pos' pins s σ H _ I h) fun us s1 ⟨vs, H1, I1, r1, q1⟩ => ?_) (by rw [hs]; rfl) (by rfl)))
 obtain ⟨n, e, hz, q⟩ := q1
 subst e
 cases r1 with
 | cons r rr =>
  cases rr
  obtain ⟨t, rfl⟩ := r
  refine call_range_1 (Calls.spliced_nil ?_)
  have e2 : Builtin.Range.rangeSize 0 (n : Int) 1 = ((n : Nat) : Int) := by rw [rangeSize_one]; split <;> omega
  refine call_list_range (n := n) hc (IsRange.new ..) (small_one (by decide) (by decide) (by omega) (by omega)) e2 (by omega) fun h' tk acc c k e it => ?_
  have kp : ∀ b u, s1.heap.get? b = some u → h'.get? b = some u := fun b u e => k b u (Heap.get?_push_of_some _ e)
  simp only [Heap.size_push] at e
  have hp : s1.heap.objs.size ≤ s1.heap.objs.size + 1 := Nat.le_succ _
  have sl : (100000 : Nat) ≤ sizeLine := by decide
  have vi := items_ints (lo := 0) it
  rw [show (fun (i : Nat) => V.int (0 + (i : Int))) = fun (i : Nat) => V.int i from funext fun i => by rw [Int.zero_add]] at vi
  refine ⟨.ref (s1.heap.objs.size + 1), _, I1.laid (t' := tk) kp hp (show ObjOk X.prog X.w _ h' _ (.lst ((List.range n).map fun (i : Nat) => V.int i)) from ⟨by rw [List.length_map, List.length_range]; omega, acc.toList, c, vi, e⟩), ?_, q _ (I1.hok.fresh hp)⟩
  show RelV (.ref _) _
  simp only [Heap.size_push]
  rfl
end
section
variable {X : Cx} {o e : Expr} {es : List Expr} {apos cpos : Pos} {name : Str} {id : String} {r : V → List V → Hp → VK → Prop} {to : TE} {t : TA}
def tBMT (r : V → List V → Hp → VK → Prop) (to : TE) (t : TA) : TE := fun σ H Q => to σ H fun x H1 => (∃ p xs, x = .ref p ∧ H1 p = some (.tup xs)) ∧ t σ H1 fun vs H2 => r x vs H2 Q
theorem pe_bmT (pa : PlainAttrs "tuple") (slot : Slot "tuple" name id) (hty : typeOf (.builtin id) = pure (.type "method_descriptor")) (hm : MtM X id r) (ho : PE X o to) (ha : PA X (e :: es) t)
  (hbase : attributeBase o name X.env (eval o X.env) = eval o X.env := by rfl)
  (hfew : ((backTo cpos (starEach (e :: es) X.env)).all (fun x => !x.1) && (backToKw cpos (keywordEach [] X.env)).all (fun x => x.1.isSome)
   && decide ((e :: es).length + ([] : List Keyword).length + (if ([] : List Keyword).isEmpty then 0 else 1) < 30)) = true := by rfl)
  (hline : (apos.endLine == cpos.line) = true := by rfl) (hs : starEach (e :: es) X.env = (false, eval e X.env) :: starEach es X.env := by rfl) (hplain : (backTo cpos (starEach es X.env)).any (·.1) = false := by rfl) :
  PE X (.Call (.Attribute o name apos) (e :: es) [] cpos) (tBMT r to t) := by
 intro pins s σ H Q I h
 refine wpAny_Call_method_late hbase hfew hline rfl (thn (ho pins s σ H _ I h) fun v s1 ⟨x, H1, I1, r1, ⟨p, xs, ex, ep⟩, q1⟩ => ?_)
 subst ex
 obtain rfl : v = Value.ref p := r1
 obtain ⟨⟨_, o2, e2, d2⟩, its, _, ob, e1, c1, _⟩ := (show ObjOk X.prog X.w H1 s1.heap p (.tup xs) from I1.hok p _ ep)
 have h1 : s1.TypeIs (.ref p) "tuple" := ⟨ob, e1, c1⟩
 have h2 : ∀ a, Value.ref p = .ref a → ∃ ob, s1.heap.get? a = some ob ∧ ob.dict = none := fun a ea => by cases ea; exact ⟨o2, e2, d2⟩
 refine ⟨"tuple", id, pa, slot, hty, h1, h2, ?_⟩
 have hA := ha cpos pins s1 σ H1 _ I1 q1
 rw [hs] at hA ⊢
 refine Calls.callWith_builtin (by show (false || (backTo cpos (starEach es X.env)).any (·.1)) = false; rw [hplain] <;> rfl) (Calls.evalArgs_plain ?_)
 exact thn hA fun us s2 ⟨vs, H2, I2, r2, q2⟩ => hm pins s2 σ H2 (.ref p) vs (.ref p) us Q I2 rfl r2 q2
end
abbrev IsZipF (h : Heap) (z TI TO : Addr) (f0 : Value) (fl : Bool) : Prop := h.get? z = some { cls := .type "zip", dict := none, data := .fields #[f0, .bool fl, .bool false, .ref TI, .ref TO], slots := #[] }
section
variable {prog : Program} {w : World} {A : Around} {E : Value → Shared → Prop} {s : Shared}
theorem zipP_free {z TI TO i1 i2 l1 l2 : Addr} {k : Nat} {f0 : Value} {fl : Bool} {xs ys : Array Value} {x y a b : Value} {Q : Value → Shared → Prop} (D : ZipApart z TI TO i1 i2 l1 l2) (gz : IsZipF s.heap z TI TO f0 fl) (hfree : ∀ Q' : Bool → Shared → Prop, Q' true s → wpAny (model prog w) A (Builtin.SmallTypes.ownedTupleIsFree (.ref z)) Q' E s) (gI : IsPair s.heap TI (.ref i1) (.ref i2)) (gO : IsPair s.heap TO a b)
  (g1 : s.heap.IsTupleIter i1 l1 k) (g2 : s.heap.IsTupleIter i2 l2 k) (m1 : s.heap.IsTuple l1 xs) (m2 : s.heap.IsTuple l2 ys) (ex : xs[k]? = some x) (ey : ys[k]? = some y)
  (q : ∀ h', IsZip h' z TI TO (rawInt s.heap.objs.size) → IsPair h' TO x y → h'.IsTupleIter i1 l1 (k + 1) → h'.IsTupleIter i2 l2 (k + 1) → IsPair h' s.heap.objs.size x y → h'.objs.size = s.heap.objs.size + 1 →
   (∀ c o, c ≠ z → c ≠ TO → c ≠ i1 → c ≠ i2 → s.heap.get? c = some o → h'.get? c = some o) → Q (.ref s.heap.objs.size) { s with heap := h' }) :
  wpAny (model prog w) A (Builtin.«zip.__next__» ⟨[.ref z], []⟩) (fun fin s' => ∃ v, fin = .done (.ret v) ∧ Q v s') E s := by
 show wpAny _ _ (field (.ref z) 2 >>= _) _ _ _; refine wpAny_bind (wpAny_field gz rfl (x := .bool false) rfl ?_)
 show wpAny _ _ (field (.ref z) 3 >>= _) _ _ _; refine wpAny_bind (wpAny_field gz rfl (x := .ref TI) rfl ?_); refine wpAny_bind (wpAny_seqItems gI rfl ?_)
 show wpAny _ _ (Builtin.SmallTypes.ownedTupleIsFree (.ref z) >>= _) _ _ _; refine wpAny_bind (hfree _ ?_); simp only [if_true]; refine wpAny_bind (wpAny_rule ?_)
 refine wpAny_bind (wpAny_field gz rfl (x := .ref TO) rfl ?_); refine wpAny_bind (wpAny_setField_rec gz (by simp) fun h1 z1 s1 => ?_)
 replace z1 : IsZipF h1 z TI TO .ellipsis fl := z1
 refine wpAny_bind ?_; simp only [List.zipIdx_cons, List.zipIdx_nil, List.forIn_cons, List.forIn_nil]; refine wpAny_bind (wpAny_bind (wpAny_onRaise ?_))
 show wpAny _ _ (Builtin.SmallTypes.nextOf (.ref i1) >>= _) _ _ _; refine wpAny_bind (nextOf_tupI (tupIter_but g1 s1.extBut D.i1z) (isTup_but m1 s1.extBut D.l1z) ex fun h2 it2 s2 => wpAny_pure ?_)
 have O2 : IsPair h2 TO a b := s2.extBut _ _ D.TOi1 (s1.extBut _ _ D.TOz gO)
 refine wpAny_bind (wpAny_seqItems O2 rfl ?_); refine wpAny_bind (wpAny_updateSeq_pair O2 fun h3 O3 s3 => ?_)
 replace O3 : IsPair h3 TO x b := O3
 refine wpAny_bind (wpAny_letGo (wpAny_pure ?_)); refine wpAny_bind (wpAny_bind (wpAny_onRaise ?_))
 show wpAny _ _ (Builtin.SmallTypes.nextOf (.ref i2) >>= _) _ _ _; refine wpAny_bind (nextOf_tupI (tupIter_but (tupIter_but (tupIter_but g2 s1.extBut D.i2z) s2.extBut D.i12.symm) s3.extBut D.TOi2.symm) (isTup_but (isTup_but (isTup_but m2 s1.extBut D.l2z) s2.extBut D.l2i1) s3.extBut D.l2TO) ey fun h4 it4 s4 => wpAny_pure ?_)
 have O4 : IsPair h4 TO x b := s4.extBut _ _ D.TOi2 O3
 refine wpAny_bind (wpAny_seqItems O4 rfl ?_); refine wpAny_bind (wpAny_updateSeq_pair O4 fun h5 O5 s5 => ?_)
 replace O5 : IsPair h5 TO x y := O5
 refine wpAny_bind (wpAny_letGo (wpAny_pure (wpAny_pure ?_))); refine wpAny_bind (wpAny_seqItems O5 rfl ?_); refine wpAny_bind (wpAny_newTuple ?_)
 have sz : h5.objs.size = s.heap.objs.size := by rw [s5.1, s4.1, s3.1, s2.1, s1.1]
 have z5 : IsZipF h5 z TI TO .ellipsis fl := s5.extBut _ _ D.TOz.symm (s4.extBut _ _ D.i2z.symm (s3.extBut _ _ D.TOz.symm (s2.extBut _ _ D.i1z.symm z1)))
 have k5 : ∀ c o, c ≠ z → c ≠ TO → c ≠ i1 → c ≠ i2 → s.heap.get? c = some o → h5.get? c = some o := fun c o c1 c2 c3 c4 e => s5.extBut _ _ c2 (s4.extBut _ _ c4 (s3.extBut _ _ c2 (s2.extBut _ _ c3 (s1.extBut _ _ c1 e))))
 have a5 : h5.IsTupleIter i1 l1 (k + 1) := tupIter_but (tupIter_but (tupIter_but it2 s3.extBut D.TOi1.symm) s4.extBut D.i12) s5.extBut D.TOi1.symm
 have b5 : h5.IsTupleIter i2 l2 (k + 1) := tupIter_but it4 s5.extBut D.TOi2.symm
 have zlt : z < h5.objs.size := Heap.lt_size z5
 show wpAny _ _ (Builtin.SmallTypes.ownedTupleHandOut (.ref z) (.ref h5.objs.size) >>= _) _ _ _
 refine wpAny_bind ?_; unfold Builtin.SmallTypes.ownedTupleHandOut
 have z6 : IsZipF (h5.push { cls := .type "tuple", data := .seq #[x, y] }) z TI TO .ellipsis fl := Heap.get?_push_of_some _ z5
 refine wpAny_bind (wpAny_setField_rec z6 (by simp) fun h7 z7 s7 => ?_)
 replace z7 : IsZipF h7 z TI TO (rawInt h5.objs.size) fl := z7
 refine wpAny_setField_rec z7 (by simp) fun h8 z8 s8 => ?_
 replace z8 : IsZip h8 z TI TO (rawInt h5.objs.size) := z8
 have up : ∀ c o, c ≠ z → h5.get? c = some o → h8.get? c = some o := fun c o c1 e => s8.extBut _ _ c1 (s7.extBut _ _ c1 (Heap.get?_push_of_some _ e))
 have T8 : IsPair h8 h5.objs.size x y := s8.extBut _ _ (Nat.ne_of_gt zlt) (s7.extBut _ _ (Nat.ne_of_gt zlt) (Heap.get?_push_size _ rfl))
 have e8 : h8.objs.size = h5.objs.size + 1 := by rw [s8.1, s7.1, Heap.size_push]
 rw [sz] at z8 T8 e8
 refine wpAny_pure ⟨_, rfl, ?_⟩; show Q (.ref h5.objs.size) _; rw [sz]
 exact q h8 z8 (up _ _ D.TOz O5) (let ⟨o, ho, r⟩ := a5; ⟨o, up _ _ D.i1z ho, r⟩) (let ⟨o, ho, r⟩ := b5; ⟨o, up _ _ D.i2z ho, r⟩) T8 e8 fun c o c1 c2 c3 c4 e => up c o c1 (k5 c o c1 c2 c3 c4 e)
theorem zipP_freeE {z TI TO i1 i2 l1 l2 : Addr} {k : Nat} {f0 : Value} {fl : Bool} {xs ys : Array Value} {a b : Value} {Q : Fin → Shared → Prop} (hh : A.handled = none) (D : ZipApart z TI TO i1 i2 l1 l2) (gz : IsZipF s.heap z TI TO f0 fl) (hfree : ∀ Q' : Bool → Shared → Prop, Q' true s → wpAny (model prog w) A (Builtin.SmallTypes.ownedTupleIsFree (.ref z)) Q' E s) (gI : IsPair s.heap TI (.ref i1) (.ref i2)) (gO : IsPair s.heap TO a b)
  (g1 : s.heap.IsTupleIter i1 l1 k) (g2 : s.heap.IsTupleIter i2 l2 k) (m1 : s.heap.IsTuple l1 xs) (m2 : s.heap.IsTuple l2 ys) (ex : xs[k]? = none)
  (q : ∀ h' e, (∀ c o, c ≠ z → c ≠ TO → c ≠ i1 → c ≠ i2 → s.heap.get? c = some o → h'.get? c = some o) → (∃ o, h'.get? e = some o ∧ o.cls = .type "StopIteration") → E (.ref e) { s with heap := h' }) :
  wpAny (model prog w) A (Builtin.«zip.__next__» ⟨[.ref z], []⟩) Q E s := by
 show wpAny _ _ (field (.ref z) 2 >>= _) _ _ _; refine wpAny_bind (wpAny_field gz rfl (x := .bool false) rfl ?_)
 show wpAny _ _ (field (.ref z) 3 >>= _) _ _ _; refine wpAny_bind (wpAny_field gz rfl (x := .ref TI) rfl ?_); refine wpAny_bind (wpAny_seqItems gI rfl ?_)
 show wpAny _ _ (Builtin.SmallTypes.ownedTupleIsFree (.ref z) >>= _) _ _ _; refine wpAny_bind (hfree _ ?_); simp only [if_true]; refine wpAny_bind (wpAny_rule ?_)
 refine wpAny_bind (wpAny_field gz rfl (x := .ref TO) rfl ?_); refine wpAny_bind (wpAny_setField_rec gz (by simp) fun h1 z1 s1 => ?_)
 replace z1 : IsZipF h1 z TI TO .ellipsis fl := z1
 refine wpAny_bind ?_; simp only [List.zipIdx_cons, List.zipIdx_nil, List.forIn_cons, List.forIn_nil]; refine wpAny_bind (wpAny_bind (wpAny_onRaise ?_))
 show wpAny _ _ (Builtin.SmallTypes.nextOf (.ref i1) >>= _) _ _ _; refine wpAny_bind (nextOf_tupE hh (tupIter_but g1 s1.extBut D.i1z) (isTup_but m1 s1.extBut D.l1z) ex fun h2 e s2 he => ?_)
 obtain ⟨oe, hoe, hce⟩ := he
 have z2 : IsZipF h2 z TI TO .ellipsis fl := s2 _ _ D.i1z.symm z1
 have nez : e ≠ z := fun x => by subst x; rw [z2] at hoe; cases hoe; simp at hce
 refine wpAny_setField_rec z2 (by simp) fun h3 _ s3 => q h3 e (fun c o c1 _ c3 _ x => s3.extBut _ _ c1 (s2 _ _ c3 (s1.extBut _ _ c1 x))) ⟨oe, s3.extBut _ _ nez hoe, hce⟩
theorem own_busy {z TI TO p : Addr} {fl : Bool} {op : Obj} (gz : IsZipF s.heap z TI TO (rawInt p) fl) (gp : s.heap.get? p = some op) :
  wpAny (model prog w) A (Builtin.SmallTypes.ownedTupleIsFree (.ref z)) (fun r s' => r = false ∧ ∃ h0, s' = { s with heap := h0 } ∧ IsZipF h0 z TI TO (rawInt p) true ∧ Heap.SameBut z s.heap h0) E s := by
 unfold Builtin.SmallTypes.ownedTupleIsFree
 refine wpAny_bind (wpAny_field gz rfl (x := rawInt p) rfl ?_)
 show wpAny _ _ (loadIfAlive ((p : Int).toNat) >>= _) _ _ _
 rw [Int.toNat_natCast]
 refine wpAny_bind (PySem.W.kdx_alive gp ?_)
 simp only [Option.isNone_some, Bool.false_eq_true, if_false]
 refine wpAny_bind (wpAny_field gz rfl (x := .bool fl) rfl ?_)
 cases fl with
 | true =>
  rw [if_neg (show ¬ ((Value.bool true != Value.bool true) = true) from Bool.false_ne_true)]
  exact wpAny_pure ⟨rfl, s.heap, rfl, gz, Heap.SameBut.refl _ _⟩
 | false =>
  rw [if_pos (show (Value.bool false != Value.bool true) = true from rfl)]
  refine wpAny_bind (wpAny_setField_rec gz (by simp) fun h₃ he₃ hs₃ => ?_)
  exact wpAny_pure ⟨rfl, h₃, rfl, he₃, hs₃⟩
theorem own_dead {z TI TO p : Addr} {fl : Bool} (gz : IsZipF s.heap z TI TO (rawInt p) fl) (gp : s.heap.get? p = none) (Q' : Bool → Shared → Prop) (h : Q' true s) : wpAny (model prog w) A (Builtin.SmallTypes.ownedTupleIsFree (.ref z)) Q' E s := by
 unfold Builtin.SmallTypes.ownedTupleIsFree
 refine wpAny_bind (wpAny_field gz rfl (x := rawInt p) rfl ?_)
 show wpAny _ _ (loadIfAlive ((p : Int).toNat) >>= _) _ _ _
 rw [Int.toNat_natCast]
 refine wpAny_bind ?_
 have al : ∀ Q : Option Obj → Shared → Prop, Q none s → wpAny (model prog w) A (loadIfAlive p) Q E s := fun Q h => by
  have h' : Q (s.heap.get? p) s := by rw [gp]; exact h
  exact fun _ _ _ => h'
 refine al _ ?_
 exact wpAny_pure h
theorem own_none {z TI TO : Addr} {fl : Bool} (gz : IsZipF s.heap z TI TO .none fl) (Q' : Bool → Shared → Prop) (h : Q' true s) : wpAny (model prog w) A (Builtin.SmallTypes.ownedTupleIsFree (.ref z)) Q' E s := by
 unfold Builtin.SmallTypes.ownedTupleIsFree
 refine wpAny_bind (wpAny_field gz rfl (x := .none) rfl (wpAny_pure h))
theorem zipP_busy {z TI TO i1 i2 l1 l2 p : Addr} {k : Nat} {fl : Bool} {op : Obj} {xs ys : Array Value} {x y a b : Value} {Q : Value → Shared → Prop} (D : ZipApart z TI TO i1 i2 l1 l2) (gz : IsZipF s.heap z TI TO (rawInt p) fl) (gp : s.heap.get? p = some op) (gI : IsPair s.heap TI (.ref i1) (.ref i2)) (gO : IsPair s.heap TO a b)
  (g1 : s.heap.IsTupleIter i1 l1 k) (g2 : s.heap.IsTupleIter i2 l2 k) (m1 : s.heap.IsTuple l1 xs) (m2 : s.heap.IsTuple l2 ys) (ex : xs[k]? = some x) (ey : ys[k]? = some y)
  (q : ∀ h', IsZipF h' z TI TO (rawInt p) true → IsPair h' TO a b → h'.IsTupleIter i1 l1 (k + 1) → h'.IsTupleIter i2 l2 (k + 1) → IsPair h' s.heap.objs.size x y → h'.objs.size = s.heap.objs.size + 1 →
   (∀ c o, c ≠ z → c ≠ TO → c ≠ i1 → c ≠ i2 → s.heap.get? c = some o → h'.get? c = some o) → Q (.ref s.heap.objs.size) { s with heap := h' }) :
  wpAny (model prog w) A (Builtin.«zip.__next__» ⟨[.ref z], []⟩) (fun fin s' => ∃ v, fin = .done (.ret v) ∧ Q v s') E s := by
 show wpAny _ _ (field (.ref z) 2 >>= _) _ _ _; refine wpAny_bind (wpAny_field gz rfl (x := .bool false) rfl ?_)
 show wpAny _ _ (field (.ref z) 3 >>= _) _ _ _; refine wpAny_bind (wpAny_field gz rfl (x := .ref TI) rfl ?_); refine wpAny_bind (wpAny_seqItems gI rfl ?_)
 show wpAny _ _ (Builtin.SmallTypes.ownedTupleIsFree (.ref z) >>= _) _ _ _
 refine wpAny_bind (wpAny_mono (own_busy gz gp) (fun r s' h => ?_) fun _ _ h => h)
 obtain ⟨rfl, h0, rfl, z0, sb⟩ := h
 simp only [Bool.false_eq_true, if_false, List.forIn_toArray, List.forIn_cons, List.forIn_nil]
 refine wpAny_bind (wpAny_bind (wpAny_bind (wpAny_holding ?_)))
 show wpAny _ _ (Builtin.SmallTypes.nextOf (.ref i1) >>= _) _ _ _
 refine wpAny_bind (nextOf_tupI (tupIter_but g1 sb.extBut D.i1z) (isTup_but m1 sb.extBut D.l1z) ex fun h2 it2 s2 => wpAny_pure (wpAny_pure ?_))
 refine wpAny_bind (wpAny_bind (wpAny_holding ?_))
 show wpAny _ _ (Builtin.SmallTypes.nextOf (.ref i2) >>= _) _ _ _
 refine wpAny_bind (nextOf_tupI (tupIter_but (tupIter_but g2 sb.extBut D.i2z) s2.extBut D.i12.symm) (isTup_but (isTup_but m2 sb.extBut D.l2z) s2.extBut D.l2i1) ey fun h3 it3 s3 => wpAny_pure (wpAny_pure (wpAny_pure ?_)))
 show wpAny _ _ (newTuple [x, y] >>= _) _ _ _
 refine wpAny_bind (wpAny_newTuple ?_)
 have sz : h3.objs.size = s.heap.objs.size := by rw [s3.1, s2.1, sb.1]
 refine wpAny_pure ⟨_, rfl, ?_⟩
 have up : ∀ c o, h3.get? c = some o → (h3.push { cls := .type "tuple", data := .seq #[x, y] }).get? c = some o := fun c o e => Heap.get?_push_of_some _ e
 show Q (.ref h3.objs.size) _
 have T8 : IsPair (h3.push { cls := .type "tuple", data := .seq #[x, y] }) h3.objs.size x y := Heap.get?_push_size _ rfl
 have a3 : h3.IsTupleIter i1 l1 (k + 1) := tupIter_but it2 s3.extBut D.i12
 rw [sz] at T8 ⊢
 exact q _ (up _ _ (s3.extBut _ _ D.i2z.symm (s2.extBut _ _ D.i1z.symm z0))) (up _ _ (s3.extBut _ _ D.TOi2 (s2.extBut _ _ D.TOi1 (sb.extBut _ _ D.TOz gO)))) (let ⟨o, ho, r⟩ := a3; ⟨o, up _ _ ho, r⟩) (let ⟨o, ho, r⟩ := it3; ⟨o, up _ _ ho, r⟩) T8 (by rw [Heap.size_push, sz]) fun c o c1 c2 c3 c4 e => up _ _ (s3.extBut _ _ c4 (s2.extBut _ _ c3 (sb.extBut _ _ c1 e)))
theorem zipP_busyE {z TI TO i1 i2 l1 l2 p : Addr} {k : Nat} {fl : Bool} {op : Obj} {xs ys : Array Value} {a b : Value} {Q : Fin → Shared → Prop} (hh : A.handled = none) (D : ZipApart z TI TO i1 i2 l1 l2) (gz : IsZipF s.heap z TI TO (rawInt p) fl) (gp : s.heap.get? p = some op) (gI : IsPair s.heap TI (.ref i1) (.ref i2))
  (g1 : s.heap.IsTupleIter i1 l1 k) (m1 : s.heap.IsTuple l1 xs) (ex : xs[k]? = none)
  (q : ∀ h' e, (∀ c o, c ≠ z → c ≠ TO → c ≠ i1 → c ≠ i2 → s.heap.get? c = some o → h'.get? c = some o) → (∃ o, h'.get? e = some o ∧ o.cls = .type "StopIteration") → E (.ref e) { s with heap := h' }) :
  wpAny (model prog w) A (Builtin.«zip.__next__» ⟨[.ref z], []⟩) Q E s := by
 show wpAny _ _ (field (.ref z) 2 >>= _) _ _ _; refine wpAny_bind (wpAny_field gz rfl (x := .bool false) rfl ?_)
 show wpAny _ _ (field (.ref z) 3 >>= _) _ _ _; refine wpAny_bind (wpAny_field gz rfl (x := .ref TI) rfl ?_); refine wpAny_bind (wpAny_seqItems gI rfl ?_)
 show wpAny _ _ (Builtin.SmallTypes.ownedTupleIsFree (.ref z) >>= _) _ _ _
 refine wpAny_bind (wpAny_mono (own_busy gz gp) (fun r s' h => ?_) fun _ _ h => h)
 obtain ⟨rfl, h0, rfl, z0, sb⟩ := h
 simp only [Bool.false_eq_true, if_false, List.forIn_toArray, List.forIn_cons, List.forIn_nil]
 refine wpAny_bind (wpAny_bind (wpAny_bind (wpAny_holding ?_)))
 show wpAny _ _ (Builtin.SmallTypes.nextOf (.ref i1) >>= _) _ _ _
 exact wpAny_bind (nextOf_tupE hh (tupIter_but g1 sb.extBut D.i1z) (isTup_but m1 sb.extBut D.l1z) ex fun h2 e s2 he => q h2 e (fun c o c1 _ c3 _ x => s2 _ _ c3 (sb.extBut _ _ c1 x)) he)
theorem next_zipP {z TI TO i1 i2 l1 l2 : Addr} {k : Nat} {f0 : Value} {fl : Bool} {xs ys : Array Value} {x y a b : Value} {Q : Option Value → Shared → Prop} (D : ZipApart z TI TO i1 i2 l1 l2) (gz : IsZipF s.heap z TI TO f0 fl) (hf : f0 = .none ∨ ∃ p : Nat, f0 = rawInt p) (gI : IsPair s.heap TI (.ref i1) (.ref i2)) (gO : IsPair s.heap TO a b)
  (g1 : s.heap.IsTupleIter i1 l1 k) (g2 : s.heap.IsTupleIter i2 l2 k) (m1 : s.heap.IsTuple l1 xs) (m2 : s.heap.IsTuple l2 ys) (ex : xs[k]? = some x) (ey : ys[k]? = some y)
  (q : ∀ h' f0' fl' a' b', IsZipF h' z TI TO f0' fl' → (∃ p : Nat, f0' = rawInt p) → (f0 = .none → f0' = rawInt s.heap.objs.size ∧ fl' = false) → IsPair h' TO a' b' → h'.IsTupleIter i1 l1 (k + 1) → h'.IsTupleIter i2 l2 (k + 1) → IsPair h' s.heap.objs.size x y → h'.objs.size = s.heap.objs.size + 1 →
   (∀ c o, c ≠ z → c ≠ TO → c ≠ i1 → c ≠ i2 → s.heap.get? c = some o → h'.get? c = some o) → Q (some (.ref s.heap.objs.size)) { s with heap := h' }) : wpAny (model prog w) A (pyNext (.ref z)) Q E s := by
 have ty : s.TypeIs (.ref z) "zip" := ⟨_, gz, rfl⟩
 unfold pyNext
 refine wpAny_bind (wpAny_attempt (wpAny_callSpecial?_slot (name := Str.ofString "__next__") ty PySem.F.slot_zip_next (wpAny_call_entry PySem.F.slot_zip_next ty PySem.F.entry_zip_next ?_ (PySem.F.args_zip_next_1 _))))
 rcases hf with rfl | ⟨p, rfl⟩
 ·exact zipP_free D gz (own_none gz) gI gO g1 g2 m1 m2 ex ey fun h' a1 a2 a3 a4 a5 a6 a7 => wpAny_pure (q h' _ _ _ _ a1 ⟨_, rfl⟩ (fun _ => ⟨rfl, rfl⟩) a2 a3 a4 a5 a6 a7)
 ·cases gp : s.heap.get? p with
  | none => exact zipP_free D gz (own_dead gz gp) gI gO g1 g2 m1 m2 ex ey fun h' a1 a2 a3 a4 a5 a6 a7 => wpAny_pure (q h' _ _ _ _ a1 ⟨_, rfl⟩ (fun z => nomatch z) a2 a3 a4 a5 a6 a7)
  | some op => exact zipP_busy D gz gp gI gO g1 g2 m1 m2 ex ey fun h' a1 a2 a3 a4 a5 a6 a7 => wpAny_pure (q h' _ _ _ _ a1 ⟨_, rfl⟩ (fun z => nomatch z) a2 a3 a4 a5 a6 a7)
theorem next_zipPE {z TI TO i1 i2 l1 l2 : Addr} {k : Nat} {f0 : Value} {fl : Bool} {xs ys : Array Value} {a b : Value} {Q : Option Value → Shared → Prop} (hh : A.handled = none) (D : ZipApart z TI TO i1 i2 l1 l2) (gz : IsZipF s.heap z TI TO f0 fl) (hf : f0 = .none ∨ ∃ p : Nat, f0 = rawInt p) (gI : IsPair s.heap TI (.ref i1) (.ref i2)) (gO : IsPair s.heap TO a b)
  (g1 : s.heap.IsTupleIter i1 l1 k) (g2 : s.heap.IsTupleIter i2 l2 k) (m1 : s.heap.IsTuple l1 xs) (m2 : s.heap.IsTuple l2 ys) (ex : xs[k]? = none)
  (q : ∀ h', (∀ c o, c ≠ z → c ≠ TO → c ≠ i1 → c ≠ i2 → s.heap.get? c = some o → h'.get? c = some o) → Q none { s with heap := h' }) : wpAny (model prog w) A (pyNext (.ref z)) Q E s := by
 have ty : s.TypeIs (.ref z) "zip" := ⟨_, gz, rfl⟩
 unfold pyNext
 refine wpAny_bind (wpAny_attempt (wpAny_callSpecial?_slot (name := Str.ofString "__next__") ty PySem.F.slot_zip_next (wpAny_call_entry PySem.F.slot_zip_next ty PySem.F.entry_zip_next ?_ (PySem.F.args_zip_next_1 _))))
 rcases hf with rfl | ⟨p, rfl⟩
 ·exact zipP_freeE hh D gz (own_none gz) gI gO g1 g2 m1 m2 ex fun h' e hk he => (by
   obtain ⟨o, ho, hc⟩ := he
   exact wpAny_bind (wpAny_isInstance (T := "StopIteration") (b := true) ⟨o, ho, hc⟩ isSubtype_stop (wpAny_pure (q _ hk))))
 ·cases gp : s.heap.get? p with
  | none => exact zipP_freeE hh D gz (own_dead gz gp) gI gO g1 g2 m1 m2 ex fun h' e hk he => (by
    obtain ⟨o, ho, hc⟩ := he
    exact wpAny_bind (wpAny_isInstance (T := "StopIteration") (b := true) ⟨o, ho, hc⟩ isSubtype_stop (wpAny_pure (q _ hk))))
  | some op => exact zipP_busyE (ys := ys) (a := a) (b := b) hh D gz gp gI g1 m1 ex fun h' e hk he => (by
    obtain ⟨o, ho, hc⟩ := he
    exact wpAny_bind (wpAny_isInstance (T := "StopIteration") (b := true) ⟨o, ho, hc⟩ isSubtype_stop (wpAny_pure (q _ hk))))
abbrev zAP (h : Heap) (l1 l2 : Addr) : Heap := (h.push (itT l1)).push (itT l2)
abbrev zBP (h : Heap) (l1 l2 : Addr) : Heap := (zAP h l1 l2).push { cls := .type "tuple", data := .seq #[.ref h.objs.size, .ref (h.push (itT l1)).objs.size] }
abbrev zCP (h : Heap) (l1 l2 : Addr) : Heap := (zBP h l1 l2).push { cls := .type "tuple", data := .seq #[.none, .none] }
abbrev zDP (h : Heap) (l1 l2 : Addr) : Heap := (zCP h l1 l2).push { cls := .type "zip", data := .fields #[.none, .bool false, .bool false, .ref (zAP h l1 l2).objs.size, .ref (zBP h l1 l2).objs.size] }
theorem meets_zipP (l1 l2 : Addr) (xs ys : Array Value) : Meets (Builtin.«zip.__new__» ⟨[.type "zip", .ref l1, .ref l2], []⟩) (fun _ R s => s.heap.IsTuple l1 xs ∧ s.heap.IsTuple l2 ys ∧ R (.ok (.ret (.ref (zCP s.heap l1 l2).objs.size))) { s with heap := zDP s.heap l1 l2 }) :=
 .of_wp fun prog w A R s h => by
  obtain ⟨hp, g, d, tk, os⟩ := s; obtain ⟨m1, m2, h⟩ := h
  have hsub := PySem.sub_zip
  have L1 : Heap.IsTuple (Shared.heap ⟨hp, g, d, tk, os⟩) l1 xs := m1
  have L2 : Heap.IsTuple (Shared.heap ⟨hp.push (itT l1), g, d, tk, os⟩) l2 ys := let ⟨o, ho, r⟩ := m2; ⟨o, Heap.get?_push_of_some _ ho, r⟩
  wp_walk using wpAny_pyIter_tuple L1, wpAny_pyIter_tuple L2
  exact ⟨_, rfl, h⟩
theorem call_zipP {l1 l2 : Addr} {xs ys : Array Value} {Q : Value → Shared → Prop} (m1 : s.heap.IsTuple l1 xs) (m2 : s.heap.IsTuple l2 ys)
  (q : ∀ h', IsZip h' (s.heap.objs.size + 4) (s.heap.objs.size + 2) (s.heap.objs.size + 3) .none → IsPair h' (s.heap.objs.size + 2) (.ref s.heap.objs.size) (.ref (s.heap.objs.size + 1)) →
   IsPair h' (s.heap.objs.size + 3) .none .none → h'.IsTupleIter s.heap.objs.size l1 0 → h'.IsTupleIter (s.heap.objs.size + 1) l2 0 →
   (∀ c o, s.heap.get? c = some o → h'.get? c = some o) → Q (.ref (s.heap.objs.size + 4)) { s with heap := h' }) : wpAny (model prog w) A (call (.type "zip") [.ref l1, .ref l2]) Q E s := by
 refine callType_new PySem.F.called_zip (by decide) (PySem.F.typeCall_zip_2 _ _) (PySem.F.newCall_zip_2 _ _) (fun obj => PySem.F.args_object_init_3 obj _ _) PySem.F.entry_zip_new (meets_zipP l1 l2 xs ys) ⟨m1, m2, ?_⟩
 have e1 : (s.heap.push (itT l1)).objs.size = s.heap.objs.size + 1 := Heap.size_push ..
 have e2 : (zAP s.heap l1 l2).objs.size = s.heap.objs.size + 2 := by rw [Heap.size_push, e1]
 have e3 : (zBP s.heap l1 l2).objs.size = s.heap.objs.size + 3 := by rw [Heap.size_push, e2]
 have e4 : (zCP s.heap l1 l2).objs.size = s.heap.objs.size + 4 := by rw [Heap.size_push, e3]
 have p5 : (zDP s.heap l1 l2).get? (zCP s.heap l1 l2).objs.size = some _ := Heap.get?_push_size _ rfl
 have up : ∀ {c : Addr} {o : Obj}, (zCP s.heap l1 l2).get? c = some o → (zDP s.heap l1 l2).get? c = some o := fun x => Heap.get?_push_of_some _ x
 have p4 : (zDP s.heap l1 l2).get? (zBP s.heap l1 l2).objs.size = some _ := up (Heap.get?_push_size _ rfl)
 have p3 : (zDP s.heap l1 l2).get? (zAP s.heap l1 l2).objs.size = some _ := up (Heap.get?_push_of_some _ (Heap.get?_push_size _ rfl))
 have up2 : ∀ {c : Addr} {o : Obj}, (zAP s.heap l1 l2).get? c = some o → (zDP s.heap l1 l2).get? c = some o := fun x => up (Heap.get?_push_of_some _ (Heap.get?_push_of_some _ x))
 have p2 : (zDP s.heap l1 l2).get? (s.heap.push (itT l1)).objs.size = some _ := up2 (Heap.get?_push_size _ rfl)
 have p1 : (zDP s.heap l1 l2).get? s.heap.objs.size = some _ := up2 (Heap.get?_push_of_some _ (Heap.get?_push_size _ rfl))
 show _ ∧ _
 rw [e2, e3, e4] at p5
 rw [e1, e2] at p3
 rw [e3] at p4
 rw [e1] at p2
 rw [e4]
 exact ⟨⟨_, p5, rfl⟩, q _ p5 p3 p4 ⟨_, p1, rfl, rfl⟩ ⟨_, p2, rfl, rfl⟩ fun c o x => up2 (Heap.get?_push_of_some _ (Heap.get?_push_of_some _ x))⟩
end
def ItzP (K : PySem.W.Frag) (a b : Addr) : It :=
 ⟨fun i H => ∃ xs ys x y, SqT K H a xs ∧ SqT K H b ys ∧ xs[i]? = some x ∧ ys[i]? = some y,
  fun i H v H' => ∃ x y p, (∀ xs, SqT K H a xs → xs[i]? = some x) ∧ (∀ ys, SqT K H b ys → ys[i]? = some y) ∧ H p = none ∧ v = .ref p ∧ H' = upd H p (.tup [x, y]),
  fun i H => ∃ xs ys, SqT K H a xs ∧ SqT K H b ys ∧ xs.length ≤ i⟩
theorem turn_zipP {P : Program} {w : World} {K : PySem.W.Frag} {elts : List Expr} {x1} {tpos : Pos} (a b z TI TO i1 i2 : Addr) (D : ZipApart z TI TO i1 i2 a b) :
  Turn P w K (.Tuple elts x1 tpos) (ItzP K a b) [z, TO, i1, i2, TI] z (fun i h => IsZip h z TI TO .none ∧ IsPair h TI (.ref i1) (.ref i2) ∧ (∃ x y, IsPair h TO x y) ∧ h.IsTupleIter i1 a i ∧ h.IsTupleIter i2 b i) where
 mem := by simp
 obj := fun i h st c hc => by
  obtain ⟨hz, hTI, ⟨x, y, hTO⟩, h1, h2⟩ := st
  have hc' : c = z ∨ c = TO ∨ c = i1 ∨ c = i2 ∨ c = TI := by simpa using hc
  rcases hc' with q | q | q | q | q
  ·subst q; exact ⟨_, hz, fun v e => nomatch e⟩
  ·subst q; exact ⟨_, hTO, fun v e => nomatch e⟩
  ·subst q
   obtain ⟨o, e, _, d⟩ := h1
   exact ⟨o, e, fun v q => by rw [d] at q; cases q⟩
  ·subst q
   obtain ⟨o, e, _, d⟩ := h2
   exact ⟨o, e, fun v q => by rw [d] at q; cases q⟩
  ·subst q; exact ⟨_, hTI, fun v e => nomatch e⟩
 keep := fun i h h' st k => by
  obtain ⟨hz, hTI, ⟨x, y, hTO⟩, h1, h2⟩ := st
  exact ⟨k z (by simp) _ hz, k TI (by simp) _ hTI, ⟨x, y, k TO (by simp) _ hTO⟩, let ⟨o, ho, r⟩ := h1; ⟨o, k i1 (by simp) o ho, r⟩, let ⟨o, ho, r⟩ := h2; ⟨o, k i2 (by simp) o ho, r⟩⟩
 item := by
  intro X hP hw hK hc i pins s σ H E I hf st hg
  subst hP hw hK
  obtain ⟨hz, hTI, ⟨u1, u2, hTO⟩, h1, h2⟩ := st
  obtain ⟨xs, ys, x, y, hq, hq2, hx, hy⟩ := hg
  obtain ⟨its, rv, p, _⟩ := I.tuple hq
  obtain ⟨its2, rv2, p2, _⟩ := I.tuple hq2
  obtain ⟨u, hu, ru⟩ := rv.get hx
  obtain ⟨v, hv, rv'⟩ := rv2.get hy
  refine next_zipP D hz (.inl rfl) hTI hTO h1 h2 (show s.heap.IsTuple a its.toArray from p) (show s.heap.IsTuple b its2.toArray from p2) (x := u) (y := v) (by simpa using hu) (by simpa using hv) fun h1' f0' fl' a' b' a1 _ aw a2 a3 a4 a5 a6 kk => ?_
  obtain ⟨rfl, rfl⟩ := aw rfl
  have nn : H s.heap.objs.size = none := I.hok.fresh (Nat.le_refl _)
  have hf4 : ∀ c ∈ [z, TO, i1, i2], FpOk X pins H c := fun c hc => hf c (by
   have hc' : c = z ∨ c = TO ∨ c = i1 ∨ c = i2 := by simpa using hc
   rcases hc' with q | q | q | q <;> simp [q])
  have I1 : Inv X pins σ (upd H s.heap.objs.size (.tup [x, y])) { s with heap := h1', toks := s.toks } :=
   I.turnLaid (ch := [z, TO, i1, i2]) hf4 (fun c o hc q => kk c o (fun e => hc (by simp [e])) (fun e => hc (by simp [e])) (fun e => hc (by simp [e])) (fun e => hc (by simp [e])) q) (Nat.le_refl _)
    ⟨⟨by show 2 ≤ sizeLine; decide, _, a5, rfl⟩, [u, v], .cons ru (.cons rv' .nil), ⟨_, a5, rfl, _, rfl⟩⟩
  have lz : z < s.heap.objs.size := Heap.lt_size hz
  have lTI : TI < s.heap.objs.size := Heap.lt_size hTI
  have lTO : TO < s.heap.objs.size := Heap.lt_size hTO
  have l1 : i1 < s.heap.objs.size := by obtain ⟨o, q, _⟩ := id h1; exact Heap.lt_size q
  have l2 : i2 < s.heap.objs.size := by obtain ⟨o, q, _⟩ := id h2; exact Heap.lt_size q
  refine ⟨_, rfl, wpAny_letOwnedTupleGo_zip a1 fun h2' e2 sb => ?_⟩
  obtain ⟨f0, f1, f2, f3, f4, f5⟩ := hf z (by simp)
  have I2 := I1.turned (h' := h2') (t' := s.toks) (it := z) (fun c o hc q => (sb.2 c hc).trans q) (by rw [upd_ne (Nat.ne_of_lt lz)]; exact f0) f1 f3 f4 f5
  refine ⟨.ref s.heap.objs.size, _, I2, rfl, ⟨x, y, s.heap.objs.size, fun zs hy => by rw [I.tuple_inj hy hq]; exact hx, fun zs hz' => by rw [I.tuple_inj hz' hq2]; exact hy, nn, rfl, rfl⟩,
   ⟨e2, (sb.2 TI D.TIz).trans (kk _ _ D.TIz D.TITO D.TIi1 D.TIi2 hTI), ⟨_, _, (sb.2 TO D.TOz).trans a2⟩, let ⟨o, ho, r⟩ := a3; ⟨o, (sb.2 i1 D.i1z).trans ho, r⟩, let ⟨o, ho, r⟩ := a4; ⟨o, (sb.2 i2 D.i2z).trans ho, r⟩⟩, fun c hc => ?_⟩
  have hlt : c < s.heap.objs.size := by
   have hc' : c = z ∨ c = TO ∨ c = i1 ∨ c = i2 ∨ c = TI := by simpa using hc
   rcases hc' with q | q | q | q | q
   ·rw [q]; exact lz
   ·rw [q]; exact lTO
   ·rw [q]; exact l1
   ·rw [q]; exact l2
   ·rw [q]; exact lTI
  rw [upd_ne (Nat.ne_of_lt hlt)]
  exact (hf c hc).1
 done := by
  intro X hP hw hK hc i pins s σ H E I hf st hg
  subst hP hw hK
  obtain ⟨hz, hTI, ⟨u1, u2, hTO⟩, h1, h2⟩ := st
  obtain ⟨xs, ys, hq, hq2, hx⟩ := hg
  obtain ⟨its, rv, p, _⟩ := I.tuple hq
  obtain ⟨its2, rv2, p2, _⟩ := I.tuple hq2
  have hl := rv.length
  have hf4 : ∀ c ∈ [z, TO, i1, i2], FpOk X pins H c := fun c hc => hf c (by
   have hc' : c = z ∨ c = TO ∨ c = i1 ∨ c = i2 := by simpa using hc
   rcases hc' with q | q | q | q <;> simp [q])
  exact next_zipPE (I.ok.hd hc) D hz (.inl rfl) hTI hTO h1 h2 (show s.heap.IsTuple a its.toArray from p) (show s.heap.IsTuple b its2.toArray from p2) (by simp; omega) fun h' kk =>
   ⟨rfl, I.turnedL (t' := s.toks) (ch := [z, TO, i1, i2]) hf4 (fun c o hc q => kk c o (fun e => hc (by simp [e])) (fun e => hc (by simp [e])) (fun e => hc (by simp [e])) (fun e => hc (by simp [e])) q)⟩
 self := fun _ _ _ _ _ st h => wpAny_pyIter_zip st.1 h
def iZipP (K : PySem.W.Frag) (ta : TA) : TI := fun σ H R => ta σ H fun vs H1 => ∃ a b, vs = [.ref a, .ref b] ∧ (∃ xs, SqT K H1 a xs) ∧ (∃ ys, SqT K H1 b ys) ∧ R (ItzP K a b) H1
theorem pi_zipP {X : Cx} {elts : List Expr} {x1} {tpos : Pos} {a b : Expr} {ta : TA} {p pos : Pos} (hg : Gl X "zip") (hm : X.mg "zip" = none) (ha : PA X [a, b] ta)
  (hs : starEach [a, b] X.env = [(false, eval a X.env), (false, eval b X.env)] := by rfl) (hs2 : starEach [b] X.env = [(false, eval b X.env)] := by rfl) :
  PI X (.Tuple elts x1 tpos) (.Call (.Name "zip" p) [a, b] [] pos) (iZipP X.K ta) := by
 intro pins s σ H R I h
 refine Call_ (ld_blt I hg hm boot_zip (PyProof.Rows.callWith_type1 (thn (ha pos pins s σ H _ I h) fun us s1 ⟨vs, H1, I1, r1, q1⟩ => ?_) (by rw [hs, hs2]) (by rw [hs2]; rfl)))
 obtain ⟨l1, l2, e, ⟨xs, hq⟩, ⟨ys, hq2⟩, q⟩ := q1
 subst e
 cases r1 with
 | cons r rr =>
  cases rr with
  | cons r' rr =>
   cases rr
   cases r
   cases r'
   obtain ⟨its, rv, pl, _⟩ := I1.tuple hq
   obtain ⟨its2, rv2, pl2, _⟩ := I1.tuple hq2
   have a1 : l1 < s1.heap.objs.size := by obtain ⟨_, e, _⟩ := (show s1.heap.IsTuple l1 its.toArray from pl); exact Heap.lt_size e
   have a2 : l2 < s1.heap.objs.size := by obtain ⟨_, e, _⟩ := (show s1.heap.IsTuple l2 its2.toArray from pl2); exact Heap.lt_size e
   refine call_zipP (show s1.heap.IsTuple l1 its.toArray from pl) (show s1.heap.IsTuple l2 its2.toArray from pl2) fun h' hz hTI hTO hi1 hi2 kk => ?_
   have I2 : Inv X pins σ H1 { s1 with heap := h' } := I1.kept (t' := s1.toks) kk
   refine wpAny_pyIter_zip hz ?_
   refine ⟨s1.heap.objs.size + 4, [s1.heap.objs.size + 4, s1.heap.objs.size + 3, s1.heap.objs.size, s1.heap.objs.size + 1, s1.heap.objs.size + 2], _, _, H1, rfl, I2, turn_zipP l1 l2 _ _ _ _ _ (zipApart_new a1 a2), ⟨hz, hTI, ⟨_, _, hTO⟩, hi1, hi2⟩, fun c hc => ?_, q⟩
   have hle : s1.heap.objs.size ≤ c := by
    have hc' : c = s1.heap.objs.size + 4 ∨ c = s1.heap.objs.size + 3 ∨ c = s1.heap.objs.size ∨ c = s1.heap.objs.size + 1 ∨ c = s1.heap.objs.size + 2 := by simpa using hc
    rcases hc' with q | q | q | q | q <;> (rw [q]; first | exact Nat.le_add_right _ _ | exact Nat.le_refl _)
   exact I1.fpOk hle (I1.hok.fresh hle)
theorem comp_zipP {K : PySem.W.Frag} {a b : Addr} {xs ys : List V} {g : TG} {tt : TT} {te : TE} {D : Addr} {σ : St} {H : Hp} {R : Hp → Prop} (Pv : Nat → St → Hp → Prop) (hlen : xs.length = ys.length) (h0 : Pv 0 σ H) (hl : ∀ i σ H, i ≤ xs.length → Pv i σ H → SqT K H a xs ∧ SqT K H b ys)
  (hs : ∀ i x y p σ H, xs[i]? = some x → ys[i]? = some y → Pv i σ H → H p = none → g (.ref p) σ (upd H p (.tup [x, y])) fun σ2 H2 => tt σ2 H2 fun b H3 => if b = true then te σ2 H3 fun y H4 => ∃ ys, H4 D = some (.lst ys) ∧ ys.length < sizeLine ∧ Pv (i + 1) σ2 (upd H4 D (.lst (ys ++ [y]))) else Pv (i + 1) σ2 H3)
  (hd : ∀ σ H, Pv xs.length σ H → R H) : cLoop (ItzP K a b) g tt te D σ H R := by
 refine ⟨fun i m σ H => m = xs.length - i ∧ i ≤ xs.length ∧ Pv i σ H, ⟨xs.length, by simp, Nat.zero_le _, h0⟩, ?_⟩
 rintro i m σ H ⟨rfl, hi, p⟩
 obtain ⟨q1, q2⟩ := hl i σ H hi p
 by_cases hlt : i < xs.length
 ·refine .inr ⟨⟨xs, ys, xs[i], ys[i]'(by omega), q1, q2, by simp [hlt], by simp [hlen ▸ hlt]⟩, Pv (i + 1), fun σ' H' p' => ⟨xs.length - (i + 1), by omega, rfl, hlt, p'⟩, fun v H' y => ?_⟩
  obtain ⟨x, y, p', e1, e2, e3, rfl, rfl⟩ := y
  exact hs i x y p' σ H (e1 xs q1) (e2 ys q2) p e3
 ·have e : i = xs.length := by omega
  subst e
  exact .inl ⟨⟨xs, ys, q1, q2, Nat.le_refl _⟩, hd σ H p⟩
theorem hideS {t u : TS} {D : Ends} {σ : St} {H : Hp} (h : ∀ R : St → Hp → Prop, R = u D → t { D with nx := R } σ H) : tSeq t u D σ H := h _ rfl
theorem seq_restN {t u : TS} {D : Ends} {σ : St} {H : Hp} (Pv : St → Hp → Prop) (h1 : ∀ σ H, Pv σ H → u D σ H) (h2 : ∀ R : St → Hp → Prop, (∀ σ H, Pv σ H → R σ H) → t { D with nx := R } σ H) : tSeq t u D σ H := h2 _ h1
def FLoop (J : It) (g : TG) (tb : TS) (D : Ends) (σ : St) (H : Hp) : Prop := ∃ W : Nat → Nat → St → Hp → Prop, (∃ m, W 0 m σ H) ∧ ∀ i m σ H, W i m σ H →
 (J.stop i H ∧ D.nx σ H) ∨ (J.go i H ∧ ∃ N : St → Hp → Prop, (∀ σ' H', N σ' H' → ∃ m', m' < m ∧ W (i + 1) m' σ' H') ∧ ∀ x H', J.yld i H x H' → g x σ H' fun σ2 H2 => tb { D with nx := N, ct := N, bk := D.nx } σ2 H2)
theorem for_rangeN {lo : Int} {n : Nat} {g : TG} {tb : TS} {D : Ends} {σ : St} {H : Hp} (Pv : Nat → St → Hp → Prop) (h0 : Pv 0 σ H)
  (hs : ∀ i σ H (N : St → Hp → Prop), (∀ σ H, Pv (i + 1) σ H → N σ H) → i < n → Pv i σ H → g (.int (lo + i)) σ H fun σ2 H2 => tb { D with nx := N, ct := N, bk := D.nx } σ2 H2) (hd : ∀ σ H, Pv n σ H → D.nx σ H) : FLoop (Itr lo n) g tb D σ H :=
 for_range (lo := lo) Pv h0 (fun i σ H e p => hs i σ H _ (fun _ _ z => z) e p) hd
theorem whileMN {c : TT} {tb : TS} {D : Ends} {σ : St} {H : Hp} (W : Nat → St → Hp → Prop) (h0 : ∃ m, W m σ H)
  (hs : ∀ m σ H (N : St → Hp → Prop), (∀ σ' H' m', m' < m → W m' σ' H' → N σ' H') → W m σ H → c σ H fun b H1 => if b = true then tb { D with nx := N, ct := N, bk := D.nx } σ H1 else D.nx σ H1)
  (mono : ∀ σ H Q Q', (∀ b H1, Q b H1 → Q' b H1) → c σ H Q → c σ H Q') : tWhile c tb D σ H := whileM W h0 (fun m σ H w => hs m σ H _ (fun _ _ m' h w' => ⟨m', h, w'⟩) w) mono
section
variable {X : Cx} {pins : List (Addr × Obj)} {σ : St} {H : Hp} {s : Shared}
theorem inv_made (I : Inv X pins σ H s) {T : Addr} {ps : Array Value} {L : List (Pos × Str)} {q : Pos × Str} (hT : H T = some (.tbl ps)) (ht : TriplesOk ps.toList) (htab : ∀ p ∈ L, codeAmong p.1 ps.toList = none ∨ ∃ c, codeAmong p.1 ps.toList = some (.ref c) ∧ H c = some (cdO c p.2)) (hL : q ∈ L) (ap : Apart L)
  {c' : Addr} {h' : Heap} {tk : Tok} (o : Obj) (ho : o.isFreed = false) (hx : Heap.ExtBut T s.heap h') (hge : s.heap.objs.size ≤ c') (hlt : c' < h'.objs.size) (hrec : h'.CodeRec (.ref c') q.2) (htb : h'.get? T = some (PySem.W.tabObj (ps ++ #[rawInt q.1.line, rawInt q.1.col, .ref c']))) :
  ∃ H', Inv X pins σ H' { s with heap := h'.push o, toks := tk } ∧ H h'.objs.size = none ∧ H' h'.objs.size = some (fnO h'.objs.size o) ∧ H' c' = some (cdO c' q.2) ∧ Tab H' T L ∧ KB T H H' := by
 have nc : H c' = none := I.hok.fresh hge
 have szh : s.heap.objs.size ≤ h'.objs.size := Nat.le_of_lt (Nat.lt_of_le_of_lt hge hlt)
 have nf : H h'.objs.size = none := I.hok.fresh szh
 have fc : h'.objs.size ≠ c' := Nat.ne_of_gt hlt
 have Tc : T ≠ c' := ne_of_none hT nc
 have Tf : T ≠ h'.objs.size := ne_of_none hT nf
 have keep : ∀ b u, b ≠ T → s.heap.get? b = some u → (h'.push o).get? b = some u := fun b u hb e => Heap.get?_push_of_some _ (hx b u hb e)
 obtain ⟨H', hH⟩ : ∃ H' : Hp, H' = upd (upd (upd H T (.tbl (ps ++ #[rawInt q.1.line, rawInt q.1.col, .ref c']))) c' (cdO c' q.2)) h'.objs.size (fnO h'.objs.size o) := ⟨_, rfl⟩
 have eT : H' T = some (.tbl (ps ++ #[rawInt q.1.line, rawInt q.1.col, .ref c'])) := by rw [hH, upd_ne Tf, upd_ne Tc, upd_same]
 have ec : H' c' = some (cdO c' q.2) := by rw [hH, upd_ne fc.symm, upd_same]
 have ef : H' h'.objs.size = some (fnO h'.objs.size o) := by rw [hH, upd_same]
 have eo : ∀ b, b ≠ T → b ≠ c' → b ≠ h'.objs.size → H' b = H b := fun b h1 h2 h3 => by rw [hH, upd_ne h3, upd_ne h2, upd_ne h1]
 have kb : KB T H H' := fun b u e hb => by rw [eo b hb (ne_of_none e nc) (ne_of_none e nf)]; exact e
 have hnew : ∀ b u, s.heap.get? b = some u → b ≠ c' ∧ b ≠ h'.objs.size := fun b u e => ⟨Nat.ne_of_lt (Nat.lt_of_lt_of_le (Heap.lt_size e) hge), Nat.ne_of_lt (Nat.lt_of_lt_of_le (Heap.lt_size e) szh)⟩
 have tab' := Tab.grown (H := H) (H' := H') hL ap ht htab eT ec fun b φ e => kb b _ e fun z => by rw [z, hT] at e; cases e
 have hok' : HOk X.prog X.w H' (h'.push o) := fun b u e => by
  by_cases b1 : b = T
  ·subst b1
   rw [eT] at e; cases e
   exact Heap.get?_push_of_some _ htb
  by_cases b2 : b = c'
  ·subst b2
   rw [ec] at e; cases e
   exact cdO_ok (hrec.push _)
  by_cases b3 : b = h'.objs.size
  ·subst b3
   rw [ef] at e; cases e
   exact fnO_ok (Heap.get?_push_size _ ho)
  rw [eo b b1 b2 b3] at e
  refine (I.hok b u e).stay (fun d v hd z => keep d v ?_ z) (fun d z => kb d _ z ?_) fun d xs z => kb d _ z ?_
  ·rintro rfl
   rcases hd with z' | z'
   ·exact b1 z'.symm
   ·rw [hT] at z'; cases z'
  ·rintro rfl; rw [hT] at z; cases z
  ·rintro rfl; rw [hT] at z; cases z
 have neT : ∀ b, H b = none → b ≠ T := fun b n z => by rw [z, hT] at n; cases n
 refine ⟨H', I.un ⟨fun b u e n _ _ => keep b u (neT b n) e, fun b u e n _ _ => ⟨u.slots, keep b u (neT b n) e⟩, fun b u e n _ => by rw [eo b (neT b n) (hnew b u e).1 (hnew b u e).2]; exact n, fun b u e _ => ?_, fun b xs e => kb b _ e fun z => ?_, fun b u v e => kb b _ e fun z => ?_, fun b qs e => ?_⟩ hok', nf, ef, ec, tab', kb⟩
 ·by_cases hb : b = T
  ·subst hb; exact ⟨_, Heap.get?_push_of_some _ htb⟩
  ·exact ⟨u, keep b u hb e⟩
 ·rw [z, hT] at e; cases e
 ·rw [z, hT] at e; cases e
 ·by_cases hb : b = T
  ·subst hb
   rw [hT] at e; cases e
   exact ⟨_, eT⟩
  ·exact ⟨#[], by rw [kb b _ e hb]; simp⟩
end
section
variable {X : Cx} {pos : Pos} {name : Str} {params : Arguments} {body : List Stmt} {scope : Scope} {c T : Addr} {clos : List (Str × Addr)} {L : List (Pos × Str)}
abbrev defO (X : Cx) (name : Str) (params : Arguments) (body : List Stmt) (scope : Scope) (clos : List (Str × Addr)) (doc : Value) (c' : Addr) (ctv : Value) : Obj := PySem.W.fnMade name (qualnameIn X.env name name) params body scope clos doc ((X.mg "__name__").getD .none) c' ctv
def tDef (X : Cx) (name : Str) (params : Arguments) (body : List Stmt) (scope : Scope) (clos : List (Str × Addr)) (T : Addr) (L : List (Pos × Str)) (i : Nat) : TS := fun D σ H =>
 Tab H T L ∧ ∀ f c' ctv doc H', H f = none → H' f = some (fnO f (defO X name params body scope clos doc c' ctv)) → H' c' = some (cdO c' (qualnameIn X.env name name)) → Tab H' T L → KB T H H' → D.nx (σ.set i (some (.ref f))) H'
theorem ps_def {i : Nat} (hN : X.N.Nodup) (hi : X.N[i]? = some name) (hx : Loc X.env.scope name) (hcode : X.env.code = .ref c) (C : PySem.W.CodeHd X.base c T) (hB : BltAt X.mg X.base) (hcl : closureFor scope X.env = pure clos) (hd0 : params.defaults = []) (hk0 : params.kw_defaults = []) (ha : annTrees params none X.env = [])
  (hL : (pos, qualnameIn X.env name name) ∈ L) (ap : Apart L) (hf : X.fn name = true ∨ X.env.scope.names.lookup name = some .local := by first | exact .inl rfl | exact .inr rfl | assumption) :
  PS X (.FunctionDef name params body [] none [] scope none name pos) (tDef X name params body scope clos T L i) := by
 intro pins s σ H D I ⟨⟨ps, hT, ht, htab⟩, h⟩
 refine PySem.W.nestDef_K hd0 hk0 ha ?_
 have hTo : s.heap.get? T = some (PySem.W.tabObj ps) := I.hok T _ hT
 have hg : s.heap.Ns mainGlobals X.mg := I.ok.mod.glob.keeps I.bk
 have hgT : mainGlobals ≠ T := fun q => by
  obtain ⟨o, es, ep, e, hd, _⟩ := hg
  rw [q, hTo] at e; cases e; cases hd
 have hBA : s.heap.BuiltinsAt X.mg T := by
  obtain ⟨bm, o, h1, h2, h3, h4, h5, h6⟩ := hB
  refine ⟨bm, o, h1, h2, fun q => ?_, fun q => ?_, I.bk _ _ h3, h4, h5, h6⟩
  ·obtain ⟨o', es, ep, e, hd, _⟩ := I.ok.mod.glob
   rw [q, e] at h3; cases h3; rw [hd] at h6; cases h6
  ·have := I.bk _ _ h3
   rw [q, hTo] at this; cases this; cases h4
 have hCs := C.keeps I.bk
 rcases htab _ hL with hn | ⟨c', hc', hHc⟩
 ·refine PySem.W.makeFunction_K (mg := X.mg) hcl I.ok.glob hg hcode hCs hTo ht hn hgT hBA fun c' ctv doc h' tk hx' hge hlt hrec htb => ?_
  obtain ⟨H', I', nf, ef, ec, tab', kb⟩ := inv_made (tk := tk) I hT ht htab hL ap (defO X name params body scope clos doc c' ctv) rfl hx' hge hlt hrec htb
  exact store_ok I' hN hi hx (v := .ref h'.objs.size) rfl (fun s' I'' => ⟨_, H', I'', h _ _ _ _ _ nf ef ec tab' kb⟩) hf
 ·refine PySem.W.makeFunction_hit (mg := X.mg) hcl I.ok.glob hg hcode hCs hTo ht hc' hBA fun ctv doc h' tk hk hsz => ?_
  have nf : H h'.objs.size = none := I.hok.fresh hsz
  have keep : ∀ b o, s.heap.get? b = some o → (h'.push (defO X name params body scope clos doc c' ctv)).get? b = some o := fun b o e => Heap.get?_push_of_some _ (hk b o e)
  have kb : Same H (upd H h'.objs.size (fnO h'.objs.size (defO X name params body scope clos doc c' ctv))) := fun b o e => by rw [upd_ne (ne_of_none e nf)]; exact e
  have I' := I.laid (t' := tk) keep hsz (fnO_ok (P := X.prog) (w := X.w) (H := upd H h'.objs.size (fnO h'.objs.size (defO X name params body scope clos doc c' ctv))) (Heap.get?_push_size _ rfl))
  exact store_ok I' hN hi hx (v := .ref h'.objs.size) rfl (fun s' I'' => ⟨_, _, I'', h _ c' ctv doc _ nf upd_same (kb _ _ hHc) (Tab.same ⟨ps, hT, ht, htab⟩ kb) fun b o e _ => kb b o e⟩) hf
end
def iZipE (K : PySem.W.Frag) (ta : TA) : TI := fun σ H R => iZip K ta σ H R ∨ iZipP K ta σ H R
theorem pi_zipE {X : Cx} {elts : List Expr} {x1} {tpos : Pos} {a b : Expr} {ta : TA} {p pos : Pos} (hg : Gl X "zip") (hm : X.mg "zip" = none) (ha : PA X [a, b] ta)
  (hs : starEach [a, b] X.env = [(false, eval a X.env), (false, eval b X.env)] := by rfl) (hs2 : starEach [b] X.env = [(false, eval b X.env)] := by rfl) :
  PI X (.Tuple elts x1 tpos) (.Call (.Name "zip" p) [a, b] [] pos) (iZipE X.K ta) := by
 intro pins s σ H R I h
 rcases h with h | h
 ·exact pi_zip hg hm ha hs hs2 pins s σ H R I h
 ·exact pi_zipP hg hm ha hs hs2 pins s σ H R I h
theorem comp_zip {K : PySem.W.Frag} {a b : Addr} {xs ys : List V} {g : TG} {tt : TT} {te : TE} {D : Addr} {σ : St} {H : Hp} {R : Hp → Prop} (Pv : Nat → St → Hp → Prop) (hlen : xs.length = ys.length) (h0 : Pv 0 σ H) (hl : ∀ i σ H, i ≤ xs.length → Pv i σ H → SqL K H a xs ∧ SqL K H b ys)
  (hs : ∀ i x y p σ H, xs[i]? = some x → ys[i]? = some y → Pv i σ H → H p = none → g (.ref p) σ (upd H p (.tup [x, y])) fun σ2 H2 => tt σ2 H2 fun b H3 => if b = true then te σ2 H3 fun y H4 => ∃ ys, H4 D = some (.lst ys) ∧ ys.length < sizeLine ∧ Pv (i + 1) σ2 (upd H4 D (.lst (ys ++ [y]))) else Pv (i + 1) σ2 H3)
  (hd : ∀ σ H, Pv xs.length σ H → R H) : cLoop (Itz K a b) g tt te D σ H R := by
 refine ⟨fun i m σ H => m = xs.length - i ∧ i ≤ xs.length ∧ Pv i σ H, ⟨xs.length, by simp, Nat.zero_le _, h0⟩, ?_⟩
 rintro i m σ H ⟨rfl, hi, p⟩
 obtain ⟨q1, q2⟩ := hl i σ H hi p
 by_cases hlt : i < xs.length
 ·refine .inr ⟨⟨xs, ys, xs[i], ys[i]'(by omega), q1, q2, by simp [hlt], by simp [hlen ▸ hlt]⟩, Pv (i + 1), fun σ' H' p' => ⟨xs.length - (i + 1), by omega, rfl, hlt, p'⟩, fun v H' y => ?_⟩
  obtain ⟨x, y, p', e1, e2, e3, rfl, rfl⟩ := y
  exact hs i x y p' σ H (e1 xs q1) (e2 ys q2) p e3
 ·have e : i = xs.length := by omega
  subst e
  exact .inl ⟨⟨xs, ys, q1, q2, .inl (Nat.le_refl _)⟩, hd σ H p⟩
theorem cells_app : ∀ (names : List (Str × NameKind)) (n : Nat) (acc : List (Str × Addr)), cellsFrom n names acc = cellsFrom n names [] ++ acc
 | [], _, _ => rfl
 | (name, kind) :: r, n, acc => by
  unfold cellsFrom
  split
  ·rw [cells_app r (n + 1) ((name, n) :: acc), cells_app r (n + 1) [(name, n)], List.append_assoc]; rfl
  ·exact cells_app r n acc
theorem cells_mem : ∀ {names : List (Str × NameKind)} {n : Nat} {acc : List (Str × Addr)} {x : Str} {c : Addr}, (x, c) ∈ cellsFrom n names acc → (x, NameKind.cell) ∈ names ∨ (x, c) ∈ acc
 | [], _, _, _, _, h => .inr h
 | (name, kind) :: r, n, acc, x, c, h => by
  unfold cellsFrom at h
  split at h
  ·rename_i hk
   rcases cells_mem h with z | z
   ·exact .inl (List.mem_cons_of_mem _ z)
   ·rcases List.mem_cons.mp z with z | z
    ·cases z
     refine .inl ?_
     rw [show kind = NameKind.cell by simpa using hk]
     exact List.mem_cons_self
    ·exact .inr z
  ·rcases cells_mem h with z | z
   ·exact .inl (List.mem_cons_of_mem _ z)
   ·exact .inr z
theorem new_env {M : Model} {A : Around} {E : Value → Shared → Prop} {s : Shared} {scope : Scope} {globals : Addr} {closure : List (Str × Addr)} {binds : List (Str × Value)} {qual : Str} {func : Option Addr} {code : Value} {builtins : Addr} {Q : Env → Shared → Prop}
  (hl : ∀ x ∈ binds, scope.names.lookup x.1 = some .local)
  (hQ : ∀ h', h'.Ns s.heap.objs.size (fun x => binds.reverse.lookup x) → Heap.SameBut s.heap.objs.size (pushCells (s.heap.push { cls := .type "frame", data := .dict #[] }) scope.names) h' →
   Q (newEnv scope s.heap.objs.size globals (cellsFrom (s.heap.objs.size + 1) scope.names closure) qual func code none builtins) { s with heap := h', toks := s.toks + binds.length })
  (hk : scope.kind = .function) : wpAny M A (newFunctionEnv scope globals closure binds qual func code none builtins) Q E s := by
 simp only [newFunctionEnv, Option.isSome_none, Bool.false_eq_true, if_false]
 refine wpAny_bind (wpAny_alloc ?_)
 refine wpAny_bind (wpAny_layCells _ (fun name kind cells => by cases hkc : kind == NameKind.cell <;> simp [hkc]) _ _ _ _ ?_)
 rw [show ({ s with heap := s.heap.push { cls := .type "frame", data := .dict #[] } } : Shared).heap.objs.size = s.heap.objs.size + 1 from Heap.size_push ..]
 generalize hcs : cellsFrom (s.heap.objs.size + 1) scope.names closure = cs at hQ ⊢
 refine wpAny_bind ?_
 refine wpAny_forIn_list _
  (fun rest _ s' => ∃ done h', binds = done ++ rest ∧ s' = { s with heap := h', toks := s.toks + done.length } ∧ h'.Ns s.heap.objs.size (fun x => done.reverse.lookup x) ∧ Heap.SameBut s.heap.objs.size (pushCells (s.heap.push { cls := .type "frame", data := .dict #[] }) scope.names) h') _ ?_ ?_ binds _
  ⟨[], _, rfl, rfl, (Heap.Ns.new s.heap (.type "frame")).keeps (pushCells_keeps _ _), Heap.SameBut.refl ..⟩
 ·rintro ⟨name, v⟩ rest _ s' ⟨done, h', hb, rfl, hns, hsb⟩
  have hk' : Env.kindOf { scope, locals := s.heap.objs.size, globals, cells := cs, qual, func, code, frame := some s.heap.objs.size, builtins } name = some .local := hl (name, v) (by rw [hb]; simp)
  have hp : (({ scope, locals := s.heap.objs.size, globals, cells := cs, qual, func, code, frame := some s.heap.objs.size, builtins } : Env).scope.kind == .class || (({ scope, locals := s.heap.objs.size, globals, cells := cs, qual, func, code, frame := some s.heap.objs.size, builtins } : Env).scope.kind == .module &&
    ({ scope, locals := s.heap.objs.size, globals, cells := cs, qual, func, code, frame := some s.heap.objs.size, builtins } : Env).locals != ({ scope, locals := s.heap.objs.size, globals, cells := cs, qual, func, code, frame := some s.heap.objs.size, builtins } : Env).globals)) = false := by
   show (scope.kind == .class || (scope.kind == .module && _)) = false
   rw [hk]; rfl
  simp only [storeName_local hk' hp]
  refine wpAny_bind (wpAny_nsSet hns fun h'' hns' hsb' => wpAny_pure ⟨done ++ [(name, v)], h'', by simp [hb], ?_, ?_, hsb.trans hsb'⟩)
  ·simp [Nat.add_assoc]
  ·rw [lookup_reverse_snoc]; exact hns'
 ·rintro _ s' ⟨done, h', hb, rfl, hns, hsb⟩
  rw [List.append_nil] at hb; subst hb
  exact wpAny_pure (hQ h' hns hsb)
structure LamScopeC (ps frn : List Str) (scope : Scope) : Prop where
 kind : scope.kind = .function
 co : scope.isCoroutine = false
 gen : scope.isGenerator = false
 par : ∀ x ∈ ps, scope.names.lookup x = some .local
 free : ∀ x ∈ frn, scope.names.lookup x = some .free
 only : ∀ p ∈ scope.names, p.2 = .free → p.1 ∈ frn
 ownc : ∀ p ∈ scope.names, p.2 = .cell → p.1 ∉ frn
 nd : (ps ++ frn).Nodup
def cellOwn (scope : Scope) (x : Str) : Bool := match scope.names.lookup x with | some .cell => true | _ => false
def cxN (P : Program) (w : World) (K : PySem.W.Frag) (mg : Str → Option Value) (base : Heap) (N : List Str) (qual : Str) (scope : Scope) (f : Addr) (cd : Value) (cl : List (Str × Addr)) (A : Around) (outer : List Env) (s : Shared) (H : Hp) : Cx where
 prog := P
 w := w
 K := K
 mg := mg
 base := base
 A := A.deeper (PySem.W.envX qual scope s.heap.objs.size f cd (cellsFrom (s.heap.objs.size + 1) scope.names cl))
 N := N
 s₀ := s
 H₀ := H
 env := PySem.W.envX qual scope s.heap.objs.size f cd (cellsFrom (s.heap.objs.size + 1) scope.names cl)
 outer := outer
 stack := PySem.W.envX qual scope s.heap.objs.size f cd (cellsFrom (s.heap.objs.size + 1) scope.names cl) :: outer
 ex := []
 calm := true
 fn := cellOwn scope
 pn := []
 xe := fun _ _ => False
theorem cells_look {n : Nat} {names : List (Str × NameKind)} {cl : List (Str × Addr)} {x : Str} {c : Addr} (h : (cellsFrom n names cl).lookup x = some c) : (cellsFrom n names []).lookup x = some c ∨ ((cellsFrom n names []).lookup x = none ∧ cl.lookup x = some c) := by
 rw [cells_app, List.lookup_append] at h
 cases e : (cellsFrom n names []).lookup x with
 | none => rw [e] at h; exact .inr ⟨rfl, h⟩
 | some d => rw [e] at h; exact .inl h
theorem inv_def {P : Program} {w : World} {K : PySem.W.Frag} {mg : Str → Option Value} {base : Heap} {ps frn : List Str} (ls : List Str) {qual : Str} {scope : Scope} {f : Addr} {cd : Value} {cl : List (Str × Addr)} {A : Around} {outer : List Env} {s : Shared} {H : Hp} {us : List Value} {vs fvs : List V} {h1 : Heap} {tk : Nat}
  (S : LamScopeC ps frn scope) (hd : A.handled = none) (e0 : Env0 P w K mg base A outer s H) (hl : vs.length = ps.length) (r : Vals vs us) (C : LamCells base cl frn fvs)
  (hns : h1.Ns s.heap.objs.size fun x => (ps.zip us).reverse.lookup x) (hsb : Heap.SameBut s.heap.objs.size (pushCells (s.heap.push { cls := .type "frame", data := .dict #[] }) scope.names) h1) :
  Inv (cxN P w K mg base (ps ++ frn ++ ls) qual scope f cd cl A outer s H) [] (vs.map some ++ fvs.map some ++ ls.map fun _ => none) H { s with heap := h1, toks := tk } := by
 have hk : ∀ b o, s.heap.get? b = some o → h1.get? b = some o := fun b o e => hsb.extBut b o (Nat.ne_of_lt (Heap.lt_size e)) (pushCells_keeps _ _ b o (Heap.get?_push_of_some _ e))
 have hkb : ∀ b o, base.get? b = some o → h1.get? b = some o := fun b o e => hk b o (e0.bs b o e).1
 have noA : ∀ b : Addr, b ∉ (cxN P w K mg base (ps ++ frn ++ ls) qual scope f cd cl A outer s H).ex := fun b z => absurd (show b ∈ ([] : List Addr) from z) (by simp)
 have lf : frn.length = fvs.length := Paired.length C.vals
 have ok := cellsFrom_ok scope.names (s.heap.push { cls := .type "frame", data := .dict #[] }) (s.heap.objs.size + 1) [] ⟨fun _ _ hm => (nomatch hm), List.Pairwise.nil⟩ (by rw [Heap.size_push]; exact Nat.le_refl _)
 rw [Heap.size_push] at ok
 have own : ∀ {x : Str} {c : Addr}, (cellsFrom (s.heap.objs.size + 1) scope.names []).lookup x = some c → h1.IsCell c none ∧ s.heap.objs.size < c := fun {x c} e => by
  obtain ⟨i1, i2⟩ := ok.empty x c (PySem.mem_of_lookup e)
  exact ⟨i1.sameBut hsb (Nat.ne_of_gt i2), i2⟩
 have old : ∀ {x : Str} {c : Addr}, cl.lookup x = some c → c < s.heap.objs.size := fun {x c} e => by
  obtain ⟨v, o, ho, _⟩ := C.cell x c e
  exact Heap.lt_size (e0.bs _ _ ho).1
 refine ⟨⟨e0.mod, S.kind, rfl, rfl, Nat.le_refl _, fun y z c h1' h2' => ?_, fun y hy => ?_, fun y c hf h => ?_, fun _ => hd, Around.frames_deeper e0.frames, .inr ⟨rfl, rfl⟩, fun b z => absurd z (noA b), e0.bs, e0.bsz, fun b _ _ => noA b, fun b z => absurd z (noA b), e0.funs, e0.frf⟩,
  rfl, e0.bare, Un.kept hk, ⟨_, hns, fun i y v h1' h2 h3 => ?_⟩, fun y c h => ?_, e0.hok.fresh (Nat.le_refl _), fun y c h => ?_, fun p hp => absurd (show p ∈ ([] : List (Addr × Obj)) from hp) (by simp), e0.hok.kept hk, ?_⟩
 ·rcases cells_look h1' with a1 | ⟨_, a1⟩ <;> rcases cells_look h2' with a2 | ⟨_, a2⟩
  ·exact name_of_addr ok.apart (PySem.mem_of_lookup a1) (PySem.mem_of_lookup a2)
  ·exact absurd (own a1).2 (Nat.not_lt.mpr (Nat.le_of_lt (old a2)))
  ·exact absurd (own a2).2 (Nat.not_lt.mpr (Nat.le_of_lt (old a1)))
  ·exact C.inj y z c a1 a2
 ·have hy : scope.names.lookup y = some .cell ∨ scope.names.lookup y = some .free := hy
  show ∃ c, (cellsFrom (s.heap.objs.size + 1) scope.names cl).lookup y = some c
  rw [cells_app, List.lookup_append]
  cases e : (cellsFrom (s.heap.objs.size + 1) scope.names []).lookup y with
  | some c => exact ⟨c, rfl⟩
  | none =>
   rcases hy with hy | hy
   ·obtain ⟨c, q⟩ := cell_has (n := s.heap.objs.size + 1) hy
    rw [e] at q; cases q
   ·have hm := S.only _ (PySem.mem_of_lookup hy) rfl
    obtain ⟨i, hi⟩ := List.getElem?_of_mem hm
    obtain ⟨v, _, c, u, hc, _⟩ := paired_get C.vals hi
    exact ⟨c, hc⟩
 ·have hf' : cellOwn scope y = true := hf
  have hy : scope.names.lookup y = some .cell := by
   unfold cellOwn at hf'
   split at hf'
   ·assumption
   ·cases hf'
  obtain ⟨c', q⟩ := cell_has (n := s.heap.objs.size + 1) hy
  rcases cells_look (show (cellsFrom (s.heap.objs.size + 1) scope.names cl).lookup y = some c from h) with a1 | ⟨a0, _⟩
  ·exact Nat.le_of_lt (own a1).2
  ·rw [a0] at q; cases q
 ·have h1'' : (ps ++ frn ++ ls)[i]? = some y := h1'
  have h2' : (vs.map some ++ fvs.map some ++ ls.map fun _ => (none : Option V))[i]? = some (some v) := h2
  by_cases hi2 : i < (ps ++ frn).length
  ·rw [List.getElem?_append_left hi2] at h1''
   rw [List.getElem?_append_left (by rw [List.length_append, List.length_map, List.length_map, hl, ← lf]; rw [List.length_append] at hi2; exact hi2)] at h2'
   by_cases hi : i < ps.length
   ·rw [List.getElem?_append_left hi] at h1''
    rw [List.getElem?_append_left (by rw [List.length_map]; omega), List.getElem?_map] at h2'
    obtain ⟨v', hv', e⟩ := Option.map_eq_some_iff.mp h2'
    have e' : v' = v := Option.some.inj e
    subst e'
    obtain ⟨u, hu, rv⟩ := r.get hv'
    have ndP : ps.Nodup := (List.nodup_append.mp S.nd).1
    exact ⟨u, rv, .inl ⟨S.par y (List.mem_of_getElem? h1''), zip_rev ndP (by rw [← hl, r.length]; exact Nat.le_refl _) h1'' hu⟩⟩
   ·rw [List.getElem?_append_right (by omega)] at h1''
    rw [List.getElem?_append_right (by rw [List.length_map]; omega), List.length_map, hl, List.getElem?_map] at h2'
    obtain ⟨v', hv', e⟩ := Option.map_eq_some_iff.mp h2'
    have e' : v' = v := Option.some.inj e
    subst e'
    obtain ⟨v2, hv2, c, u, hc, ⟨o, ho, hd'⟩, rv⟩ := paired_get C.vals h1''
    rw [hv'] at hv2
    cases hv2
    have hm := List.mem_of_getElem? h1''
    refine ⟨u, rv, .inr ⟨.inr (S.free y hm), c, ?_, o, hkb _ _ ho, hd'⟩⟩
    show (cellsFrom (s.heap.objs.size + 1) scope.names cl).lookup y = some c
    rw [cells_app, List.lookup_append]
    cases e : (cellsFrom (s.heap.objs.size + 1) scope.names []).lookup y with
    | none => exact hc
    | some d =>
     rcases cells_mem (PySem.mem_of_lookup e) with z | z
     ·exact absurd hm (S.ownc _ z rfl)
     ·cases z
  ·rw [List.getElem?_append_right (by rw [List.length_append, List.length_map, List.length_map, hl, ← lf]; rw [List.length_append] at hi2; omega), List.getElem?_map] at h2'
   obtain ⟨_, _, e⟩ := Option.map_eq_some_iff.mp h2'
   cases e
 ·rcases cells_look (show (cellsFrom (s.heap.objs.size + 1) scope.names cl).lookup y = some c from h) with a1 | ⟨_, a1⟩
  ·exact ⟨_, (own a1).1⟩
  ·obtain ⟨v, o, ho, hd'⟩ := C.cell y c a1
   exact ⟨v, o, hkb _ _ ho, hd'⟩
 ·rcases cells_look (show (cellsFrom (s.heap.objs.size + 1) scope.names cl).lookup y = some c from h) with a1 | ⟨_, a1⟩
  ·exact e0.hok.fresh (Nat.le_of_lt (own a1).2)
  ·obtain ⟨v, o, ho, hd'⟩ := C.cell y c a1
   exact (e0.bs c o ho).2
 ·show _ = (ps ++ frn ++ ls).length
  rw [List.length_append, List.length_append, List.length_map, List.length_map, List.length_map, List.length_append, List.length_append, hl, lf]
theorem fn_defC {P : Program} {w : World} {K : PySem.W.Frag} {mg : Str → Option Value} {base : Heap} {k : Nat} {f c' : Addr} {name qual : Str} {params : Arguments} {body : List Stmt} {scope : Scope} {cl : List (Str × Addr)} {doc pm ctv : Value} {ps frn ls : List Str} {fvs : List V} {sp : Sp}
  (ho : base.get? f = some (PySem.W.fnMade name qual params body scope cl doc pm c' ctv)) (hcr : base.CodeRec (.ref c') qual) (S : LamScopeC ps frn scope) (C : LamCells base cl frn fvs) (len : ∀ vs H Q E, sp vs H Q E → vs.length = ps.length)
  (hbody : ∀ (A : Around) (outer : List Env) (s : Shared) (H : Hp) (vs : List V) (Q : VK) (E : XK), Room k (A.deeper (PySem.W.envX qual scope s.heap.objs.size f (.ref c') (cellsFrom (s.heap.objs.size + 1) scope.names cl))) → sp vs H Q E →
   ∃ t, PSs (cxN P w K mg base (ps ++ frn ++ ls) qual scope f (.ref c') cl A outer s H) body t ∧ t { nx := fun _ H' => Q .non H', rt := Q } (vs.map some ++ fvs.map some ++ ls.map fun _ => none) H) :
  FnOk P w K mg base CX0 (k + 1) f (PySem.W.fnX name qual params body scope cl .none .none doc pm none (.ref c') ctv) ps sp := by
 refine ⟨len, fun A outer s H args us vs Q E hr e0 hb r hsp => ?_⟩
 have hl := len _ _ _ _ hsp
 have lim : s.heap.NoLimit := e0.mod.nolimit.keeps fun b o e => (e0.bs b o e).1
 have hcr' : s.heap.CodeRec (.ref c') qual := by
  obtain ⟨c, oc, vs', tq, hc, hoc, hdc, hq⟩ := hcr
  exact ⟨c, oc, vs', tq, hc, (e0.bs _ _ hoc).1, hdc, hq⟩
 refine codeAny_call_function hr.depth (e0.bs _ _ ho).1 rfl S.co S.gen rfl hcr' (hb _ _ _ _ ?_)
 have hloc : ∀ y ∈ ps.zip us, scope.names.lookup y.1 = some .local := fun ⟨n, v⟩ hy => S.par n (List.of_mem_zip hy).1
 refine new_env hloc (fun h₁ hns hsb => ?_) S.kind
 have hk : ∀ b o, s.heap.get? b = some o → h₁.get? b = some o := fun b o e => hsb.extBut b o (Nat.ne_of_lt (Heap.lt_size e)) (pushCells_keeps _ _ b o (Heap.get?_push_of_some _ e))
 refine ⟨lim.keeps hk, ?_⟩
 obtain ⟨t, ht, hq⟩ := hbody A outer s H vs Q E (hr.deeper _) hsp
 have I := inv_def (tk := s.toks + (ps.zip us).length) (qual := qual) (f := f) (cd := .ref c') ls S hr.hd e0 hl r C hns hsb
 refine codeAny_func (wpAny_mono (ht [] _ _ H _ I hq) (fun fl s' hs => ?_) fun e s' hs => hs.elim)
 have fin : ∀ {σ' : St} {H' : Hp} {v : V} {u : Value}, Inv (cxN P w K mg base (ps ++ frn ++ ls) qual scope f (.ref c') cl A outer s H) [] σ' H' s' → RelV v u → Q v H' → CE outer P w H s Q u s' :=
  fun {σ' H' v u} J rv q => ⟨v, H', J.os, J.bare, J.base, J.hok, rv, q⟩
 cases fl with
 | ret u =>
  obtain ⟨v, σ', H', J, rv, q⟩ := hs
  exact fin J rv q
 | next =>
  obtain ⟨σ', H', J, q⟩ := hs
  exact fin (v := V.non) (u := Value.none) J rfl q
 | brk =>
  obtain ⟨_, _, _, q⟩ := hs
  exact False.elim q
 | cont =>
  obtain ⟨_, _, _, q⟩ := hs
  exact False.elim q
theorem FnAt.defnC {X : Cx} {σ : St} {D : List Addr} {H : Hp} {base' : Heap} {name : Str} {params : Arguments} {body : List Stmt} {scope : Scope} {clos : List (Str × Addr)} {c' f : Addr} {doc ctv : Value} {ps frn ls : List Str} {fvs : List V} {k : Nat} {sp : Sp} (W : Wide X σ D H base')
  (hf : H f = some (fnO f (defO X name params body scope clos doc c' ctv))) (hfD : f ∈ D) (hc : H c' = some (cdO c' (qualnameIn X.env name name))) (hcD : c' ∈ D) (S : LamScopeC ps frn scope) (sub : ∀ p ∈ clos, X.env.cells.lookup p.1 = some p.2)
  (vals : Paired (fun (x : Str) (v : V) => ∃ i : Nat, X.N[i]? = some x ∧ σ[i]? = some (some v) ∧ X.env.scope.names.lookup x = some .cell ∧ clos.lookup x = X.env.cells.lookup x) frn fvs)
  (hb : ∀ (us : List Value), us.length = ps.length → bindArgs (PySem.W.fnX name (qualnameIn X.env name name) params body scope clos .none .none doc ((X.mg "__name__").getD .none) none (.ref c') ctv) ⟨us, []⟩ = pure (ps.zip us)) (len : ∀ vs H Q E, sp vs H Q E → vs.length = ps.length)
  (hbody : ∀ (A : Around) (outer : List Env) (s : Shared) (H : Hp) (vs : List V) (Q : VK) (E : XK), Room k (A.deeper (PySem.W.envX (qualnameIn X.env name name) scope s.heap.objs.size f (.ref c') (cellsFrom (s.heap.objs.size + 1) scope.names clos))) → sp vs H Q E →
   ∃ t, PSs (cxN X.prog X.w X.K X.mg base' (ps ++ frn ++ ls) (qualnameIn X.env name name) scope f (.ref c') clos A outer s H) body t ∧ t { nx := fun _ H' => Q .non H', rt := Q } (vs.map some ++ fvs.map some ++ ls.map fun _ => none) H) : FnAt X.prog X.w X.K X.mg base' (k + 1) f ps.length sp := by
 have ho : base'.get? f = some (defO X name params body scope clos doc c' ctv) := W.ext f _ hfD hf
 have hcr : base'.CodeRec (.ref c') (qualnameIn X.env name name) := W.ext c' _ hcD hc
 have sub' : ∀ x c, clos.lookup x = some c → X.env.cells.lookup x = some c := fun x c e => sub (x, c) (PySem.mem_of_lookup e)
 have C : LamCells base' clos frn fvs := by
  refine ⟨fun x y c h1 h2 => W.inj x y c (sub' x c h1) (sub' y c h2), fun x c h => W.cell x c (sub' x c h), Paired.mapP vals fun x v ⟨i, h1, h2, h3, h4⟩ => ?_⟩
  obtain ⟨c, u, e1, e2, e3⟩ := W.val i x v h1 h2 h3
  exact ⟨c, u, h4.trans e1, e2, e3⟩
 exact ⟨_, _, ps, ho, rfl, rfl, hb, fn_defC ho hcr S C len hbody⟩
inductive Th where
 | non | int (k : Int) | str (x : Str) | unit | one (k : Int) | two (k : Int)
deriving DecidableEq
def Th.dt : Th → Dt
 | .non => .non | .int k => .int k | .str x => .str x | .unit => .tup [] | .one k => .tup [.int k] | .two k => .tup [.int k, .tup [.non, .int k]]
def ThAt (H : Hp) : Th → V → Prop
 | .non, v => v = .non
 | .int k, v => v = .int k
 | .str x, v => v = .str x
 | .unit, v => ∃ p, v = .ref p ∧ H p = some (.tup [])
 | .one k, v => ∃ p, v = .ref p ∧ H p = some (.tup [.int k])
 | .two k, v => ∃ p q, v = .ref p ∧ H p = some (.tup [.int k, .ref q]) ∧ H q = some (.tup [.non, .int k])
theorem ThAt.keep {H H' : Hp} {x : Th} {v : V} (h : ThAt H x v) (k : KTu H H') : ThAt H' x v := by
 cases x with
 | unit => obtain ⟨p, e, h⟩ := h; exact ⟨p, e, k _ _ h⟩
 | one i => obtain ⟨p, e, h⟩ := h; exact ⟨p, e, k _ _ h⟩
 | two i => obtain ⟨p, q, e, h1, h2⟩ := h; exact ⟨p, q, e, k _ _ h1, k _ _ h2⟩
 | _ => exact h
theorem ThAt.dat {K : PySem.W.Frag} {H : Hp} {x : Th} {v : V} (h : ThAt H x v) : DatAt K H v x.dt := by
 cases x with
 | unit => obtain ⟨p, rfl, h⟩ := h; exact ⟨p, _, rfl, .of h, trivial⟩
 | one i => obtain ⟨p, rfl, h⟩ := h; exact ⟨p, _, rfl, .of h, rfl, trivial⟩
 | two i => obtain ⟨p, q, rfl, h1, h2⟩ := h; exact ⟨p, _, rfl, .of h1, rfl, ⟨q, _, rfl, .of h2, rfl, rfl, trivial⟩, trivial⟩
 | _ => exact h
theorem Th.beq_dt (x y : Th) : x.dt.beq y.dt = decide (x = y) := by
 have e : ∀ {α : Type} [BEq α] [LawfulBEq α] [DecidableEq α] (a b : α), (a == b) = decide (a = b) := fun a b => by by_cases h : a = b <;> simp [h]
 cases x <;> cases y <;> simp [Th.dt, Dt.beq, Dt.beqs, e]
theorem Th.dep_dt (x : Th) : x.dt.dep ≤ 4 := by cases x <;> simp [Th.dt, Dt.dep, Dt.deps]
def Th.wd : Th → PySem.W.WData
 | .non => .none | .int k => .int k | .str x => .str x | .unit => .tuple [] | .one k => .tuple [.int k] | .two k => .tuple [.int k, .tuple [.none, .int k]]
def thHash (w : World) (x : Th) : Int := PySem.W.hashW w.params x.wd
section
variable {P : Program} {w : World} {A : Around} {E : Value → Shared → Prop}
def HashIs (P : Program) (w : World) (A : Around) (h : Heap) (v : Value) (n : Int) : Prop := ∀ (E : Value → Shared → Prop) (s : Shared) (Q : Int → Shared → Prop), s.heap = h → (∀ tk, Q n { s with toks := tk }) → wpAny (model P w) A (pyHash v) Q E s
theorem hash_items {h : Heap} : ∀ {vs : List Value} {ns : List Int} {s : Shared} {b : Array Int} {Q : Array Int → Shared → Prop}, Paired (HashIs P w A h) vs ns → s.heap = h → (∀ tk b', b'.toList = b.toList ++ ns → Q b' { s with toks := tk }) →
  wpAny (model P w) A (forIn vs b fun x r => do let n ← pyHash x; pure PUnit.unit; pure (ForInStep.yield (r.push n))) Q E s
 | _, _, s, b, Q, .nil, _, q => wpAny_pure (q s.toks b (by simp))
 | _, _, s, b, Q, .cons hv ht, e, q => by
  rw [List.forIn_cons]
  refine wpAny_bind (wpAny_bind (hv E s _ e fun tk => ?_))
  refine wpAny_bind (wpAny_pure (wpAny_pure ?_))
  exact hash_items ht (s := { s with toks := tk }) e fun tk' b' hb => q tk' b' (by simp [hb])
theorem hash_tup {h : Heap} {a : Addr} {vs : List Value} {ns : List Int} (hu : A.units < cLine) (ht : IsTup h a vs.toArray) (hi : Paired (HashIs P w A.in1 h) vs ns) : HashIs P w A h (.ref a) (reduceHash (Builtin.Tuple.tupleHashOf ns)) := by
 intro E s Q e q
 subst e
 obtain ⟨o, ho, hc, n, hd⟩ := ht
 refine PySem.W.pyHash_slot (T := "tuple") ⟨o, ho, hc⟩ PySem.F.slot_tuple_hash PySem.F.entry_tuple_hash (PySem.F.args_tuple_hash_1 _) (beq_builtin_none _) (.inr hu) ?_
 show wpAny _ _ (Builtin.Tuple.tupleItemsOf (.ref a) >>= _) _ _ s
 refine wpAny_bind (wpAny_tupleItemsOf ho hd (wpAny_bind ?_))
 rw [← Array.forIn_toList]
 refine hash_items (b := #[]) hi rfl fun tk b hb => ?_
 show wpAny _ _ (retInt (Builtin.Tuple.tupleHashOf b.toList)) _ _ _
 rw [hb, List.nil_append]
 exact wpAny_bind (wpAny_mkInt (wpAny_pure ⟨_, _, rfl, q _⟩))
theorem hash_none {h : Heap} : HashIs P w A h .none (PySem.W.hashW w.params .none) := fun E s Q e q =>
 PySem.W.pyHash_slot (T := "NoneType") rfl PySem.F.slot_NoneType_hash PySem.F.entry_NoneType_hash (PySem.F.args_NoneType_hash_1 _) (beq_builtin_none _) (.inl rfl) (wpAny_bind (wpAny_pure (wpAny_bind (wpAny_mkInt (wpAny_pure ⟨_, _, rfl, q _⟩)))))
theorem hash_int {h : Heap} (i : Int) (t : Tok) : HashIs P w A h (.int i t) (PySem.W.hashW w.params (.int i)) := fun E s Q e q => wpAny_pyHash_int (PySem.W.hashW_int w.params i ▸ q _)
theorem hash_str {h : Heap} (x : Str) (t : Tok) : HashIs P w A h (.str x t) (PySem.W.hashW w.params (.str x)) := fun E s Q e q => wpAny_pyHash_str (q _)
end
section
variable {X : Cx} {pins : List (Addr × Obj)} {σ : St} {H : Hp} {s : Shared}
theorem th_hash (I : Inv X pins σ H s) {A : Around} (hu : A.units + 4 < cLine) {x : Th} {v : V} {u : Value} (h : ThAt H x v) (r : RelV v u) : HashIs X.prog X.w A s.heap u (thHash X.w x) := by
 cases x with
 | non => cases (show v = .non from h); cases (show u = Value.none from r); exact hash_none
 | int k => cases (show v = .int k from h); obtain ⟨t, rfl⟩ := (show ∃ t, u = Value.int k t from r); exact hash_int k t
 | str x => cases (show v = .str x from h); obtain ⟨t, rfl⟩ := (show ∃ t, u = Value.str x t from r); exact hash_str x t
 | unit =>
  obtain ⟨p, rfl, h⟩ := h
  cases r
  obtain ⟨its, rv, ht, _⟩ := I.tuple (.of h)
  cases rv
  exact hash_tup (by omega) ht .nil
 | one k =>
  obtain ⟨p, rfl, h⟩ := h
  cases r
  obtain ⟨its, rv, ht, _⟩ := I.tuple (.of h)
  obtain ⟨u1, rfl, t, rfl⟩ := vals1 rv
  exact hash_tup (by omega) ht (.cons (hash_int k t) .nil)
 | two k =>
  obtain ⟨p, q, rfl, h1, h2⟩ := h
  cases r
  obtain ⟨its, rv, ht, _⟩ := I.tuple (.of h1)
  obtain ⟨its2, rv2, ht2, _⟩ := I.tuple (.of h2)
  cases rv with
  | cons a1 rv =>
   cases rv with
   | cons a2 rv =>
    cases rv
    cases rv2 with
    | cons b1 rv2 =>
     cases rv2 with
     | cons b2 rv2 =>
      cases rv2
      obtain ⟨t, rfl⟩ := a1
      cases a2
      cases b1
      obtain ⟨t2, rfl⟩ := b2
      have in1 : A.in1.units ≤ A.units + 1 := by simp [Around.in1_units]
      exact hash_tup (by omega) ht (.cons (hash_int k t) (.cons (hash_tup (by omega) ht2 (.cons hash_none (.cons (hash_int k t2) .nil))) .nil))
theorem th_eq (I : Inv X pins σ H s) {A : Around} (hu : A.units + 4 < cLine) {x y : Th} {v v' : V} {u u' : Value} (h : ThAt H x v) (h' : ThAt H y v') (r : RelV v u) (r' : RelV v' u') : SeqAt.EqAt A s u u' (decide (x = y)) := by
 have := dat_eqAt I x.dt A y.dt v v' u u' (by have := x.dep_dt; omega) h.dat h'.dat r r'
 rwa [Th.beq_dt] at this
theorem quiet_val (n : Nat) {v : Value} {A : Around} {E : Value → Shared → Prop} {P : Program} {w : World} {s : Shared} {Q : Bool → Shared → Prop} (h : carriedByValue v = true) (q : Q true s) : wpAny (model P w) A (eqIsQuiet n v) Q E s := by
 rw [eqIsQuiet_byValue n h]; exact wpAny_pure q
theorem quiet_tup {n : Nat} {a : Addr} {vs : List Value} {A : Around} {E : Value → Shared → Prop} {P : Program} {w : World} {s : Shared} {Q : Bool → Shared → Prop} (ht : IsTup s.heap a vs.toArray) (hq : ∀ v ∈ vs, ∀ Q' : Bool → Shared → Prop, Q' true s → wpAny (model P w) A (eqIsQuiet n v) Q' E s) (q : Q true s) : wpAny (model P w) A (eqIsQuiet (n + 1) (.ref a)) Q E s := by
 obtain ⟨o, ho, hc, m, hd⟩ := ht
 have hT : s.TypeIs (.ref a) "tuple" := ⟨o, ho, hc⟩
 unfold eqIsQuiet
 refine wpAny_bind (wpAny_specialOf hT PySem.F.slot_tuple_eq.lookup (show wpAny _ _ (isInstance (.ref a) (.type "tuple") >>= _) _ _ s from wpAny_bind (wpAny_isInstance hT isSubtype_tuple_tuple ?_)))
 simp only [Bool.not_true, Bool.false_eq_true, if_false]
 refine wpAny_bind (wpAny_seqItems ho hd (wpAny_bind ?_))
 show wpAny _ _ (forIn vs.toArray _ _) _ _ s
 rw [← Array.forIn_toList]
 refine wpAny_forIn_list _ (fun rest r s' => r.1 = none ∧ s' = s ∧ ∀ v ∈ rest, v ∈ vs) _ (fun v rest r s' ⟨hr, hs, hall⟩ => ?_) (fun ⟨r1, r2⟩ s' ⟨hr, hs, _⟩ => ?_) _ _ ⟨rfl, rfl, fun v hv => hv⟩
 ·subst hs
  refine wpAny_bind (hq v (hall v List.mem_cons_self) _ ?_)
  simp only [Bool.not_true, Bool.false_eq_true, if_false]
  exact wpAny_pure ⟨rfl, rfl, fun z hz => hall z (List.mem_cons_of_mem _ hz)⟩
 ·subst hs
  simp only at hr
  subst hr
  exact wpAny_pure q
theorem th_quiet (I : Inv X pins σ H s) {A : Around} {E : Value → Shared → Prop} {x : Th} {v : V} {u : Value} {Q : Bool → Shared → Prop} (h : ThAt H x v) (r : RelV v u) (q : Q true s) : wpAny (model X.prog X.w) A (eqIsQuiet 8 u) Q E s := by
 cases x with
 | non => cases (show v = .non from h); cases (show u = Value.none from r); exact quiet_val _ rfl q
 | int k => cases (show v = .int k from h); obtain ⟨t, rfl⟩ := (show ∃ t, u = Value.int k t from r); exact quiet_val _ rfl q
 | str x => cases (show v = .str x from h); obtain ⟨t, rfl⟩ := (show ∃ t, u = Value.str x t from r); exact quiet_val _ rfl q
 | unit =>
  obtain ⟨p, rfl, h⟩ := h
  cases r
  obtain ⟨its, rv, ht, _⟩ := I.tuple (.of h)
  cases rv
  exact quiet_tup ht (fun v hv => by cases hv) q
 | one k =>
  obtain ⟨p, rfl, h⟩ := h
  cases r
  obtain ⟨its, rv, ht, _⟩ := I.tuple (.of h)
  obtain ⟨u1, rfl, t, rfl⟩ := vals1 rv
  exact quiet_tup ht (fun v hv Q' q' => by rw [List.mem_singleton.mp hv]; exact quiet_val _ rfl q') q
 | two k =>
  obtain ⟨p, q0, rfl, h1, h2⟩ := h
  cases r
  obtain ⟨its, rv, ht, _⟩ := I.tuple (.of h1)
  obtain ⟨its2, rv2, ht2, _⟩ := I.tuple (.of h2)
  cases rv with
  | cons a1 rv =>
   cases rv with
   | cons a2 rv =>
    cases rv
    cases rv2 with
    | cons b1 rv2 =>
     cases rv2 with
     | cons b2 rv2 =>
      cases rv2
      obtain ⟨t, rfl⟩ := a1
      cases a2
      cases b1
      obtain ⟨t2, rfl⟩ := b2
      refine quiet_tup ht (fun v hv Q' q' => ?_) q
      rcases List.mem_cons.mp hv with z | z
      ·rw [z]; exact quiet_val _ rfl q'
      ·rw [List.mem_singleton.mp z]
       refine quiet_tup ht2 (fun v hv Q' q' => ?_) q'
       rcases List.mem_cons.mp hv with z | z
       ·rw [z]; exact quiet_val _ rfl q'
       ·rw [List.mem_singleton.mp z]; exact quiet_val _ rfl q'
end
end L2
set_option maxHeartbeats 8000000
namespace L2
open PySem PySem.Spec PyProof.Rows
structure EntM (w : World) (es : Array DictEntry) (xs : List Th) (vs : List V) : Prop where
 size : es.size = xs.length
 len : vs.length = xs.length
 at' : ∀ (i : Nat) (e : DictEntry), es[i]? = some e → ∃ x v t, xs[i]? = some x ∧ vs[i]? = some v ∧ e.hash = thHash w x ∧ RelV v e.key ∧ e.val = .int ((i : Nat) : Int) t
def dM (w : World) (a : Addr) (xs : List Th) (vs : List V) : Heap → Prop := fun h => xs.length ≤ sizeLine ∧ (a == sysModules) = false ∧ ∃ o es ep, h.get? a = some o ∧ o.ExactDict ∧ o.data = .dict es ep ∧ EntM w es xs vs
def Stand (H : Hp) (xs : List Th) (vs : List V) : Prop := ∀ (i : Nat) (x : Th) (v : V), xs[i]? = some x → vs[i]? = some v → ThAt H x v
theorem th_inj {H : Hp} {x y : Th} {v : V} (h : ThAt H x v) (h' : ThAt H y v) : x = y := by
 cases x with
 | non => cases (show v = .non from h); cases y with
  | non => rfl
  | unit => obtain ⟨p, e, _⟩ := h'; cases e
  | one => obtain ⟨p, e, _⟩ := h'; cases e
  | two => obtain ⟨p, _, e, _⟩ := h'; cases e
  | _ => cases h'
 | int k => cases (show v = .int k from h); cases y with
  | int j => cases h'; rfl
  | unit => obtain ⟨p, e, _⟩ := h'; cases e
  | one => obtain ⟨p, e, _⟩ := h'; cases e
  | two => obtain ⟨p, _, e, _⟩ := h'; cases e
  | _ => cases h'
 | str k => cases (show v = .str k from h); cases y with
  | str j => cases h'; rfl
  | unit => obtain ⟨p, e, _⟩ := h'; cases e
  | one => obtain ⟨p, e, _⟩ := h'; cases e
  | two => obtain ⟨p, _, e, _⟩ := h'; cases e
  | _ => cases h'
 | unit => obtain ⟨p, rfl, e⟩ := h; cases y with
  | unit => rfl
  | one => obtain ⟨q, z, e'⟩ := h'; cases z; rw [e] at e'; cases e'
  | two => obtain ⟨q, _, z, e', _⟩ := h'; cases z; rw [e] at e'; cases e'
  | _ => cases h'
 | one k => obtain ⟨p, rfl, e⟩ := h; cases y with
  | unit => obtain ⟨q, z, e'⟩ := h'; cases z; rw [e] at e'; cases e'
  | one => obtain ⟨q, z, e'⟩ := h'; cases z; rw [e] at e'; cases e'; rfl
  | two => obtain ⟨q, _, z, e', _⟩ := h'; cases z; rw [e] at e'; cases e'
  | _ => cases h'
 | two k => obtain ⟨p, p', rfl, e, _⟩ := h; cases y with
  | unit => obtain ⟨q, z, e'⟩ := h'; cases z; rw [e] at e'; cases e'
  | one => obtain ⟨q, z, e'⟩ := h'; cases z; rw [e] at e'; cases e'
  | two => obtain ⟨q, _, z, e', _⟩ := h'; cases z; rw [e] at e'; cases e'; rfl
  | _ => cases h'
theorem th_form {H : Hp} {k : Th} {v : V} {u : Value} (h : ThAt H k v) (r : RelV v u) : u = .none ∨ (∃ i t, u = .int i t) ∨ (∃ x t, u = .str x t ∧ k = .str x) ∨ ∃ p, u = .ref p ∧ v = .ref p := by
 cases k with
 | non => cases (show v = .non from h); exact .inl r
 | int k => cases (show v = .int k from h); obtain ⟨t, e⟩ := (show ∃ t, u = Value.int k t from r); exact .inr (.inl ⟨k, t, e⟩)
 | str x => cases (show v = .str x from h); obtain ⟨t, e⟩ := (show ∃ t, u = Value.str x t from r); exact .inr (.inr (.inl ⟨x, t, e, rfl⟩))
 | unit => obtain ⟨p, rfl, _⟩ := h; exact .inr (.inr (.inr ⟨p, r, rfl⟩))
 | one k => obtain ⟨p, rfl, _⟩ := h; exact .inr (.inr (.inr ⟨p, r, rfl⟩))
 | two k => obtain ⟨p, _, rfl, _⟩ := h; exact .inr (.inr (.inr ⟨p, r, rfl⟩))
section
variable {X : Cx} {pins : List (Addr × Obj)} {σ : St} {H : Hp} {s : Shared} {A : Around} {E : Value → Shared → Prop}
structure Srch (X : Cx) (A : Around) (s : Shared) (es : Array DictEntry) (xs : List Th) (k : Th) (u : Value) : Prop where
 size : es.size = xs.length
 nd : xs.Nodup
 eq : ∀ (i : Nat) (e : DictEntry), es[i]? = some e → ∃ x, xs[i]? = some x ∧ e.hash = thHash X.w x ∧ SeqAt.EqAt A s e.key u (decide (x = k)) ∧ (e.key = u → x = k)
theorem Srch.miss {es : Array DictEntry} {xs : List Th} {k : Th} {u : Value} (S : Srch X A s es xs k u) {j : Nat} (hj : j < es.size) (h : ((es[j]?.map (·.hash)) == some (thHash X.w k)) = false) : xs[j]? ≠ some k := fun e => by
 obtain ⟨x, hx, hh, _⟩ := S.eq j es[j] (Array.getElem?_eq_getElem hj)
 rw [e] at hx
 cases hx
 rw [Array.getElem?_eq_getElem hj, Option.map_some, hh] at h
 simp at h
theorem Srch.none {es : Array DictEntry} {xs : List Th} {k : Th} {u : Value} (S : Srch X A s es xs k u) (h : ∀ j, j < es.size → xs[j]? ≠ some k) : k ∉ xs := fun hm => by
 obtain ⟨j, hj⟩ := List.mem_iff_getElem?.mp hm
 exact h j (by rw [S.size]; exact (List.getElem?_eq_some_iff.mp hj).1) hj
theorem Srch.one {es : Array DictEntry} {xs : List Th} {k : Th} {u : Value} (S : Srch X A s es xs k u) {i j : Nat} (h : xs[i]? = some k) (h' : xs[j]? = some k) : i = j :=
 (List.getElem?_inj (List.getElem?_eq_some_iff.mp h).1 S.nd).mp (h.trans h'.symm)
theorem m_walk {d : Addr} {o : Obj} {es : Array DictEntry} {ep : Nat} {xs : List Th} {k : Th} {u : Value} {Q : Option Nat → Shared → Prop} (S : Srch X A s es xs k u) (ho : s.heap.get? d = some o) (hd : o.data = .dict es ep)
  (hn : k ∉ xs → Q none s) (hs : ∀ j, xs[j]? = some k → Q (some j) s) : wpAny (model X.prog X.w) A (dictWalkPlain d u (thHash X.w k) es (placesWithHash es.size (fun i => es[i]?.map (·.hash)) (thHash X.w k))) Q E s := by
 unfold dictWalkPlain
 refine wpAny_bind (wpAny_forIn_list _ (fun rest b s' => s' = s ∧ b = (none, ()) ∧ ∃ i, i ≤ es.size ∧ rest = (List.range' i (es.size - i)).filter (fun i => (es[i]?.map (·.hash)) == some (thHash X.w k)) ∧ ∀ j, j < i → xs[j]? ≠ some k) _ (fun x rest b s' hh => ?_) (fun b s' hh => ?_) _ _
  ⟨rfl, rfl, 0, Nat.zero_le _, by rw [placesWithHash, List.range_eq_range', Nat.sub_zero], fun j hj => absurd hj (Nat.not_lt_zero _)⟩)
 ·obtain ⟨rfl, rfl, i, hi, hr, hno⟩ := hh
  obtain ⟨hix, hxn, hpx, hskip, hrest⟩ := filter_range'_cons _ _ _ _ _ hr.symm
  have hlt : x < es.size := by omega
  obtain ⟨y, hy, hhash, heq, _⟩ := S.eq x es[x] (Array.getElem?_eq_getElem hlt)
  have upto : ∀ j, j < x → xs[j]? ≠ some k := fun j hj => by
   by_cases z : j < i
   ·exact hno j z
   ·exact S.miss (by omega) (hskip j (by omega) hj)
  have next : y ≠ k → ∃ i, i ≤ es.size ∧ rest = (List.range' i (es.size - i)).filter (fun i => (es[i]?.map (·.hash)) == some (thHash X.w k)) ∧ ∀ j, j < i → xs[j]? ≠ some k := fun ne =>
   ⟨x + 1, hlt, by rw [hrest]; congr 2; omega, fun j hj => by
    by_cases z : j < x
    ·exact upto j z
    ·rw [show j = x by omega, hy]; exact fun e => ne (Option.some.inj e)⟩
  simp only [Array.getElem?_eq_getElem hlt]
  by_cases hh : (es[x].hash == thHash X.w k) = true
  ·rw [if_pos hh]
   refine wpAny_bind (wpAny_dictEpoch ho hd (wpAny_bind (heq _ _ _ _ (wpAny_bind (wpAny_dictEpoch ho hd ?_)))))
   show wpAny _ _ (if (ep != ep) = true then _ else _) _ E _
   rw [if_neg (by simp)]
   by_cases hk : y = k
   ·rw [decide_eq_true hk]
    exact wpAny_bind (wpAny_rule (wpAny_pure (wpAny_pure (hs x (hk ▸ hy)))))
   ·rw [decide_eq_false hk]
    exact wpAny_bind (wpAny_rule (wpAny_pure ⟨rfl, rfl, next hk⟩))
  ·rw [if_neg hh]
   exact wpAny_pure ⟨rfl, rfl, next fun hk => hh (by rw [hhash, hk]; simp)⟩
 ·obtain ⟨rfl, rfl, i, hi, hr, hno⟩ := hh
  refine wpAny_pure (hn (S.none fun j hj => ?_))
  by_cases z : j < i
  ·exact hno j z
  ·exact S.miss hj (by simpa using List.filter_eq_nil_iff.mp hr.symm j (List.mem_range'_1.mpr ⟨by omega, by omega⟩))
theorem m_tell {u : Value} {stored : List Value} {Q : Bool → Shared → Prop} (hu : ∀ Q' : Bool → Shared → Prop, Q' true s → wpAny (model X.prog X.w) A (eqIsQuiet 8 u) Q' E s) (hs : ∀ v ∈ stored, ∀ Q' : Bool → Shared → Prop, Q' true s → wpAny (model X.prog X.w) A (eqIsQuiet 8 v) Q' E s) (q : Q false s) : wpAny (model X.prog X.w) A (tableMayTell u stored) Q E s := by
 unfold tableMayTell
 split
 ·exact wpAny_pure q
 ·refine wpAny_bind (hu _ ?_)
  simp only [Bool.not_true, Bool.false_eq_true, if_false]
  refine wpAny_bind (wpAny_forIn_list _ (fun rest r s' => s' = s ∧ r = (none, ()) ∧ ∀ v ∈ rest, v ∈ stored) _ (fun x rest r s' hh => ?_) (fun r s' hh => ?_) _ _ ⟨rfl, rfl, fun v hv => hv⟩)
  ·obtain ⟨rfl, rfl, hr⟩ := hh
   refine wpAny_bind (hs x (hr x List.mem_cons_self) _ ?_)
   simp only [Bool.not_true, Bool.false_eq_true, if_false]
   exact wpAny_pure ⟨rfl, rfl, fun v hv => hr v (List.mem_cons_of_mem _ hv)⟩
  ·obtain ⟨rfl, rfl, _⟩ := hh
   exact wpAny_pure q
end
end L2
set_option maxHeartbeats 8000000
namespace L2
open PySem PySem.Spec PyProof.Rows
theorem relV_inj {v v' : V} {u : Value} (h : RelV v u) (h' : RelV v' u) : v = v' := by
 cases v <;> cases v' <;> simp only [RelV] at h h' <;> first
  | (subst h; obtain ⟨t, e⟩ := h'; cases e; done)
  | (obtain ⟨t, rfl⟩ := h; obtain ⟨t', e⟩ := h'; cases e; done)
  | (obtain ⟨t, rfl⟩ := h; obtain ⟨t', e⟩ := h'; cases e; rfl)
  | (obtain ⟨t, rfl⟩ := h; cases h'; done)
  | (subst h; cases h'; done)
  | (subst h; cases h'; rfl)
  | rfl
section
variable {X : Cx} {pins : List (Addr × Obj)} {σ : St} {H : Hp} {s : Shared} {A : Around} {E : Value → Shared → Prop}
theorem EntM.srch {es : Array DictEntry} {xs : List Th} {vs : List V} {k : Th} {v : V} {u : Value} (M : EntM X.w es xs vs) (I : Inv X pins σ H s) (hu : A.units + 4 < cLine) (st : Stand H xs vs) (nd : xs.Nodup) (hk : ThAt H k v) (ru : RelV v u) : Srch X A s es xs k u := by
 refine ⟨M.size, nd, fun i e he => ?_⟩
 obtain ⟨x, v', t, hx, hv, hh, rk, _⟩ := M.at' i e he
 have ha := st i x v' hx hv
 refine ⟨x, hx, hh, th_eq I hu ha hk rk ru, fun e' => ?_⟩
 have r' : RelV v' u := e' ▸ rk
 have := relV_inj r' ru
 subst this
 exact th_inj ha hk
theorem EntM.quiet {es : Array DictEntry} {xs : List Th} {vs : List V} (M : EntM X.w es xs vs) (I : Inv X pins σ H s) (st : Stand H xs vs) {i : Nat} {e : DictEntry} (he : es[i]? = some e) {Q' : Bool → Shared → Prop} (q : Q' true s) : wpAny (model X.prog X.w) A (eqIsQuiet 8 e.key) Q' E s := by
 obtain ⟨x, v', t, hx, hv, hh, rk, _⟩ := M.at' i e he
 exact th_quiet I (st i x v' hx hv) rk q
theorem m_text {d : Addr} {o : Obj} {es : Array DictEntry} {ep : Nat} {xs : List Th} {vs : List V} {y : Str} {t : Tok} {Q : Option Nat → Shared → Prop} (M : EntM X.w es xs vs) (S : Srch X A s es xs (.str y) (.str y t)) (st : Stand H xs vs) (ho : s.heap.get? d = some o) (hd : o.data = .dict es ep) (hall : (es.all fun e => isExactStrKey e.key) = true)
  (hn : Th.str y ∉ xs → Q none s) (hs : ∀ j, xs[j]? = some (.str y) → Q (some j) s) : wpAny (model X.prog X.w) A (foundByValue d (.str y t) es y) Q E s := by
 have key : ∀ (i : Nat) (e : DictEntry), es[i]? = some e → ∃ x, xs[i]? = some x ∧ e.key.isStr y = decide (x = Th.str y) := fun i e he => by
  obtain ⟨x, v', t', hx, hv, _, rk, _⟩ := M.at' i e he
  refine ⟨x, hx, ?_⟩
  have hx' := Array.all_eq_true.mp hall i (Array.getElem?_eq_some_iff.mp he).1
  rw [(Array.getElem?_eq_some_iff.mp he).2] at hx'
  rcases th_form (st i x v' hx hv) rk with z | ⟨_, _, z⟩ | ⟨w, _, z, z'⟩ | ⟨_, z, _⟩
  ·rw [z] at hx'; cases hx'
  ·rw [z] at hx'; cases hx'
  ·rw [z, z']
   show (w == y) = decide (Th.str w = Th.str y)
   by_cases h : w = y <;> simp [h]
  ·rw [z] at hx'; cases hx'
 unfold foundByValue
 cases hf : es.findIdx? (fun e => e.key.isStr y) with
 | none =>
  refine wpAny_pure (hn (S.none fun j hj e => ?_))
  obtain ⟨x, hx, hk⟩ := key j es[j] (Array.getElem?_eq_getElem hj)
  rw [e] at hx
  cases hx
  have := Array.findIdx?_eq_none_iff.mp hf es[j] (Array.getElem_mem hj)
  rw [hk] at this
  simp at this
 | some i =>
  obtain ⟨hlt, hi, _⟩ := Array.findIdx?_eq_some_iff_getElem.mp hf
  obtain ⟨x, hx, hk⟩ := key i es[i] (Array.getElem?_eq_getElem hlt)
  obtain ⟨x', hx', _, heq, _⟩ := S.eq i es[i] (Array.getElem?_eq_getElem hlt)
  rw [hx] at hx'
  cases hx'
  rw [hk] at hi
  have hxy : x = Th.str y := of_decide_eq_true hi
  simp only [Array.getElem?_eq_getElem hlt]
  refine wpAny_bind (wpAny_dictEpoch ho hd (wpAny_bind (heq _ _ _ _ (wpAny_bind (wpAny_dictEpoch ho hd ?_)))))
  show wpAny _ _ (if (ep != ep) = true then _ else _) _ E _
  rw [if_neg (by simp), decide_eq_true hxy]
  exact wpAny_bind (wpAny_rule (wpAny_pure (hs i (hxy ▸ hx))))
end
end L2
set_option maxHeartbeats 8000000
namespace L2
open PySem PySem.Spec PyProof.Rows
section
variable {X : Cx} {pins : List (Addr × Obj)} {σ : St} {H : Hp} {s : Shared} {A : Around} {E : Value → Shared → Prop}
theorem ite_both {α : Type} {M : Model} {c : Prop} [Decidable c] {m n : Sem α} {Q : α → Shared → Prop} (h1 : wpAny M A m Q E s) (h2 : wpAny M A n Q E s) : wpAny M A (if c then m else n) Q E s := by
 by_cases h : c
 ·rw [if_pos h]; exact h1
 ·rw [if_neg h]; exact h2
theorem ite_no {α : Type} {M : Model} {c : Prop} [Decidable c] {m n : Sem α} {Q : α → Shared → Prop} (h : ¬ c) (h2 : wpAny M A n Q E s) : wpAny M A (if c then m else n) Q E s := by rw [if_neg h]; exact h2
theorem m_find {d : Addr} {o : Obj} {es : Array DictEntry} {ep : Nat} {xs : List Th} {vs : List V} {k : Th} {v : V} {u : Value} {Q : Option Nat → Shared → Prop} (I : Inv X pins σ H s) (hu : A.units + 4 < cLine) (M : EntM X.w es xs vs) (st : Stand H xs vs) (nd : xs.Nodup) (hk : ThAt H k v) (ru : RelV v u)
  (ho : s.heap.get? d = some o) (hd : o.data = .dict es ep) (hn : k ∉ xs → Q none s) (hs : ∀ j, xs[j]? = some k → Q (some j) s) : wpAny (model X.prog X.w) A (dictFind d u (thHash X.w k)) Q E s := by
 have S : Srch X A s es xs k u := M.srch I hu st nd hk ru
 have hq : ∀ Q' : Bool → Shared → Prop, Q' true s → wpAny (model X.prog X.w) A (eqIsQuiet 8 u) Q' E s := fun Q' q => th_quiet I hk ru q
 have hqs : ∀ v ∈ (placesWithHash es.size (fun i => es[i]?.map (·.hash)) (thHash X.w k)).filterMap (fun i => es[i]?.map (·.key)), ∀ Q' : Bool → Shared → Prop, Q' true s → wpAny (model X.prog X.w) A (eqIsQuiet 8 v) Q' E s := fun z hz Q' q => by
  obtain ⟨i, _, hi⟩ := List.mem_filterMap.mp hz
  cases he : es[i]? with
  | none => rw [he] at hi; cases hi
  | some e =>
   rw [he] at hi
   obtain rfl : e.key = z := by simpa using hi
   exact M.quiet I st he q
 have hash_at : ∀ j : Nat, xs[j]? = some k → ((es[j]?.map (·.hash)) == some (thHash X.w k)) = true := fun j hj => by
  have hjl : j < es.size := by rw [S.size]; exact (List.getElem?_eq_some_iff.mp hj).1
  cases hb : ((es[j]?.map (·.hash)) == some (thHash X.w k)) with
  | true => rfl
  | false => exact absurd hj (S.miss hjl hb)
 have hany : ¬ (es.any fun e => e.key == u && e.hash != thHash X.w k) = true := fun hh => by
  obtain ⟨i, hi, hc⟩ := Array.any_eq_true.mp hh
  obtain ⟨x, hx, hhash, _, hinj⟩ := S.eq i es[i] (Array.getElem?_eq_getElem hi)
  simp only [Bool.and_eq_true, beq_iff_eq, bne_iff_ne, ne_eq] at hc
  exact hc.2 (by rw [hhash, hinj hc.1])
 have walk := fun E => m_walk (E := E) S ho hd hn hs
 unfold dictFind
 try with_reducible refine wpAny_holding ?_
 refine wpAny_bind (wpAny_dictEntries ho hd ?_)
 dsimp only
 by_cases hb : ((u :: (placesWithHash es.size (fun i => es[i]?.map (·.hash)) (thHash X.w k)).filterMap (fun i => es[i]?.map (·.key))).all carriedByValue) = true
 ·rw [if_pos hb]
  rcases th_form hk ru with rfl | ⟨i, t, rfl⟩ | ⟨yy, t, rfl, hky⟩ | ⟨p, rfl, rfl⟩
  ·exact walk E
  ·exact walk E
  ·dsimp only
   by_cases hall : (es.all fun e => isExactStrKey e.key) = true
   ·rw [if_pos hall]; subst hky; exact m_text M S st ho hd hall hn hs
   ·rw [if_neg hall]; exact walk E
  ·exact walk E
 ·rw [if_neg hb]
  have step : ∀ {i x : Nat} {hit : Option Nat}, x < es.size → i ≤ x → (∀ j, i ≤ j → j < x → ((es[j]?.map (·.hash)) == some (thHash X.w k)) = false) → ((hit = none ∧ ∀ j, j < i → xs[j]? ≠ some k) ∨ ∃ j, hit = some j ∧ j < i ∧ xs[j]? = some k) → ((hit = none ∧ ∀ j, j < x → xs[j]? ≠ some k) ∨ ∃ j, hit = some j ∧ j < x ∧ xs[j]? = some k) := fun {i x hit} hx hix hskip hh => by
   rcases hh with ⟨h0, hno⟩ | ⟨j, h1, h2, h3⟩
   ·refine .inl ⟨h0, fun j hj => ?_⟩
    by_cases z : j < i
    ·exact hno j z
    ·exact S.miss (by omega) (hskip j (by omega) hj)
   ·exact .inr ⟨j, h1, by omega, h3⟩
  have past : ∀ {x : Nat} {hit : Option Nat} {y : Th}, xs[x]? = some y → y ≠ k → ((hit = none ∧ ∀ j, j < x → xs[j]? ≠ some k) ∨ ∃ j, hit = some j ∧ j < x ∧ xs[j]? = some k) → ((hit = none ∧ ∀ j, j < x + 1 → xs[j]? ≠ some k) ∨ ∃ j, hit = some j ∧ j < x + 1 ∧ xs[j]? = some k) := fun {x hit y} hy ne hh => by
   rcases hh with ⟨h0, hno⟩ | ⟨j, h1, h2, h3⟩
   ·refine .inl ⟨h0, fun j hj => ?_⟩
    by_cases z : j < x
    ·exact hno j z
    ·rw [show j = x by omega, hy]; exact fun e => ne (Option.some.inj e)
   ·exact .inr ⟨j, h1, by omega, h3⟩
  have fin : ∀ {i : Nat} {hit : Option Nat}, i ≤ es.size → (List.range' i (es.size - i)).filter (fun i => (es[i]?.map (·.hash)) == some (thHash X.w k)) = [] → ((hit = none ∧ ∀ j, j < i → xs[j]? ≠ some k) ∨ ∃ j, hit = some j ∧ j < i ∧ xs[j]? = some k) → Q hit s := fun {i hit} hi hr hh => by
   rcases hh with ⟨rfl, hno⟩ | ⟨j, rfl, _, h3⟩
   ·refine hn (S.none fun j hj => ?_)
    by_cases z : j < i
    ·exact hno j z
    ·exact S.miss hj (by simpa using List.filter_eq_nil_iff.mp hr j (List.mem_range'_1.mpr ⟨by omega, by omega⟩))
   ·exact hs j h3
  rcases th_form hk ru with rfl | ⟨i, t, rfl⟩ | ⟨yy, t, rfl, hky⟩ | ⟨p, rfl, rfl⟩
  all_goals dsimp only
  case' inr.inr.inl =>
   by_cases hall : (es.all fun e => isExactStrKey e.key) = true
   ·rw [if_pos hall]; subst hky; exact m_text M S st ho hd hall hn hs
   rw [if_neg hall]
  case' inr.inr.inr => rw [if_neg hany]
  all_goals refine ite_both (wpAny_bind (wpAny_pure ?_)) (wpAny_bind (m_tell hq hqs ?_))
  all_goals
   refine ite_no (by simp) ?_
   refine wpAny_bind (wpAny_forIn_list _ (fun rest b s' => s' = s ∧ ∃ i hit, b = (none, hit) ∧ i ≤ es.size ∧ rest = (List.range' i (es.size - i)).filter (fun i => (es[i]?.map (·.hash)) == some (thHash X.w k)) ∧ ((hit = none ∧ ∀ j, j < i → xs[j]? ≠ some k) ∨ ∃ j, hit = some j ∧ j < i ∧ xs[j]? = some k)) _ (fun x rest b s' hh => ?_) (fun b s' hh => ?_) _ _
    ⟨rfl, 0, none, rfl, Nat.zero_le _, by rw [placesWithHash, List.range_eq_range', Nat.sub_zero], .inl ⟨rfl, fun j hj => absurd hj (Nat.not_lt_zero _)⟩⟩)
   ·obtain ⟨rfl, i, hit, rfl, hi, hr, hH⟩ := hh
    obtain ⟨hix, hxn, hpx, hskip, hrest⟩ := filter_range'_cons _ _ _ _ _ hr.symm
    have hlt : x < es.size := by omega
    obtain ⟨y, hy, hhash, heq, _⟩ := S.eq x es[x] (Array.getElem?_eq_getElem hlt)
    have hr2 : rest = (List.range' (x + 1) (es.size - (x + 1))).filter (fun i => (es[i]?.map (·.hash)) == some (thHash X.w k)) := by rw [hrest]; congr 2; omega
    have hX := step hlt hix hskip hH
    simp only [Array.getElem?_eq_getElem hlt]
    by_cases hh : (es[x].hash == thHash X.w k) = true
    ·rw [if_pos hh]
     refine wpAny_bind (wpAny_dictEpoch ho hd (wpAny_bind (heq _ _ _ _ (wpAny_bind (wpAny_dictEpoch ho hd (ite_no (by simp) ?_))))))
     by_cases hk' : y = k
     ·rw [decide_eq_true hk', if_pos rfl]
      rcases hX with ⟨rfl, _⟩ | ⟨j, _, hj1, hj2⟩
      ·refine ite_no (by simp) (wpAny_bind (wpAny_rule (ite_both ?_ ?_)))
       ·exact wpAny_pure (wpAny_pure (hs x (hk' ▸ hy)))
       ·exact wpAny_pure ⟨rfl, x + 1, some x, rfl, hlt, hr2, .inr ⟨x, rfl, Nat.lt_succ_self x, hk' ▸ hy⟩⟩
      ·exact absurd (S.one hj2 (hk' ▸ hy)) (by omega)
     ·rw [decide_eq_false hk', if_neg Bool.false_ne_true]
      refine wpAny_bind (wpAny_rule (ite_no (by simp) ?_))
      exact wpAny_pure ⟨rfl, x + 1, hit, rfl, hlt, hr2, past hy hk' hX⟩
    ·rw [if_neg hh]
     exact wpAny_pure ⟨rfl, x + 1, hit, rfl, hlt, hr2, past hy (fun e => hh (by rw [hhash, e]; simp)) hX⟩
   ·obtain ⟨rfl, i, hit, rfl, hi, hr, hH⟩ := hh
    exact wpAny_pure (fin hi hr.symm hH)
end
end L2
set_option maxHeartbeats 8000000
namespace L2
open PySem PySem.Spec PyProof.Rows
section
variable {X : Cx} {pins : List (Addr × Obj)} {σ : St} {H : Hp} {s : Shared} {A : Around} {E : Value → Shared → Prop}
def numM (xs : List Th) (k : Th) : Option V := (xs.idxOf? k).map fun j => .int ((j : Nat) : Int)
theorem idx_none {xs : List Th} {k : Th} (h : k ∉ xs) : xs.idxOf? k = none := List.idxOf?_eq_none_iff.mpr h
theorem idx_some {xs : List Th} {k : Th} {j : Nat} (nd : xs.Nodup) (h : xs[j]? = some k) : xs.idxOf? k = some j := by
 have hm : k ∈ xs := List.mem_of_getElem? h
 cases e : xs.idxOf? k with
 | none => exact absurd hm (List.idxOf?_eq_none_iff.mp e)
 | some i =>
  have hi : xs[i]? = some k := by
   have := List.idxOf?_eq_some_iff.mp e
   obtain ⟨h1, h2, _⟩ := this
   rw [List.getElem?_eq_getElem h1]
   simpa using h2
  exact congrArg some ((List.getElem?_inj (List.getElem?_eq_some_iff.mp hi).1 nd).mp (hi.trans h.symm))
theorem m_get {d : Addr} {xs : List Th} {vs : List V} {k : Th} {v : V} {u : Value} {Q : Option Value → Shared → Prop} (I : Inv X pins σ H s) (hu : A.units + 4 < cLine) (D : dM X.w d xs vs s.heap) (st : Stand H xs vs) (nd : xs.Nodup) (hk : ThAt H k v) (ru : RelV v u)
  (hn : k ∉ xs → ∀ tk, Q none { s with toks := tk }) (hs : ∀ (j : Nat) (t : Tok) tk, xs[j]? = some k → Q (some (.int ((j : Nat) : Int) t)) { s with toks := tk }) : wpAny (model X.prog X.w) A (dictGet d u) Q E s := by
 obtain ⟨_, _, o, es, ep, ho, _, hd, M⟩ := D
 unfold dictGet
 try with_reducible refine wpAny_holding ?_
 refine wpAny_bind (th_hash I hu hk ru E s _ rfl fun tk => wpAny_bind (m_find (I.tok tk) hu M st nd hk ru ho hd (fun h => wpAny_pure (hn h tk)) fun j hj => ?_))
 have hjl : j < es.size := by rw [M.size]; exact (List.getElem?_eq_some_iff.mp hj).1
 obtain ⟨x, v', t, hx, _, _, _, hval⟩ := M.at' j es[j] (Array.getElem?_eq_getElem hjl)
 refine wpAny_bind (wpAny_dictEntries (s := { s with toks := tk }) ho hd (wpAny_pure ?_))
 rw [Array.getElem?_eq_getElem hjl, Option.map_some, hval]
 exact hs j t tk hj
theorem m_set {d : Addr} {xs : List Th} {vs : List V} {k : Th} {v : V} {u : Value} {t : Tok} {Q : Unit → Shared → Prop} (I : Inv X pins σ H s) (hu : A.units + 4 < cLine) (D : dM X.w d xs vs s.heap) (st : Stand H xs vs) (nd : xs.Nodup) (hk : ThAt H k v) (ru : RelV v u) (hno : k ∉ xs) (hz : xs.length < sizeLine)
  (hQ : ∀ h' tk, dM X.w d (xs ++ [k]) (vs ++ [v]) h' → Heap.SameBut d s.heap h' → Q () { s with heap := h', toks := tk }) : wpAny (model X.prog X.w) A (dictSet d u (.int ((xs.length : Nat) : Int) t)) Q E s := by
 obtain ⟨z, sy, o, es, ep, ho, hc, hd, M⟩ := D
 unfold dictSet
 try with_reducible refine wpAny_holding ?_
 refine wpAny_bind (th_hash I hu hk ru E s _ rfl fun tk => ?_)
 unfold dictSetHashed
 try with_reducible refine wpAny_holding ?_
 refine wpAny_bind (m_find (I.tok tk) hu M st nd hk ru ho hd (fun _ => ?_) fun j hj => absurd (List.mem_of_getElem? hj) hno)
 refine wpAny_bind (wpAny_rule (wpAny_updateDictKeys (hz := by have := M.size; omega) (s := { s with toks := tk }) ho hd (hQ _ tk ⟨by rw [List.length_append]; show xs.length + 1 ≤ _; omega, sy, _, _, ep + 1, Heap.get?_update_self _ ho (Obj.isFreed_of_dict (Obj.data_mapDictKeys hd _)), hc.mapDictKeys _, Obj.data_mapDictKeys hd _, ?_⟩ (Heap.SameBut.update ..))))
 refine ⟨by rw [Array.size_push, M.size, List.length_append]; rfl, by rw [List.length_append, List.length_append, M.len]; rfl, fun i e he => ?_⟩
 by_cases hi : i < es.size
 ·rw [Array.getElem?_push_lt hi] at he
  obtain ⟨x, v', t', hx, hv, r⟩ := M.at' i e (by rw [Array.getElem?_eq_getElem hi]; exact he)
  exact ⟨x, v', t', by rw [List.getElem?_append_left (List.getElem?_eq_some_iff.mp hx).1]; exact hx, by rw [List.getElem?_append_left (List.getElem?_eq_some_iff.mp hv).1]; exact hv, r⟩
 ·have hie : i = es.size := by
   have := (Array.getElem?_eq_some_iff.mp he).1
   rw [Array.size_push] at this
   omega
  subst hie
  rw [Array.getElem?_push_size] at he
  cases he
  refine ⟨k, v, t, ?_, ?_, rfl, ru, by rw [M.size]⟩
  ·rw [M.size, List.getElem?_append_right (Nat.le_refl _), Nat.sub_self]; rfl
  ·rw [M.size, ← M.len, List.getElem?_append_right (Nat.le_refl _), Nat.sub_self]; rfl
end
end L2
set_option maxHeartbeats 8000000
namespace L2
open PySem PySem.Spec PyProof.Rows
section
variable {P : Program} {w : World} {A : Around} {E : Value → Shared → Prop} {s : Shared} {d : Addr} {u : Value}
def TellsM (P : Program) (w : World) (A : Around) (s : Shared) (d : Addr) (u : Value) (R : Option Value → Prop) : Prop := ∀ (E : Value → Shared → Prop) (Q : Option Value → Shared → Prop), (∀ r tk, R r → Q r { s with toks := tk }) → wpAny (model P w) A (dictGet d u) Q E s
theorem road_in {R : Option Value → Prop} {b : Bool} {Q : Value → Shared → Prop} (hT : s.TypeIs (.ref d) "dict") (hd : (d == sysModules) = false) (g : TellsM P w A.in1 s d u R) (hb : ∀ r, R r → r.isSome = b) (h : ∀ tk, Q (.bool b) { s with toks := tk }) : wpAny (model P w) A (compareOp .In u (.ref d)) Q E s := by
 show wpAny _ _ (do return .bool (← contains (.ref d) u)) Q E s
 refine wpAny_bind ?_
 unfold contains
 try with_reducible refine wpAny_holding ?_
 refine wpAny_bind (wpAny_specialOf hT slot_dict_contains.lookup (show wpAny _ _ (if (some (Value.builtin "dict.__contains__") == some Value.none) = true then _ else _) _ E s from ?_))
 rw [if_neg (by rw [beq_builtin_none]; exact Bool.false_ne_true)]
 refine wpAny_bind (wpAny_callSpecialUnlessNone?_slot (name := Str.ofString "__contains__") hT slot_dict_contains (wpAny_call_entry slot_dict_contains hT entry_dict_contains (show wpAny _ _ (dictGet d u >>= _) _ _ s from wpAny_bind (g _ _ fun r tk hr => ?_)) (args_dict_contains _ _)))
 have := hb r hr
 cases r with
 | some v =>
  subst this
  exact (show wpAny _ _ (ret (.bool true)) _ _ _ from wpAny_pure ⟨_, rfl, wpAny_truthy_bool (wpAny_pure (h tk))⟩)
 | none =>
  subst this
  exact (show wpAny _ _ (Builtin.Dict.pendingKey? d u >>= _) _ _ _ from wpAny_bind (wpAny_pendingKey_other hd (wpAny_pure ⟨_, rfl, wpAny_truthy_bool (wpAny_pure (h tk))⟩)))
theorem road_notin {R : Option Value → Prop} {b : Bool} {Q : Value → Shared → Prop} (hT : s.TypeIs (.ref d) "dict") (hd : (d == sysModules) = false) (g : TellsM P w A.in1 s d u R) (hb : ∀ r, R r → r.isSome = b) (h : ∀ tk, Q (.bool (!b)) { s with toks := tk }) : wpAny (model P w) A (compareOp .NotIn u (.ref d)) Q E s := by
 show wpAny _ _ (do return .bool (!(← contains (.ref d) u))) Q E s
 refine wpAny_bind ?_
 unfold contains
 try with_reducible refine wpAny_holding ?_
 refine wpAny_bind (wpAny_specialOf hT slot_dict_contains.lookup (show wpAny _ _ (if (some (Value.builtin "dict.__contains__") == some Value.none) = true then _ else _) _ E s from ?_))
 rw [if_neg (by rw [beq_builtin_none]; exact Bool.false_ne_true)]
 refine wpAny_bind (wpAny_callSpecialUnlessNone?_slot (name := Str.ofString "__contains__") hT slot_dict_contains (wpAny_call_entry slot_dict_contains hT entry_dict_contains (show wpAny _ _ (dictGet d u >>= _) _ _ s from wpAny_bind (g _ _ fun r tk hr => ?_)) (args_dict_contains _ _)))
 have := hb r hr
 cases r with
 | some v =>
  subst this
  exact (show wpAny _ _ (ret (.bool true)) _ _ _ from wpAny_pure ⟨_, rfl, wpAny_truthy_bool (wpAny_pure (h tk))⟩)
 | none =>
  subst this
  exact (show wpAny _ _ (Builtin.Dict.pendingKey? d u >>= _) _ _ _ from wpAny_bind (wpAny_pendingKey_other hd (wpAny_pure ⟨_, rfl, wpAny_truthy_bool (wpAny_pure (h tk))⟩)))
theorem road_get {R : Option Value → Prop} {Q : Value → Shared → Prop} (hT : s.TypeIs (.ref d) "dict") (g : TellsM P w A.in1 s d u R) (hs : ∀ r, R r → ∃ v, r = some v) (h : ∀ v tk, R (some v) → Q v { s with toks := tk }) : wpAny (model P w) A (getItem (.ref d) u) Q E s := by
 unfold getItem
 try with_reducible refine wpAny_holding ?_
 refine wpAny_bind (wpAny_sequenceKey hT (by decide) (wpAny_bind (wpAny_callSpecial?_slot (name := Str.ofString "__getitem__") hT slot_dict_getitem (wpAny_call_entry slot_dict_getitem hT entry_dict_getitem (show wpAny _ _ (dictGet d u >>= _) _ _ s from wpAny_bind (g _ _ fun r tk hr => ?_)) (args_dict_getitem _ _)))))
 obtain ⟨v, rfl⟩ := hs r hr
 exact wpAny_pure ⟨v, rfl, wpAny_pure (h v tk hr)⟩
theorem road_set {v : Value} {Q : Unit → Shared → Prop} (hT : s.TypeIs (.ref d) "dict") (g : ∀ (E : Value → Shared → Prop) (Q' : Unit → Shared → Prop), (∀ s', Q () s' → Q' () s') → wpAny (model P w) A.in1 (dictSet d u v) Q' E s) : wpAny (model P w) A (setItem (.ref d) u v) Q E s := by
 unfold setItem
 try with_reducible refine wpAny_holding ?_
 refine wpAny_bind (wpAny_sequenceKey hT (by decide) (wpAny_bind (wpAny_callSpecial?_slot (name := Str.ofString "__setitem__") hT slot_dict_setitem (wpAny_call_entry slot_dict_setitem hT entry_dict_setitem (show wpAny _ _ (Builtin.Dict.notOrdered "__setitem__" ⟨[.ref d, u, v], []⟩ >>= _) _ _ s from wpAny_bind (wpAny_notOrdered_dict hT (show wpAny _ _ (dictSet d u v >>= _) _ _ s from wpAny_bind (g _ _ fun s' q => ?_)))) (args_dict_setitem _ _ _)))))
 exact wpAny_pure ⟨.none, rfl, wpAny_pure q⟩
end
end L2
set_option maxHeartbeats 8000000
namespace L2
open PySem PySem.Spec PyProof.Rows
def GetM (P : Program) (w : World) (H : Hp) (a : Addr) (y : V) (o : Option V) : Prop := ∀ (X : Cx) (pins : List (Addr × Obj)) (σ : St) (s : Shared) (u : Value), X.prog = P → X.w = w → Inv X pins σ H s → RelV y u → s.TypeIs (.ref a) "dict" ∧
 ∀ (A : Around) (E : Value → Shared → Prop), A.units + 8 < cLine →
  (∀ (v : V) (Q : Value → Shared → Prop), o = some v → (∀ w' s', Inv X pins σ H s' → RelV v w' → Q w' s') → wpAny (model X.prog X.w) A (getItem (.ref a) u) Q E s) ∧
  (∀ Q : Value → Shared → Prop, (∀ s', Inv X pins σ H s' → Q (.bool o.isSome) s') → wpAny (model X.prog X.w) A (compareOp .In u (.ref a)) Q E s) ∧
  ∀ Q : Value → Shared → Prop, (∀ s', Inv X pins σ H s' → Q (.bool (!o.isSome)) s') → wpAny (model X.prog X.w) A (compareOp .NotIn u (.ref a)) Q E s
def PutM (P : Program) (w : World) (H : Hp) (a : Addr) (y v : V) (H' : Hp) : Prop := ∀ (X : Cx) (pins : List (Addr × Obj)) (σ : St) (s : Shared) (u r : Value), X.prog = P → X.w = w → Inv X pins σ H s → RelV y u → RelV v r →
 ∀ (A : Around) (E : Value → Shared → Prop) (Q : Unit → Shared → Prop), A.units + 8 < cLine → (∀ s', Inv X pins σ H' s' → Q () s') → wpAny (model X.prog X.w) A (setItem (.ref a) u r) Q E s
def tMGet (P : Program) (w : World) (td ty : TE) : TE := fun σ H Q => td σ H fun x H1 => ty σ H1 fun y H2 => ∃ a v, x = .ref a ∧ GetM P w H2 a y (some v) ∧ Q v H2
def tMNotIn (P : Program) (w : World) (ty td : TE) : TE := fun σ H Q => ty σ H fun y H1 => td σ H1 fun x H2 => ∃ a o, x = .ref a ∧ GetM P w H2 a y o ∧ Q (.bl (!o.isSome)) H2
def sMPut (P : Program) (w : World) (td ty tv : TE) : TS := fun D σ H => tv σ H fun v H1 => td σ H1 fun x H2 => ty σ H2 fun y H3 => ∃ a H4, x = .ref a ∧ PutM P w H3 a y v H4 ∧ D.nx σ H4
section
variable {X : Cx} {P : Program} {w : World} {o i e value : Expr} {pos pos' tpos : Pos} {td ty tv : TE}
theorem pe_mget (hu : X.A.units + 8 < cLine) (ho : PE X o td) (hi : PE X i ty) (hs : NoSl i) (hP : X.prog = P := by rfl) (hw : X.w = w := by rfl) : PE X (.Subscript o i pos) (tMGet P w td ty) := by
 intro pins s σ H Q I h
 refine subD_of PySem.F.slot_dict_getitem.lookup hs (thn (ho pins s σ H _ I h) fun u s1 ⟨x, H1, I1, rx, q1⟩ => thn (hi pins s1 σ H1 _ I1 q1) fun iv s2 ⟨y, H2, I2, ry, a, v, ex, g, q2⟩ => ?_)
 subst ex
 obtain rfl : u = Value.ref a := rx
 obtain ⟨t1, g1⟩ := g X pins σ s2 iv hP hw I2 ry
 exact ⟨t1, (g1 _ _ hu).1 v _ rfl fun w' s3 I3 rw' => ⟨v, H2, I3, rw', q2⟩⟩
theorem pc_mnotin (hu : X.A.units + 8 < cLine) (hi : PE X i ty) (ho : PE X o td) (hP : X.prog = P := by rfl) (hw : X.w = w := by rfl) : PC X .NotIn i o (tMNotIn P w ty td) := by
 intro pins s σ H Q I h
 refine thn (hi pins s σ H _ I h) fun iv s1 ⟨y, H1, I1, ry, q1⟩ => thn (ho pins s1 σ H1 _ I1 q1) fun u s2 ⟨x, H2, I2, rx, a, ov, ex, g, q2⟩ => ?_
 subst ex
 obtain rfl : u = Value.ref a := rx
 obtain ⟨t1, g1⟩ := g X pins σ s2 iv hP hw I2 ry
 exact (g1 _ _ hu).2.2 _ fun s3 I3 => ⟨.bl (!ov.isSome), H2, I3, rfl, q2⟩
theorem ps_mput (hu : X.A.units + 8 < cLine) (ho : PE X o td) (hi : PE X i ty) (hv : PE X value tv) (hs : swapsWith value (some (.Subscript o i pos')) pos.line X.env = pure false) (hP : X.prog = P := by rfl) (hw : X.w = w := by rfl) :
  PS X (.Assign [.Subscript o i pos'] value pos) (sMPut P w td ty tv) := by
 intro pins s σ H D I h
 refine wpAny_Assign_Subscript (thn (hv pins s σ H _ I h) fun r s1 ⟨v, H1, I1, rv, q1⟩ => thn (ho pins s1 σ H1 _ I1 q1) fun u s2 ⟨x, H2, I2, rx, q2⟩ => thn (hi pins s2 σ H2 _ I2 q2) fun iv s3 ⟨y, H3, I3, ry, a, H4, ex, g, q3⟩ => ?_) hs
 subst ex
 obtain rfl : u = Value.ref a := rx
 exact g X pins σ s3 iv r hP hw I3 ry rv _ _ _ hu fun s4 I4 => ⟨σ, H4, I4, q3⟩
end
theorem hu8_of {A : Around} {k : Nat} (hr : Room k A) : A.units + 8 < cLine := by have := hr.units; omega
structure DictM (P : Program) (w : World) (α : Type) where
 Rep : α → V → Hp → Prop
 Num : Hp → Addr → List α → Prop
 same : ∀ {x : α} {v : V} {H H' : Hp}, Rep x v H → KTu H H' → Rep x v H'
 keep : ∀ {H H' : Hp} {D : Addr} {xs : List α}, Num H D xs → H' D = H D → KTu H H' → Num H' D xs
 isD : ∀ {H : Hp} {D : Addr} {xs : List α}, Num H D xs → ∃ o, H D = some o ∧ (∀ l, o ≠ .lst l) ∧ (∀ l, o ≠ .tup l)
 there : ∀ {H : Hp} {D : Addr} {xs : List α} {i : Nat} {x : α} {v : V}, Num H D xs → Rep x v H → xs.Nodup → xs[i]? = some x → GetM P w H D v (some (.int ((i : Nat) : Int)))
 miss : ∀ {H : Hp} {D : Addr} {xs : List α} {x : α} {v : V}, Num H D xs → Rep x v H → xs.Nodup → x ∉ xs → GetM P w H D v none
 put : ∀ {H : Hp} {D : Addr} {xs : List α} {x : α} {v : V}, Num H D xs → Rep x v H → xs.Nodup → x ∉ xs → xs.length < sizeLine → ∃ H', PutM P w H D v (.int ((xs.length : Nat) : Int)) H' ∧ KB D H H' ∧ Num H' D (xs ++ [x])
 disp : ∀ {X : Cx} {pos kpos cpos : Pos} {x : Str} {i j : Nat}, X.A.units + 8 < cLine → PE X (.Name x kpos) (tVar i) → PE X (.Constant (.int 0) j cpos) (tC (.int 0)) → X.prog = P → X.w = w → PE X (.Dict [some (.Name x kpos)] [.Constant (.int 0) j cpos] pos)
  (fun σ H Q => ∃ y v, σ[i]? = some (some v) ∧ Rep y v H ∧ ∀ D H', H D = none → Same H H' → Num H' D [y] → Q (.ref D) H')
theorem dM_obj {P : Program} {w : World} {H : Hp} {h : Heap} {a : Addr} {xs : List Th} {vs : List V} (d : dM w a xs vs h) : ObjOk P w H h a (.ext (dM w a xs vs)) :=
 ⟨d, let ⟨_, _, o, _, _, e, _⟩ := d; ⟨o, e⟩, fun _ _ ⟨z, y, o, es, ep, e, t⟩ k => ⟨z, y, o, es, ep, k o e, t⟩⟩
theorem dM_of {X : Cx} {pins : List (Addr × Obj)} {σ : St} {H : Hp} {s : Shared} {a : Addr} {xs : List Th} {vs : List V} (I : Inv X pins σ H s) (e : H a = some (.ext (dM X.w a xs vs))) : dM X.w a xs vs s.heap := (show ObjOk X.prog X.w H s.heap a (.ext (dM X.w a xs vs)) from I.hok a _ e).1
theorem dM_type {w : World} {s : Shared} {a : Addr} {xs : List Th} {vs : List V} (d : dM w a xs vs s.heap) : s.TypeIs (.ref a) "dict" := let ⟨_, _, o, _, _, e, c, _⟩ := d; ⟨o, e, c.1⟩
theorem getM {P : Program} {w : World} {H : Hp} {a : Addr} {xs : List Th} {vs : List V} {k : Th} {v : V} (e : H a = some (.ext (dM w a xs vs))) (st : Stand H xs vs) (nd : xs.Nodup) (hk : ThAt H k v) : GetM P w H a v (numM xs k) := by
 intro X pins σ s u hP hw I ru
 subst hP hw
 have d := dM_of I e
 refine ⟨dM_type d, fun A E hu => ?_⟩
 have hin : A.in1.units + 4 < cLine := by simp only [Around.in1_units]; omega
 have tl : TellsM X.prog X.w A.in1 s a u (fun r => match numM xs k with | none => r = none | some v => ∃ w', r = some w' ∧ RelV v w') := fun E Q q => m_get I hin d st nd hk ru
  (fun h tk => q _ tk (by unfold numM; rw [idx_none h]; rfl)) (fun j t tk hj => q _ tk (by unfold numM; rw [idx_some nd hj]; exact ⟨_, rfl, t, rfl⟩))
 have some' : ∀ r : Option Value, (match numM xs k with | none => r = none | some v => ∃ w', r = some w' ∧ RelV v w') → r.isSome = (numM xs k).isSome := fun r hr => by
  cases hn : numM xs k with
  | none => rw [hn] at hr; rw [show r = none from hr]; rfl
  | some v' => rw [hn] at hr; obtain ⟨w', rfl, _⟩ := hr; rfl
 refine ⟨fun v' Q ev h => ?_, fun Q h => road_in (dM_type d) d.2.1 tl some' fun tk => h _ (I.tok tk), fun Q h => road_notin (dM_type d) d.2.1 tl some' fun tk => h _ (I.tok tk)⟩
 rw [ev] at tl
 exact road_get (dM_type d) tl (fun r hr => let ⟨w', e, _⟩ := hr; ⟨w', e⟩) fun w' tk hr => by
  obtain ⟨w'', e', r'⟩ := hr
  cases e'
  exact h _ _ (I.tok tk) r'
theorem putM {P : Program} {w : World} {H : Hp} {a : Addr} {xs : List Th} {vs : List V} {k : Th} {v : V} (e : H a = some (.ext (dM w a xs vs))) (st : Stand H xs vs) (nd : xs.Nodup) (hk : ThAt H k v) (hno : k ∉ xs) (hz : xs.length < sizeLine) : PutM P w H a v (.int ((xs.length : Nat) : Int)) (upd H a (.ext (dM w a (xs ++ [k]) (vs ++ [v])))) := by
 intro X pins σ s u r hP hw I ru rv A E Q hu h
 subst hP hw
 obtain ⟨t, rfl⟩ := rv
 have d := dM_of I e
 have hin : A.in1.units + 4 < cLine := by simp only [Around.in1_units]; omega
 refine road_set (dM_type d) fun E Q' q => m_set I hin d st nd hk ru hno hz fun h' tk d' hs => q _ (h _ ?_)
 exact d_write I (by rw [e]; exact True.intro) hs (let ⟨_, _, o, _, _, e, _⟩ := d'; ⟨o, e⟩) (dM_obj d')
end L2
set_option maxHeartbeats 8000000
namespace L2
open PySem PySem.Spec PyProof.Rows
theorem dM_empty {P : Program} {w : World} {H : Hp} (h : Heap) (hb : sysModules < h.objs.size) : ObjOk P w H (h.push { cls := .type "dict", data := .dict #[] }) h.objs.size (.ext (dM w h.objs.size [] [])) :=
 dM_obj ⟨Nat.zero_le _, beq_eq_false_iff_ne.mpr (Ne.symm (Nat.ne_of_lt hb)), _, #[], 0, Heap.get?_push_size _ rfl, ⟨rfl, rfl, rfl⟩, rfl, rfl, rfl, fun i e he => by simp at he⟩
theorem stand_nil {H : Hp} : Stand H [] [] := fun i x v h => by simp at h
theorem Stand.keep {H H' : Hp} {xs : List Th} {vs : List V} (h : Stand H xs vs) (k : KTu H H') : Stand H' xs vs := fun i x v h1 h2 => (h i x v h1 h2).keep k
theorem Stand.snoc {H : Hp} {xs : List Th} {vs : List V} {x : Th} {v : V} (h : Stand H xs vs) (l : vs.length = xs.length) (hx : ThAt H x v) : Stand H (xs ++ [x]) (vs ++ [v]) := fun i y u h1 h2 => by
 by_cases hi : i < xs.length
 ·rw [List.getElem?_append_left hi] at h1
  rw [List.getElem?_append_left (by omega)] at h2
  exact h i y u h1 h2
 ·have : i = xs.length := by
   have := (List.getElem?_eq_some_iff.mp h1).1
   rw [List.length_append] at this
   simp at this
   omega
  subst this
  rw [List.getElem?_append_right (Nat.le_refl _), Nat.sub_self] at h1
  rw [← l, List.getElem?_append_right (Nat.le_refl _), Nat.sub_self] at h2
  cases h1
  cases h2
  exact hx
theorem pe_dispM {X : Cx} {pos kpos cpos : Pos} {x : Str} {i j : Nat} (hu : X.A.units + 8 < cLine) (h1 : PE X (.Name x kpos) (tVar i)) (h2 : PE X (.Constant (.int 0) j cpos) (tC (.int 0))) : PE X (.Dict [some (.Name x kpos)] [.Constant (.int 0) j cpos] pos)
  (fun σ H Q => ∃ y v, σ[i]? = some (some v) ∧ ThAt H y v ∧ ∀ D H', H D = none → Same H H' → H' D = some (.ext (dM X.w D [y] [v])) → Q (.ref D) H') := by
 intro pins s σ H Q I q
 obtain ⟨y, v, hv, hy, q⟩ := q
 have hn := I.hok.fresh (Nat.le_refl s.heap.objs.size)
 have I1 := I.laid (a := s.heap.objs.size) (o := .ext (dM X.w s.heap.objs.size [] [])) (h' := s.heap.push { cls := .type "dict", data := .dict #[] }) (t' := s.toks) (fun _ _ q => Heap.get?_push_of_some _ q) (Nat.le_refl _) (dM_empty s.heap I.big)
 have hall : ([some (.Name x kpos)] : List (Option Expr)).all (·.isSome) = true := rfl
 have hl : ([some (.Name x kpos)] : List (Option Expr)).length = ([.Constant (.int 0) j cpos] : List Expr).length := rfl
 rw [arm_eval_Dict, zip_pairTrees [some (.Name x kpos)] [.Constant (.int 0) j cpos] X.env pos hall hl, dictDisplay_pairs _ (fun z => by
  have := pairTrees_length [some (.Name x kpos)] [.Constant (.int 0) j cpos] X.env pos hall hl
  rw [z] at this; cases this) (by rw [pairTrees_length [some (.Name x kpos)] [.Constant (.int 0) j cpos] X.env pos hall hl]; show 1 < 17; decide)]
 refine wpAny_bind (wpAny_standAt (wpAny_bind ?_))
 unfold subDict
 refine wpAny_bind (wpAny_alloc (wpAny_bind (wpAny_holding ?_)))
 rw [if_pos (by rw [pairTrees_length [some (.Name x kpos)] [.Constant (.int 0) j cpos] X.env pos hall hl]; show 1 ≤ 15; decide)]
 have hp : PPs X pos [some (.Name x kpos)] [.Constant (.int 0) j cpos] [(tVar i, tC (.int 0))] := pps_cons h1 h2 pps_nil
 have sn := Same.new (o := .ext (dM X.w s.heap.objs.size [] [])) hn
 refine wpAny_bind (thn (hp pins _ σ _ (fun ps H2 => ps = [(v, .int 0)] ∧ H2 = upd H s.heap.objs.size (.ext (dM X.w s.heap.objs.size [] []))) I1 ⟨v, hv, rfl, rfl⟩) fun ws s2 ⟨ps, H2, I2, rel, q2⟩ => ?_)
 obtain ⟨rfl, rfl⟩ := q2
 cases rel with
 | @cons p0 w0 ps' ws' r0 rt =>
  cases rt
  obtain ⟨kv, vv⟩ := w0
  obtain ⟨r1, t, rfl⟩ := r0
  have e : (upd H s.heap.objs.size (.ext (dM X.w s.heap.objs.size [] []))) s.heap.objs.size = some (.ext (dM X.w s.heap.objs.size [] [])) := upd_same
  have d := dM_of I2 e
  have hy2 := hy.keep sn.kt
  refine wpAny_holding (wpAny_bind ?_)
  rw [List.forIn_cons]
  refine wpAny_bind (wpAny_bind (m_set (xs := []) (vs := []) (t := t) I2 (by omega) d stand_nil List.nodup_nil hy2 r1 (fun z => by cases z) (by show 0 < sizeLine; decide) fun h' tk d' hs => wpAny_pure ?_))
  dsimp only
  rw [List.forIn_nil]
  refine wpAny_pure (wpAny_pure (wpAny_pure (wpAny_pure ?_)))
  refine ⟨.ref s.heap.objs.size, _, d_write I2 (by rw [e]; exact True.intro) hs (let ⟨_, _, o, _, _, e, _⟩ := d'; ⟨o, e⟩) (dM_obj d'), rfl, q s.heap.objs.size _ hn (sn.kbn hn KB.write) ?_⟩
  rw [upd_same]; rfl
def repM (P : Program) (w : World) : DictM P w Th where
 Rep := fun x v H => ThAt H x v
 Num := fun H D xs => ∃ vs, H D = some (.ext (dM w D xs vs)) ∧ Stand H xs vs ∧ vs.length = xs.length
 same := fun h k => h.keep k
 keep := fun ⟨vs, h, st, l⟩ e k => ⟨vs, e.trans h, st.keep k, l⟩
 isD := fun ⟨vs, h, _⟩ => ⟨_, h, (fun l z => by cases z), (fun l z => by cases z)⟩
 there := fun {H D xs i x v} ⟨vs, h, st, l⟩ r nd e => by
  have := getM (P := P) h st nd r
  rwa [show numM xs x = some (.int ((i : Nat) : Int)) by unfold numM; rw [idx_some nd e]; rfl] at this
 miss := fun {H D xs x v} ⟨vs, h, st, l⟩ r nd n => by
  have := getM (P := P) h st nd r
  rwa [show numM xs x = none by unfold numM; rw [idx_none n]; rfl] at this
 put := fun {H D xs x v} ⟨vs, h, st, l⟩ r nd n hl => by
  have kt : KTu H (upd H D (.ext (dM w D (xs ++ [x]) (vs ++ [v])))) := fun b ys z => by rw [upd_ne (ne_of z h (fun y => nomatch y))]; exact z
  exact ⟨_, putM h st nd r n hl, KB.write, vs ++ [v], upd_same, (st.keep kt).snoc l (r.keep kt), by rw [List.length_append, List.length_append, l]; rfl⟩
 disp := fun {X pos kpos cpos x i j} hu h1 h2 hP hw pins s σ H Q I q => by
  subst hP hw
  obtain ⟨y, v, hv, hr, q⟩ := q
  exact pe_dispM hu h1 h2 pins s σ H Q I ⟨y, v, hv, hr, fun D H' hD s' e => q D H' hD s' ⟨[v], e, fun i x u e1 e2 => by
   match i, e1, e2 with
   | 0, e1, e2 => cases e1; cases e2; exact hr.keep s'.kt, rfl⟩⟩
theorem paired_back {α β : Type} {R : α → β → Prop} : ∀ {l : List α} {m : List β} {i : Nat} {x : β}, Paired R l m → m[i]? = some x → ∃ y, l[i]? = some y ∧ R y x
 | _, _, _, _, .nil, e => by simp at e
 | _, _, 0, _, .cons r _, e => by simp at e; subst e; exact ⟨_, rfl, r⟩
 | _, _, i + 1, _, .cons _ t, e => by
  simp only [List.getElem?_cons_succ] at e ⊢
  exact paired_back t e
theorem paired_len {α β : Type} {R : α → β → Prop} : ∀ {l : List α} {m : List β}, Paired R l m → l.length = m.length
 | _, _, .nil => rfl
 | _, _, .cons _ t => by rw [List.length_cons, List.length_cons, paired_len t]
section
variable {X : Cx}
def rLIndex (K : PySem.W.Frag) : V → List V → Hp → VK → Prop := fun x vs H Q => ∃ (p : Addr) (ws : List V) (ts : List Th) (t : Th) (v : V) (j : Nat), x = .ref p ∧ vs = [v] ∧ SqL K H p ws ∧ Paired (fun v x => ThAt H x v) ws ts ∧ ThAt H t v ∧ ts[j]? = some t ∧ (∀ i, i < j → ts[i]? ≠ some t) ∧ Q (.int (j : Nat)) H
theorem mt_lindex (K : PySem.W.Frag) (hu : X.A.units + 8 < cLine) (hK : X.K = K := by rfl) : MtM X "list.index" (rLIndex K) := by
 subst hK
 intro pins s σ H x vs v us Q I rx rv h
 obtain ⟨p, ws, ts, t, tv, j, rfl, rfl, hq, ht, tt, hj, hlt, q⟩ := h
 cases rx
 obtain ⟨u, rfl, ru⟩ := rv.one
 obtain ⟨its, r, ⟨o, n, e, hc, hd, hs⟩, hz⟩ := I.list hq
 obtain ⟨ocls, odict, odata, oslots⟩ := o
 simp only at hc hd hs
 subst hc hs
 have l1 := Vals.length r
 have l2 := paired_len ht
 have hj' := (List.getElem?_eq_some_iff.mp hj).1
 rw [sizeLine_eq] at hz
 have at' : ∀ i (hi : i < its.toArray.size), ∃ (y : Th) (yv : V), ts[i]? = some y ∧ ThAt H y yv ∧ RelV yv its.toArray[i] := fun i hi => by
  have hi' : i < its.length := by simpa using hi
  obtain ⟨y, hy⟩ : ∃ y, ts[i]? = some y := ⟨_, List.getElem?_eq_getElem (by omega)⟩
  obtain ⟨yv, hv, ay⟩ := paired_back ht hy
  obtain ⟨z, hz', rz⟩ := Vals.get r hv
  have := (List.getElem?_eq_some_iff.mp hz').2
  exact ⟨y, yv, hy, ay, by rw [List.getElem_toArray, this]; exact rz⟩
 let ee : Value → Bool := fun y => @decide (∃ yv, ThAt H t yv ∧ RelV yv y) (Classical.propDecidable _)
 have in1 : X.A.in1.units ≤ X.A.units + 1 := by simp [Around.in1_units]
 refine call_meets F.slot_list_index ⟨_, e, rfl⟩ F.entry_list_index (F.args_list_index_2 _ _) (SeqAt.list_indexAt p its.toArray n odict oslots u ee j (by simp; omega) (by omega) ?_ (fun m hm hlt' => ?_)) ⟨by subst hd; exact e, fun y hy => ?_, ?_⟩
 ·obtain ⟨y, yv, hy, ay, ry⟩ := at' j (by simp; omega)
  have : y = t := Option.some.inj (hy.symm.trans hj)
  subst this
  exact @decide_eq_true _ (Classical.propDecidable _) ⟨yv, ay, ry⟩
 ·obtain ⟨y, yv, hy, ay, ry⟩ := at' m hm
  refine @decide_eq_false _ (Classical.propDecidable _) fun ⟨yv', ay', ry'⟩ => ?_
  have := relV_inj ry ry'
  subst this
  exact hlt m hlt' (by rw [hy, th_inj ay ay'])
 ·obtain ⟨m, hm, rfl⟩ := Array.mem_iff_getElem.mp hy
  obtain ⟨y, yv, hy, ay, ry⟩ := at' m hm
  have h := th_eq I (A := X.A.in1) (by omega) ay tt ry ru
  have : ee its.toArray[m] = decide (y = t) := by
   by_cases hyt : y = t
   ·subst hyt
    rw [decide_eq_true rfl]
    exact @decide_eq_true _ (Classical.propDecidable _) ⟨yv, ay, ry⟩
   ·rw [decide_eq_false hyt]
    refine @decide_eq_false _ (Classical.propDecidable _) fun ⟨yv', ay', ry'⟩ => ?_
    have := relV_inj ry ry'
    subst this
    exact hyt (th_inj ay ay')
  rw [this]
  exact h
 ·exact ⟨.int (j : Nat), H, I.tok _, ⟨_, rfl⟩, q⟩
end
section
variable {P : Program} {w : World} {A : Around} {E : Value → Shared → Prop}
theorem idx_loopB {its : List Value} {ss : List Bool} {t : Bool} {j : Nat} (r : Vals (ss.map V.bl) its) (hj : ss[j]? = some t) (hlt : ∀ i, i < j → ss[i]? ≠ some t) {s : Shared} {Q : Option PySem.Fin × Unit → Shared → Prop}
  (hQ : Q (some (Fin.done (Flow.ret (.int (j : Nat) s.toks))), ()) { s with toks := s.toks + 1 }) :
  ∀ k i, i + k = its.length → i ≤ j → wpAny (model P w) A (forIn (List.range' i k) (none, ()) (fun (i : Nat) (__s : Option PySem.Fin × Unit) =>
   match its.toArray[i]? with
   | some y => do
    let __do_lift ← eqBool y (Value.bool t)
    if __do_lift = true then do
      let __do_lift ← retInt (i : Int)
      pure (ForInStep.done (some __do_lift, ()))
     else pure (ForInStep.yield (none, ()))
   | x => pure (ForInStep.yield (none, ())))) Q E s
 | 0, i, hk, hi => by
  have h1 := (List.getElem?_eq_some_iff.mp hj).1
  have h2 := Vals.length r
  rw [List.length_map] at h2
  omega
 | k + 1, i, hk, hi => by
  rw [List.range'_succ, List.forIn_cons]
  have h2 := Vals.length r
  rw [List.length_map] at h2
  obtain ⟨z, hz⟩ : ∃ z, ss[i]? = some z := ⟨_, List.getElem?_eq_getElem (by omega)⟩
  obtain ⟨y, hy, ry⟩ := Vals.get r (show (ss.map V.bl)[i]? = some (.bl z) by rw [List.getElem?_map, hz]; rfl)
  cases ry
  have hy' : its.toArray[i]? = some (Value.bool z) := by rw [List.getElem?_toArray]; exact hy
  refine wpAny_bind ?_
  rw [hy']
  refine wpAny_bind (SeqAt.EqAt.bool_bool z t P w E _ ?_)
  by_cases e : i = j
  ·subst e
   have : z = t := Option.some.inj (hz.symm.trans hj)
   subst this
   rw [show (z == z) = true from beq_self_eq_true z]
   refine wpAny_bind ?_
   unfold retInt
   refine wpAny_bind (wpAny_mkInt ?_)
   exact wpAny_pure (wpAny_pure (wpAny_pure hQ))
  ·have hne : z ≠ t := fun q => hlt i (by omega) (by rw [hz, q])
   rw [show (z == t) = false from beq_false_of_ne hne]
   refine wpAny_pure ?_
   exact idx_loopB r hj hlt hQ k (i + 1) (by omega) (by omega)
end
section
variable {X : Cx}
def rTIndexB (K : PySem.W.Frag) : V → List V → Hp → VK → Prop := fun x vs H Q => ∃ (p : Addr) (ss : List Bool) (t : Bool) (j : Nat), x = .ref p ∧ vs = [.bl t] ∧ SqT K H p (ss.map V.bl) ∧ ss[j]? = some t ∧ (∀ i, i < j → ss[i]? ≠ some t) ∧ Q (.int (j : Nat)) H
theorem mt_tindexB (K : PySem.W.Frag) (hK : X.K = K := by rfl) : MtM X "tuple.index" (rTIndexB K) := by
 subst hK
 intro pins s σ H x vs v us Q I rx rv h
 obtain ⟨p, ss, t, j, rfl, rfl, hq, hj, hlt, q⟩ := h
 cases rx
 obtain ⟨u, rfl, ru⟩ := rv.one
 cases ru
 obtain ⟨its, r, pl, hz⟩ := I.tuple hq
 obtain ⟨o, ho, hcl, n, hd⟩ := pl
 refine wpAny_call_entry F.slot_tuple_index ⟨o, ho, hcl⟩ F.entry_tuple_index ?_ (F.args_tuple_index_2 _ _)
 obtain ⟨ocls, odict, odata, oslots⟩ := o
 simp only at hcl hd
 subst hcl hd
 unfold Builtin.«tuple.index» selfAndSome noKeywords Builtin.Tuple.tupleItemsOf
 simp only [Std.Legacy.Range.forIn_eq_forIn_range']
 wp_walk
 have hsz : [:min its.toArray.size its.toArray.size].size = its.length := by simp [Std.Legacy.Range.size]
 rw [hsz]
 refine idx_loopB (P := X.prog) (w := X.w) (A := X.A.in1) (E := X.xe) (s := s) r hj hlt ?_ its.length 0 (by omega) (Nat.zero_le _)
 exact wpAny_pure ⟨_, rfl, .int (j : Nat), H, I.tok _, ⟨_, rfl⟩, q⟩
end
section
variable {X : Cx} {k : Nat} {f : Addr} {fd : FuncData} {ps : List Str} {sp : Sp} {pins : List (Addr × Obj)} {σ : St} {H : Hp} {s : Shared} {D : List Addr}
theorem run_fnWD {ds : List Value} {dvs : List V} {Q : VK} {us : List Value} {vs : List V} (I : Inv X pins σ H s) (hfn : ∀ x, X.fn x = true) (hD : ∀ a ∈ D, ∃ φ, H a = some (.ext φ)) (F : FnOk X.prog X.w X.K X.mg (wide s.heap (untr D H) (frs X.stack)) CX0 k f fd ps sp) (hr : Room k X.A)
  (hb : Binds X.K fd ps ds) (hd : Vals dvs ds) (r : Vals vs us) (h : sp (vs ++ dvs) (untr D H) (fun v H2 => (∀ b ∈ D, H2 b = none) → Q v (retr D H H2)) E0) : wpAny (model X.prog X.w) X.A (call (.ref f) us) (EP X pins σ Q) X.xe s := by
 have W := wide_of I hfn hD
 have r2 : Vals (vs ++ dvs) (us ++ ds) := r.append hd
 have hl : (us ++ ds).length = ps.length := by rw [← r2.length]; exact F.len _ _ _ _ h
 have keepU : ∀ b u, H b = some u → (∀ φ, u ≠ .ext φ) → untr D H b = some u := fun b u e ne => by
  rw [untr_out fun z => ?_]; exact e
  obtain ⟨φ, q⟩ := hD b z
  rw [e] at q; cases q; exact ne φ rfl
 have uU : ∀ b u, untr D H b = some u → b ∉ D ∧ H b = some u := fun b u e => by
  by_cases hb : b ∈ D
  ·rw [untr_in hb] at e; cases e
  ·rw [untr_out hb] at e; exact ⟨hb, e⟩
 have hokU : HOk X.prog X.w (untr D H) s.heap := fun b u e => (I.hok b u (uU b u e).2).stay (fun _ _ _ q => q) (fun d q => keepU d _ q fun φ z => nomatch z) fun d xs q => keepU d _ q fun φ z => nomatch z
 have nU : ∀ b, H b = none → untr D H b = none := fun b n => by
  by_cases hb : b ∈ D
  ·exact untr_in hb
  ·rw [untr_out hb]; exact n
 have e0 : Env0 X.prog X.w X.K X.mg (wide s.heap (untr D H) (frs X.stack)) X.A X.stack s (untr D H) :=
  ⟨I.ok.frames, W.mod, fun b o e => of_wide e, Nat.le_of_eq (wide_size _ _ _), funFrames_base I.stack fun b hb => wide_none hb, fun b hb => nU b (I.stkFree b hb), hokU, I.bare⟩
 refine wpAny_call (codeAny_mono (F.run X.A X.stack s (untr D H) ⟨us, []⟩ (us ++ ds) (vs ++ dvs) _ _ hr e0 (hb s us I.kIn hl) r2 h) fun r s' hq => ?_)
 cases r with
 | error e => exact hq.elim
 | ok fl =>
  cases fl with
  | next => exact False.elim hq
  | brk => exact False.elim hq
  | cont => exact False.elim hq
  | ret u =>
   obtain ⟨v, H2, os, bare, un, hok, r, q⟩ := hq
   have inD : ∀ b, b ∈ D → ∃ φ o, H b = some (.ext φ) ∧ s.heap.get? b = some o ∧ s'.heap.get? b = some o ∧ H2 b = none := fun b hb => by
    obtain ⟨φ, e⟩ := hD b hb
    obtain ⟨p, ⟨o, ho⟩, st⟩ := I.hok b _ e
    refine ⟨φ, o, e, ho, un.keep b o ho (untr_in hb) (fun z => ?_) (by simp), un.free b o ho (untr_in hb) (by simp)⟩
    rw [I.stkFree b z] at e; cases e
   have nd2 : ∀ b u, H2 b = some u → b ∉ D := fun b u e z => by obtain ⟨_, _, _, _, _, n⟩ := inD b z; rw [n] at e; cases e
   have hokR : HOk X.prog X.w (retr D H H2) s'.heap := fun b u e => by
    by_cases hb : b ∈ D
    ·rw [retr_in hb] at e
     obtain ⟨φ, o, e1, ho, ho', _⟩ := inD b hb
     rw [e1] at e; cases e
     obtain ⟨p, _, st⟩ := I.hok b _ e1
     exact ⟨st _ _ p fun o2 e2 => by rw [ho] at e2; cases e2; exact ho', ⟨o, ho'⟩, st⟩
    ·rw [retr_out hb] at e
     exact (hok b u e).stay (fun _ _ _ q => q) (fun d q => by rw [retr_out (nd2 d _ q)]; exact q) fun d xs q => by rw [retr_out (nd2 d _ q)]; exact q
   have unR : Un (frs X.stack) [] H (retr D H H2) s.heap s'.heap := by
    have nD : ∀ b, H b = none → b ∉ D := fun b n z => by obtain ⟨φ, e⟩ := hD b z; rw [n] at e; cases e
    refine ⟨fun b o e n h1 h2 => un.keep b o e (nU b n) h1 h2, fun b o e n h1 h2 => un.slot b o e (nU b n) h1 h2, fun b o e n h2 => by rw [retr_out (nD b n)]; exact un.free b o e (nU b n) h2, un.there, fun b xs e => ?_, fun b o u e => ?_, fun b qs e => ?_⟩
    ·have e1 := keepU b _ e fun φ z => nomatch z
     rw [retr_out (uU b _ e1).1]; exact un.tups b xs e1
    ·have e1 := keepU b _ e fun φ z => nomatch z
     rw [retr_out (uU b _ e1).1]; exact un.frzs b o u e1
    ·have e1 := keepU b _ e fun φ z => nomatch z
     rw [retr_out (uU b _ e1).1]; exact un.tbls b qs e1
   exact I.after ⟨v, _, os, bare, unR, hokR, r, q fun b hb => by obtain ⟨_, _, _, _, _, n⟩ := inD b hb; exact n⟩
end
section
variable {X : Cx} {x : Str} {p pos : Pos} {e : Expr} {es : List Expr} {t : TA} {k : Nat} {f : Addr} {fd : FuncData} {ps : List Str} {ds : List Value} {dvs : List V}
def tCallWD (X : Cx) (k : Nat) (f : Addr) (fd : FuncData) (ps : List Str) (dvs : List V) (t : TA) : TE := fun σ H Q => t σ H fun vs H1 => ∃ D : List Addr, (∀ a ∈ D, ∃ φ, H1 a = some (.ext φ)) ∧
 ∀ base' : Heap, Wide X σ D H1 base' → ∃ sp : Sp, FnOk X.prog X.w X.K X.mg base' CX0 k f fd ps sp ∧ sp (vs ++ dvs) (untr D H1) (fun v H2 => (∀ b ∈ D, H2 b = none) → Q v (retr D H1 H2)) E0
theorem pe_callWD (hfn : ∀ x, X.fn x = true) (hr : Room k X.A) (hg : Gl X x) (hm : X.mg x = some (.ref f)) (hk : PySem.W.keepIn X.K (.ref f) = true) (hb : Binds X.K fd ps ds) (hd : Vals dvs ds)
  (ha : PA X (e :: es) t) (hdb : (x == ("__debug__" : Str)) = false := by decide) (he : starEach (e :: es) X.env = (false, eval e X.env) :: starEach es X.env := by rfl) (hpl : (backTo pos (starEach es X.env)).any (·.1) = false := by rfl) :
  PE X (.Call (.Name x p) (e :: es) [] pos) (tCallWD X k f fd ps dvs t) := by
 intro pins s σ H Q I h
 refine wpAny_Call_Name_kw (ld_glob I hg hm ?_ hdb)
 refine PySem.W.callWith_K (h₀ := X.base) I.ok.mod.kin hk (thn (ha pos pins s σ H _ I h) fun us s1 ⟨vs, H1, I1, r, D, hD, q⟩ => ⟨I1.kIn, ?_⟩) he hpl
 obtain ⟨sp, F, hsp⟩ := q _ (wide_of I1 hfn hD)
 exact run_fnWD I1 hfn hD F hr hb hd r hsp
end
section
variable {X : Cx} {scope : Scope} {own frn : List Str} {frj : List Nat} {elt tg iter : Expr} {ifs : List Expr} {pos : Pos} {g : TG} {tt : TT} {te : TE}
theorem comp_blockW {pins : List (Addr × Obj)} {σ : St} {H : Hp} {s : Shared} {J : It} {fp : List Addr} {it : Addr} {tn : Nat → Heap → Prop} {R : Addr → Hp → Prop} {RR : Value → Addr → Result → Shared → Prop} {E : Value → Shared → Prop}
  (sc : CompScope X scope own frn frj) (hc : X.calm = true)
  (hg : ∀ C s₃ H₃ fp, PG (cxComp X own frn scope C s₃ H₃ fp) tg g) (ht : ∀ C s₃ H₃ fp, PIfs (cxComp X own frn scope C s₃ H₃ fp) ifs tt) (he : ∀ C s₃ H₃ fp pins, Inv X pins σ H₃ s₃ → (∀ b ∈ fp, FpOk X pins H₃ b) → PE (cxComp X own frn scope C s₃ H₃ fp) elt te)
  (I : Inv X pins σ H s) (T : Turn X.prog X.w X.K tg J fp it tn) (st : tn 0 s.heap) (hfp : ∀ b ∈ fp, FpOk X pins H b)
  (h : ∀ D, H D = none → cLoop J g tt te D (startC own frj σ) (upd H D (.lst [])) (R D))
  (hRR : ∀ D C H' s' m, Inv X pins σ H' s' → s.heap.objs.size ≤ C → s'.heap.Ns C m → H' C = none → R D H' → RR (.ref D) C (.ok .next) s') :
  wpAny (model X.prog X.w) X.A (newList []) (fun acc s₃ => wpAny (model X.prog X.w) X.A (newFunctionEnv scope X.env.globals (clOf X.env scope.names []) [] X.env.qual none .none (some X.env)) (fun cenv s₄ =>
   codeAny (model X.prog X.w) X.A (.compStart (.ListComp elt [⟨tg, iter, ifs, 0⟩] scope pos) 0 (.ref it) acc { cenv with scope := relabel scope X.env }) (RR acc cenv.locals) s₄) E s₃) E s := by
 refine wpAny_newObj_type (wpAny_newFunctionEnv sc.cell (by intro y hy; simp at hy) (fun h₁ hns₁ hsb₁ => ?_) sc.kind)
 dsimp only at hns₁ hsb₁ ⊢
 have hD := I.fresh
 have I3 : Inv X pins σ (upd H s.heap.objs.size (.lst [])) { s with heap := s.heap.push { cls := .type "list", dict := none, data := .seq ([] : List Value).toArray } } := I.lnew (its := []) (t' := s.toks) .nil (Nat.zero_le _)
 have hsz : (s.heap.push { cls := .type "list", dict := none, data := .seq ([] : List Value).toArray }).objs.size = s.heap.objs.size + 1 := Heap.size_push ..
 generalize hs3 : ({ s with heap := s.heap.push { cls := .type "list", dict := none, data := .seq ([] : List Value).toArray } } : Shared) = s₃ at I3
 have hh3 : s.heap.push { cls := .type "list", dict := none, data := .seq ([] : List Value).toArray } = s₃.heap := by rw [← hs3]
 rw [hh3] at hns₁ hsb₁ hsz ⊢
 have hfl : ∀ b ∈ fp, b < s.heap.objs.size := fun b hb => by
  obtain ⟨o, e, _⟩ := T.obj 0 _ st b hb
  exact Heap.lt_size e
 have hfp3 : ∀ b ∈ fp, FpOk X pins (upd H s.heap.objs.size (.lst [])) b := fun b hb => by
  obtain ⟨f0, f⟩ := hfp b hb
  exact ⟨by rw [upd_ne (Nat.ne_of_lt (hfl b hb))]; exact f0, f⟩
 have hfl3 : ∀ b ∈ fp, b < s₃.heap.objs.size := fun b hb => by rw [hsz]; exact Nat.lt_succ_of_lt (hfl b hb)
 have k4 : ∀ b o, s₃.heap.get? b = some o → h₁.get? b = some o := fun b o e => (hsb₁.2 b (Nat.ne_of_lt (Heap.lt_size e))).trans (Heap.get?_push_of_some _ e)
 have k3 : ∀ b o, s.heap.get? b = some o → s₃.heap.get? b = some o := fun b o e => by rw [← hh3]; exact Heap.get?_push_of_some _ e
 have hnone : (fun x : Str => List.lookup x ([] : List (Str × Value)).reverse) = fun _ => none := by funext x; rfl
 have hns₁' : h₁.Ns s₃.heap.objs.size fun _ => none := by
  have q := hns₁
  first
   | exact q
   | (rw [hnone] at q; exact q)
 have I4 := I3.block (own := own) (tk := s.toks + ([] : List (Str × Value)).length) sc hfp3 hfl3 k4 hns₁'
 have st4 : tn 0 h₁ := T.keep _ _ _ st fun b hb o e => k4 b o (k3 b o e)
 generalize hX : cxComp X own frn scope s₃.heap.objs.size s₃ (upd H s.heap.objs.size (.lst [])) fp = X' at I4
 have hXp : X'.prog = X.prog := by rw [← hX]; rfl
 have hXw : X'.w = X.w := by rw [← hX]; rfl
 have hXK : X'.K = X.K := by rw [← hX]; rfl
 have hXA : X'.A = X.A := by rw [← hX]; rfl
 have hXc : X'.calm = true := by rw [← hX]; exact hc
 have hXx : X'.xe = fun _ _ => False := by rw [← hX]; rfl
 have hXe : X'.env = compEnvC scope (clOf X.env scope.names []) s₃.heap.objs.size X.env := by rw [← hX]; rfl
 have hg' : PG X' tg g := by rw [← hX]; exact hg _ _ _ _
 have ht' : PIfs X' ifs tt := by rw [← hX]; exact ht _ _ _ _
 have he' : PE X' elt te := by rw [← hX]; exact he _ _ _ _ _ I3 hfp3
 have ofX : ∀ {H' : Hp} {s' : Shared} {σ' : St}, Inv X' [] σ' H' s' → Inv X pins σ H' s' ∧ (∃ m, s'.heap.Ns s₃.heap.objs.size m) ∧ H' s₃.heap.objs.size = none := by
  intro H' s' σ' I'
  subst hX
  refine ⟨I3.call' (ch := fp) I'.os I'.base I'.hok I'.bare fun b hb => ?_, let ⟨m, hn, _⟩ := I'.loc; ⟨m, hn⟩, I'.free⟩
  obtain ⟨f0, f1, f2, f3, f4, f5⟩ := hfp3 b hb
  exact ⟨f3, f1, f4, f5⟩
 have stat : ∀ {H' : Hp}, (∀ b ∈ fp, H' b = none) → ∀ b ∈ fp, FpOk X' [] H' b := by
  intro H' hn b hb
  subst hX
  obtain ⟨a1, a2⟩ := I4.ok.exf b hb
  exact ⟨hn b hb, a1, I4.ok.exfs b hb, .inl hb, a2, fun p hp => by cases hp⟩
 obtain ⟨W, ⟨m0, w0⟩, turn⟩ := h s.heap.objs.size hD
 have loop : codeAny (model X.prog X.w) X.A (.compLoop (.ListComp elt [⟨tg, iter, ifs, 0⟩] scope pos) 0 (.ref it) (.ref s.heap.objs.size) X'.env) (RR (.ref s.heap.objs.size) s₃.heap.objs.size)
   { s₃ with heap := h₁, toks := s.toks + ([] : List (Str × Value)).length } := by
  refine codeAny_compLoop_any (fun n s' => ∃ i σ' H', Inv X' [] σ' H' s' ∧ tn i s'.heap ∧ (∀ b ∈ fp, H' b = none) ∧ W i n σ' H') ?_ m0 ⟨0, _, _, I4, st4, fun b hb => (hfp3 b hb).1, w0⟩
  rintro n s5 ⟨i, σ5, H5, I5, st5, fr5, w5⟩
  rw [← hXp, ← hXw, ← hXA]
  have hxe : ∀ {α : Type} {t : Sem α} {Q : α → Shared → Prop} {s : Shared}, wpAny (model X'.prog X'.w) X'.A t Q X'.xe s → wpAny (model X'.prog X'.w) X'.A t Q (fun _ _ => False) s := fun h => by rw [hXx] at h; exact h
  have T' : Turn X'.prog X'.w X'.K tg J fp it tn := by rw [hXp, hXw, hXK]; exact T
  rcases turn i n σ5 H5 w5 with ⟨stop, q⟩ | ⟨go, N, hN, step⟩
  ·refine thn (T'.done X' rfl rfl rfl hXc i [] s5 σ5 H5 _ I5 (stat fr5) st5 stop) fun r s6 ⟨hr, I6⟩ => ?_
   subst hr
   obtain ⟨J1, ⟨m, J2⟩, J3⟩ := ofX I6
   exact hRR _ _ H5 s6 m J1 (by rw [hsz]; exact Nat.le_succ _) J2 J3 q
  ·refine thn (T'.item X' rfl rfl rfl hXc i [] s5 σ5 H5 _ I5 (stat fr5) st5 go) fun r s6 ⟨u, hr, h6⟩ => ?_
   subst hr
   refine thn h6 fun _ s7 ⟨x, H7, I7, r7, y7, st7, fr7⟩ => ?_
   have I7' := I7.pinned (stat fr7) (T'.obj _ _ st7)
   have again : ∀ {s9 : Shared} {σ9 : St} {H9 : Hp}, Inv X' ([] ++ pinsAt fp s7.heap) σ9 H9 s9 → N σ9 H9 → ∃ m, m < n ∧ ∃ i σ' H', Inv X' [] σ' H' s9 ∧ tn i s9.heap ∧ (∀ b ∈ fp, H' b = none) ∧ W i m σ' H' := fun {s9 σ9 H9} I9 n9 => by
    obtain ⟨m', hm, w9⟩ := hN σ9 H9 n9
    refine ⟨m', hm, i + 1, σ9, H9, I9.unpinned, T'.keep _ _ _ st7 fun b hb o e => (I9.pin (b, o) (List.mem_append_right _ (List.mem_append_right _ (mem_pinsAt hb e)))).1, fun b hb => ?_, w9⟩
    obtain ⟨o, e, d⟩ := T'.obj _ _ st7 b hb
    exact (I9.pin (b, o) (List.mem_append_right _ (List.mem_append_right _ (mem_pinsAt hb e)))).2.1
   refine thn (hxe (hg' _ s7 σ5 H7 x u _ I7' r7 (step x H7 y7))) fun _ s8 ⟨σ8, H8, I8, q8⟩ => ?_
   refine thn (hxe (ht' _ s8 σ8 H8 _ I8 q8)) fun b s9 ⟨H9, I9, q9⟩ => ?_
   cases b with
   | false => exact again I9 (by simpa using q9)
   | true =>
    rw [if_pos rfl] at q9
    refine thn (hxe (he' _ s9 σ8 H9 _ I9 q9)) fun y s10 ⟨v, H10, I10, r10, q10⟩ => ?_
    obtain ⟨ys, e10, z10, n10⟩ := q10
    refine thn (hxe (mt_append _ s10 σ8 H10 (.ref s.heap.objs.size) [v] (.ref s.heap.objs.size) [y] (fun _ H' => H' = upd H10 s.heap.objs.size (.lst (ys ++ [v]))) I10 rfl (.cons r10 .nil) ⟨_, ys, v, rfl, rfl, e10, z10, rfl⟩)) fun u s11 ⟨v', H11, I11, _, e11⟩ => ?_
    subst e11
    exact again I11 n10
 rw [hXe] at loop
 have e4 : ({ s with heap := h₁, toks := s.toks + ([] : List (Str × Value)).length } : Shared) = { s₃ with heap := h₁, toks := s.toks + ([] : List (Str × Value)).length } := by rw [← hs3]
 rw [e4]
 exact codeAny_compStart_list loop (T.self _ 0 _ _ _ st4 loop)
end
def tCompW (own : List Str) (frj : List Nat) (wi : TI) (g : TG) (tt : TT) (te : St → TE) : TE := fun σ H Q => wi σ H fun J H1 => ∀ D, H1 D = none → cLoop J g tt (te σ) D (startC own frj σ) (upd H1 D (.lst [])) fun H' => Q (.ref D) H'
section
variable {X : Cx} {scope : Scope} {own frn : List Str} {frj : List Nat} {elt tg iter : Expr} {ifs : List Expr} {pos : Pos} {wi : TI} {g : TG} {tt : TT}
theorem pe_compW {te : St → TE} (sc : CompScope X scope own frn frj) (hc : X.calm = true) (hi : PI X tg iter wi)
  (hg : ∀ C s₃ H₃ fp, PG (cxComp X own frn scope C s₃ H₃ fp) tg g) (ht : ∀ C s₃ H₃ fp, PIfs (cxComp X own frn scope C s₃ H₃ fp) ifs tt) (he : ∀ C s₃ H₃ fp pins σ, Inv X pins σ H₃ s₃ → (∀ b ∈ fp, FpOk X pins H₃ b) → PE (cxComp X own frn scope C s₃ H₃ fp) elt (te σ))
  (hs : ∀ x, foldedSetIterable iter X.env x = pure x := by intro _; rfl) : PE X (.ListComp elt [⟨tg, iter, ifs, 0⟩] scope pos) (tCompW own frj wi g tt te) := by
 intro pins s σ H Q I h
 rw [eval_ListComp]
 refine wpAny_comprehension_free (use := none) rfl hs (closureFor_clOf (sc.cells I.ok)) sc.kind sc.names (thn (hi pins s σ H _ I h) fun v s1 h1 => thn h1 fun itv s2 h2 => ?_)
 obtain ⟨it, fp, tn, J, H2, e, I2, T, st2, f2, q⟩ := h2
 subst e
 refine comp_blockW (RR := fun acc C => compPost (model X.prog X.w) X.A X.xe none (EP X pins σ Q) acc C) (R := fun D H' => Q (.ref D) H') sc hc hg ht (fun C s₃ H₃ fp pins J f => he C s₃ H₃ fp pins σ J f) I2 T st2 f2 q ?_
 intro D C H' s' m I' hC hn hf hq
 refine ⟨m, hn, fun h' sb => ?_⟩
 obtain ⟨f0, f1, f2, f3, f4, f5⟩ := I2.fpOk (H' := H') hC hf
 exact ⟨.ref D, H', I'.turned (t' := s'.toks) (it := C) (fun b o hb e => (sb.2 b hb).trans e) f0 f1 f3 f4 f5, rfl, hq⟩
end
section
variable {X : Cx} {k : Nat} {f : Addr} {fd : FuncData} {ps : List Str} {sp : Sp} {pins : List (Addr × Obj)} {σ : St} {H : Hp} {s : Shared} {D : List Addr}
theorem run_fnM {Q : VK} {us : List Value} {vs : List V} (I : Inv X pins σ H s) (hmd : Mod X.K X.mg (wide s.heap (untr D H) (frs X.stack))) (hD : ∀ a ∈ D, ∃ φ, H a = some (.ext φ)) (F : FnOk X.prog X.w X.K X.mg (wide s.heap (untr D H) (frs X.stack)) CX0 k f fd ps sp) (hr : Room k X.A)
  (hb : ∀ us : List Value, us.length = ps.length → bindArgs fd ⟨us, []⟩ = pure (ps.zip us)) (r : Vals vs us) (h : sp vs (untr D H) (fun v H2 => (∀ b ∈ D, H2 b = none) → Q v (retr D H H2)) E0) : wpAny (model X.prog X.w) X.A (call (.ref f) us) (EP X pins σ Q) X.xe s := by
 have hl : (us ++ []).length = ps.length := by rw [List.append_nil, ← r.length]; exact F.len _ _ _ _ h
 have keepU : ∀ b u, H b = some u → (∀ φ, u ≠ .ext φ) → untr D H b = some u := fun b u e ne => by
  rw [untr_out fun z => ?_]; exact e
  obtain ⟨φ, q⟩ := hD b z
  rw [e] at q; cases q; exact ne φ rfl
 have uU : ∀ b u, untr D H b = some u → b ∉ D ∧ H b = some u := fun b u e => by
  by_cases hb : b ∈ D
  ·rw [untr_in hb] at e; cases e
  ·rw [untr_out hb] at e; exact ⟨hb, e⟩
 have hokU : HOk X.prog X.w (untr D H) s.heap := fun b u e => (I.hok b u (uU b u e).2).stay (fun _ _ _ q => q) (fun d q => keepU d _ q fun φ z => nomatch z) fun d xs q => keepU d _ q fun φ z => nomatch z
 have nU : ∀ b, H b = none → untr D H b = none := fun b n => by
  by_cases hb : b ∈ D
  ·exact untr_in hb
  ·rw [untr_out hb]; exact n
 have e0 : Env0 X.prog X.w X.K X.mg (wide s.heap (untr D H) (frs X.stack)) X.A X.stack s (untr D H) :=
  ⟨I.ok.frames, hmd, fun b o e => of_wide e, Nat.le_of_eq (wide_size _ _ _), funFrames_base I.stack fun b hb => wide_none hb, fun b hb => nU b (I.stkFree b hb), hokU, I.bare⟩
 refine wpAny_call (codeAny_mono (F.run X.A X.stack s (untr D H) ⟨us, []⟩ us vs _ _ hr e0 (by have := Binds.all (K := X.K) hb s us I.kIn hl; rwa [List.append_nil] at this) r h) fun r s' hq => ?_)
 cases r with
 | error e => exact hq.elim
 | ok fl =>
  cases fl with
  | next => exact False.elim hq
  | brk => exact False.elim hq
  | cont => exact False.elim hq
  | ret u =>
   obtain ⟨v, H2, os, bare, un, hok, r, q⟩ := hq
   have inD : ∀ b, b ∈ D → ∃ φ o, H b = some (.ext φ) ∧ s.heap.get? b = some o ∧ s'.heap.get? b = some o ∧ H2 b = none := fun b hb => by
    obtain ⟨φ, e⟩ := hD b hb
    obtain ⟨p, ⟨o, ho⟩, st⟩ := I.hok b _ e
    refine ⟨φ, o, e, ho, un.keep b o ho (untr_in hb) (fun z => ?_) (by simp), un.free b o ho (untr_in hb) (by simp)⟩
    rw [I.stkFree b z] at e; cases e
   have nd2 : ∀ b u, H2 b = some u → b ∉ D := fun b u e z => by obtain ⟨_, _, _, _, _, n⟩ := inD b z; rw [n] at e; cases e
   have hokR : HOk X.prog X.w (retr D H H2) s'.heap := fun b u e => by
    by_cases hb : b ∈ D
    ·rw [retr_in hb] at e
     obtain ⟨φ, o, e1, ho, ho', _⟩ := inD b hb
     rw [e1] at e; cases e
     obtain ⟨p, _, st⟩ := I.hok b _ e1
     exact ⟨st _ _ p fun o2 e2 => by rw [ho] at e2; cases e2; exact ho', ⟨o, ho'⟩, st⟩
    ·rw [retr_out hb] at e
     exact (hok b u e).stay (fun _ _ _ q => q) (fun d q => by rw [retr_out (nd2 d _ q)]; exact q) fun d xs q => by rw [retr_out (nd2 d _ q)]; exact q
   have unR : Un (frs X.stack) [] H (retr D H H2) s.heap s'.heap := by
    have nD : ∀ b, H b = none → b ∉ D := fun b n z => by obtain ⟨φ, e⟩ := hD b z; rw [n] at e; cases e
    refine ⟨fun b o e n h1 h2 => un.keep b o e (nU b n) h1 h2, fun b o e n h1 h2 => un.slot b o e (nU b n) h1 h2, fun b o e n h2 => by rw [retr_out (nD b n)]; exact un.free b o e (nU b n) h2, un.there, fun b xs e => ?_, fun b o u e => ?_, fun b qs e => ?_⟩
    ·have e1 := keepU b _ e fun φ z => nomatch z
     rw [retr_out (uU b _ e1).1]; exact un.tups b xs e1
    ·have e1 := keepU b _ e fun φ z => nomatch z
     rw [retr_out (uU b _ e1).1]; exact un.frzs b o u e1
    ·have e1 := keepU b _ e fun φ z => nomatch z
     rw [retr_out (uU b _ e1).1]; exact un.tbls b qs e1
   exact I.after ⟨v, _, os, bare, unR, hokR, r, q fun b hb => by obtain ⟨_, _, _, _, _, n⟩ := inD b hb; exact n⟩
end
section
variable {X : Cx} {scope : Scope} {own frn : List Str} {C : Addr} {s₃ : Shared} {H₃ : Hp} {fp : List Addr} {x : Str} {p pos : Pos} {e : Expr} {es : List Expr} {t : TA} {k : Nat}
def tCallVC (X : Cx) (σ0 : St) (i k : Nat) (t : TA) : TE := fun σ H Q => ∃ f, σ[i]? = some (some (.ref f)) ∧ t σ H fun vs H1 => ∃ D : List Addr, (∀ a ∈ D, ∃ φ, H1 a = some (.ext φ)) ∧ ∃ (n : Nat) (sp : Sp), (∀ base' : Heap, Wide X σ0 D H1 base' → FnAt X.prog X.w X.K X.mg base' k f n sp) ∧
 sp vs (untr D H1) (fun v H2 => (∀ b ∈ D, H2 b = none) → Q v (retr D H1 H2)) E0
theorem pe_callVC {pins0 : List (Addr × Obj)} {σ0 : St} (I3 : Inv X pins0 σ0 H₃ s₃) (hfp : ∀ b ∈ fp, FpOk X pins0 H₃ b) (hfn : ∀ x, X.fn x = true) {i : Nat} (hr : Room k X.A) (hN : (own ++ frn)[i]? = some x) (hv : Vis (cxComp X own frn scope C s₃ H₃ fp).env.scope x) (ha : PA (cxComp X own frn scope C s₃ H₃ fp) (e :: es) t) (hdb : (x == ("__debug__" : Str)) = false := by decide) (hcd : (x == ("__classdict__" : Str)) = false := by decide)
  (he : starEach (e :: es) (cxComp X own frn scope C s₃ H₃ fp).env = (false, eval e (cxComp X own frn scope C s₃ H₃ fp).env) :: starEach es (cxComp X own frn scope C s₃ H₃ fp).env := by rfl) (hpl : (backTo pos (starEach es (cxComp X own frn scope C s₃ H₃ fp).env)).any (·.1) = false := by rfl) :
  PE (cxComp X own frn scope C s₃ H₃ fp) (.Call (.Name x p) (e :: es) [] pos) (tCallVC X σ0 i k t) := by
 intro pins s σ H Q I h
 obtain ⟨f, hi, h⟩ := h
 obtain ⟨m, hn, hl⟩ := I.loc
 obtain ⟨u, r, l⟩ := hl i x (.ref f) hN hi hv
 obtain rfl : u = Value.ref f := r
 have fin : wpAny (model X.prog X.w) X.A (callWith pos (.ref f) [] (backTo pos (starEach (e :: es) (cxComp X own frn scope C s₃ H₃ fp).env)) []) (EP (cxComp X own frn scope C s₃ H₃ fp) pins σ Q) (cxComp X own frn scope C s₃ H₃ fp).xe s := by
  have h0 : wpAny (model X.prog X.w) X.A (spliced (backTo pos (starEach (e :: es) (cxComp X own frn scope C s₃ H₃ fp).env))) (fun us s₁ => (∃ o fd, s₁.heap.get? f = some o ∧ o.data = .func fd) ∧ wpAny (model X.prog X.w) X.A (call (.ref f) ([] ++ us)) (EP (cxComp X own frn scope C s₃ H₃ fp) pins σ Q) (cxComp X own frn scope C s₃ H₃ fp).xe s₁) (cxComp X own frn scope C s₃ H₃ fp).xe s := by
   refine thn (ha pos pins s σ H _ I h) fun us s1 ⟨vs, H1, I1, r, D, hD, n, sp, F, q⟩ => ?_
   have J : Inv X pins0 σ0 H1 s1 := I3.call' (ch := fp) I1.os I1.base I1.hok I1.bare fun b hb => by
    obtain ⟨f0, f1, f2, f3, f4, f5⟩ := hfp b hb
    exact ⟨f3, f1, f4, f5⟩
   have W := wide_of J hfn hD
   obtain ⟨o, fd, ps, ho, hof, hlen, hb, G⟩ := F _ W
   exact ⟨⟨o, fd, (of_wide ho).1, hof⟩, run_fnM (X := cxComp X own frn scope C s₃ H₃ fp) I1 W.mod hD G hr hb r q⟩
  rw [he] at h0 ⊢
  refine PySem.W.callWith_of (P := fun h => ∃ o fd, h.get? f = some o ∧ o.data = .func fd) ?_ (fun h ⟨o, fd, hf, hof⟩ => ⟨.frame, .inl rfl, (PySem.W.Looks.ld (part := none) hf).andThen ?_⟩) (Calls.evalArgs_plain h0)
  ·show ((false || (backTo pos (starEach es (cxComp X own frn scope C s₃ H₃ fp).env)).any (·.1)) || false) = false
   rw [hpl]; rfl
  ·rw [hof]
   exact .now
 rcases l with ⟨hk, hm⟩ | ⟨hk, c, hc, hcell⟩
 ·exact wpAny_Call_Name_kw (wpAny_Name (wpAny_loadName_local I.ok.kind hk hn hm fin) hdb)
 ·rcases hk with hk | hk
  ·exact wpAny_Call_Name_kw (wpAny_Name (wpAny_loadName_cell I.ok.kind hk hc hcell fin) hdb)
  ·exact wpAny_Call_Name_kw (wpAny_Name (wpAny_loadName_free I.ok.kind hk hc hcell fin hcd) hdb)
end
end L2
namespace My
open PySem L2
def top (i : Nat) : Stmt := PySem.Challenge.pw_figurejudge_k31_rooms_as_they_come_up.main.body.getD i (.Pass ⟨0, 0, 0, 0⟩)
abbrev s_grown_from : Stmt := top 1
abbrev s_l_feed : Stmt := top 3
abbrev s_l_draw : Stmt := top 4
abbrev s_l_grown : Stmt := top 5
abbrev s_l_alike : Stmt := top 6
abbrev s_l_ring : Stmt := top 7
abbrev s_law : Stmt := top 8
set_option genInjectivity false in
set_option genSizeOf false in
structure Adr where
 f_grown_from : Addr
 fd_grown_from : FuncData
 c_grown_from : Addr
 f_l_feed : Addr
 fd_l_feed : FuncData
 f_l_draw : Addr
 fd_l_draw : FuncData
 f_l_grown : Addr
 fd_l_grown : FuncData
 f_l_alike : Addr
 fd_l_alike : FuncData
 f_l_ring : Addr
 fd_l_ring : FuncData
 c_l_ring : Addr
 t_l_ring : Addr
 f_law : Addr
 fd_law : FuncData
 c_law : Addr
 t_law : Addr
structure Txt (K : PySem.W.Frag) (mg : Str → Option Value) (a : Adr) : Prop where
 F_grown_from : FunC K "grown_from" "grown_from" s_grown_from a.f_grown_from a.fd_grown_from (.ref a.c_grown_from)
 m_grown_from : mg "grown_from" = some (.ref a.f_grown_from)
 k_grown_from : PySem.W.keepIn K (.ref a.f_grown_from) = true
 b_grown_from : Binds K a.fd_grown_from ["first", "many", "onward", "is_yes", "most"] []
 d_grown_from : ∃ t, Binds K a.fd_grown_from ["first", "many", "onward", "is_yes", "most"] [.int 2000 t]
 F_l_feed : Fun K "_law_feed" "_law_feed" s_l_feed a.f_l_feed a.fd_l_feed
 m_l_feed : mg "_law_feed" = some (.ref a.f_l_feed)
 k_l_feed : PySem.W.keepIn K (.ref a.f_l_feed) = true
 b_l_feed : Binds K a.fd_l_feed ["_law_script"] []
 F_l_draw : Fun K "_law_draw" "_law_draw" s_l_draw a.f_l_draw a.fd_l_draw
 m_l_draw : mg "_law_draw" = some (.ref a.f_l_draw)
 k_l_draw : PySem.W.keepIn K (.ref a.f_l_draw) = true
 b_l_draw : Binds K a.fd_l_draw ["_law_feed_here", "_law_many"] []
 F_l_grown : Fun K "_law_grown" "_law_grown" s_l_grown a.f_l_grown a.fd_l_grown
 m_l_grown : mg "_law_grown" = some (.ref a.f_l_grown)
 k_l_grown : PySem.W.keepIn K (.ref a.f_l_grown) = true
 b_l_grown : Binds K a.fd_l_grown ["_law_first", "_law_many", "_law_onward", "_law_most"] []
 F_l_alike : Fun K "_law_alike" "_law_alike" s_l_alike a.f_l_alike a.fd_l_alike
 m_l_alike : mg "_law_alike" = some (.ref a.f_l_alike)
 k_l_alike : PySem.W.keepIn K (.ref a.f_l_alike) = true
 b_l_alike : Binds K a.fd_l_alike ["_law_found", "_law_due"] []
 F_l_ring : FunC K "_law_ring" "_law_ring" s_l_ring a.f_l_ring a.fd_l_ring (.ref a.c_l_ring)
 h_l_ring : PySem.W.codeHdIn K a.c_l_ring a.t_l_ring = true
 m_l_ring : mg "_law_ring" = some (.ref a.f_l_ring)
 k_l_ring : PySem.W.keepIn K (.ref a.f_l_ring) = true
 b_l_ring : Binds K a.fd_l_ring ["_law_many"] []
 F_law : FunC K "law" "law" s_law a.f_law a.fd_law (.ref a.c_law)
 h_law : PySem.W.codeHdIn K a.c_law a.t_law = true
 m_law : mg "law" = some (.ref a.f_law)
 z_tuple : mg "tuple" = none
 z_range : mg "range" = none
 z_len : mg "len" = none
 z_abs : mg "abs" = none
 z_isinstance : mg "isinstance" = none
 z_list : mg "list" = none
 z_bool : mg "bool" = none
 z_all : mg "all" = none
 z_int : mg "int" = none
 z_str : mg "str" = none
 z_zip : mg "zip" = none
 tne : a.t_l_ring ≠ a.t_law
theorem while_m {c : TT} {tb : TS} {D : Ends} {σ : St} {H : Hp} (W : Nat → St → Hp → Prop) (h0 : ∃ m, W m σ H)
  (hs : ∀ m σ H, W m σ H → c σ H fun b H1 => if b = true then tb { D with nx := fun σ' H' => ∃ m', m' < m ∧ W m' σ' H', ct := fun σ' H' => ∃ m', m' < m ∧ W m' σ' H', bk := D.nx } σ H1 else D.nx σ H1)
  (mono : ∀ σ H Q Q', (∀ b H1, Q b H1 → Q' b H1) → c σ H Q → c σ H Q') : tWhile c tb D σ H := by
 refine ⟨W, h0, fun m σ H w => mono σ H _ _ (fun b H1 q => ?_) (hs m σ H w)⟩
 cases b with
 | true => exact ⟨_, fun σ' H' p => p, q⟩
 | false => exact q
theorem dgetR {H : Hp} {D : Addr} {kvs : List (Key × V)} {x : Str} {v : V} (h : Rd H D (.dK kvs)) (e : valV kvs (Sum.inr x) = some v) : DGet H D (.str x) (some v) := .inl ⟨kvs, Sum.inr x, h, rfl, e.symm⟩
def fd (L : Addr) (n sd : Int) : List (Key × V) := [(Sum.inr ("left" : Str), .ref L), (Sum.inr ("number" : Str), .int n), (Sum.inr ("seed" : Str), .int sd)]
theorem fd_left (L : Addr) (n sd : Int) : valV (fd L n sd) (Sum.inr ("left" : Str)) = some (.ref L) := valV_pos rfl
theorem fd_number (L : Addr) (n sd : Int) : valV (fd L n sd) (Sum.inr ("number" : Str)) = some (.int n) := by
 unfold fd
 rw [valV_neg (show ¬ ((Sum.inr ("left" : Str) : Key) = Sum.inr ("number" : Str)) by decide +kernel), valV_pos rfl]
theorem fd_seed (L : Addr) (n sd : Int) : valV (fd L n sd) (Sum.inr ("seed" : Str)) = some (.int sd) := by
 unfold fd
 rw [valV_neg (show ¬ ((Sum.inr ("left" : Str) : Key) = Sum.inr ("seed" : Str)) by decide +kernel), valV_neg (show ¬ ((Sum.inr ("number" : Str) : Key) = Sum.inr ("seed" : Str)) by decide +kernel), valV_pos rfl]
theorem fd_putN (L : Addr) (n sd v : Int) : putK (fd L n sd) (Sum.inr ("number" : Str)) (.int v) = fd L v sd := by
 unfold putK fd
 have a1 : ¬ ((Sum.inr ("left" : Str) : Key) = Sum.inr ("number" : Str)) := by decide +kernel
 have a2 : ¬ ((Sum.inr ("seed" : Str) : Key) = Sum.inr ("number" : Str)) := by decide +kernel
 simp only [List.any_cons, List.any_nil, List.map_cons, List.map_nil, a1, a2, if_false, if_true, decide_true, decide_false, Bool.true_or, Bool.or_true]
theorem fd_putS (L : Addr) (n sd v : Int) : putK (fd L n sd) (Sum.inr ("seed" : Str)) (.int v) = fd L n v := by
 unfold putK fd
 have a1 : ¬ ((Sum.inr ("left" : Str) : Key) = Sum.inr ("seed" : Str)) := by decide +kernel
 have a2 : ¬ ((Sum.inr ("number" : Str) : Key) = Sum.inr ("seed" : Str)) := by decide +kernel
 simp only [List.any_cons, List.any_nil, List.map_cons, List.map_nil, a1, a2, if_false, if_true, decide_true, decide_false, Bool.true_or, Bool.or_true]
structure Feed (H : Hp) (F L : Addr) : Prop where
 ex : ∃ (ms : List Int) (n sd : Int), H F = some (.dK (fd L n sd)) ∧ H L = some (.lst (ms.map V.int)) ∧ 0 ≤ n ∧ (∀ m ∈ ms, 0 ≤ m) ∧ 0 ≤ sd ∧ sd < 2147483648
theorem Feed.same {H H' : Hp} {F L : Addr} (h : Feed H F L) (s : Same H H') : Feed H' F L := by
 obtain ⟨ms, n, sd, a, b, c⟩ := h.ex
 exact ⟨ms, n, sd, s _ _ a, s _ _ b, c⟩
def spDraw : Sp := fun vs H Q _ => ∃ (F L : Addr) (m : Nat), vs = [.ref F, .int m] ∧ Feed H F L ∧ 0 < m ∧ m < 2 ^ 1000 ∧ ∀ (r : Nat) (H' : Hp), r < m → KB2 F L H H' → Feed H' F L → Q (.int (r : Nat)) H'
section
variable {P : Program} {w : World} {K : PySem.W.Frag} {mg : Str → Option Value} {base : Heap}
theorem sc_l_draw : FnScope ["_law_feed_here", "_law_many", "_law_found", "_law_one", "_law_two"] ["_law_feed_here", "_law_many"] (defScope s_l_draw) := ⟨rfl, rfl, rfl, by decide +kernel, rfl, by decide +kernel, by decide +kernel⟩
theorem ok_l_draw {a : Adr} (T : Txt K mg a) : FnOk P w K mg base CX0 1 a.f_l_draw a.fd_l_draw ["_law_feed_here", "_law_many"] spDraw := by
 refine T.F_l_draw.ok sc_l_draw (fun vs H Q E h => ?_) (fun cdv A outer s H vs Q E hr h => ?_)
 ·obtain ⟨F, L, m, rfl, _⟩ := h
  rfl
 ·obtain ⟨F, L, many, rfl, hf, hm0, hm1, k⟩ := h
  refine ⟨_, (pss_cons (ps_while PassesOwn.never (PW.pt (pw_and (pt_cmpR op_eq (pe_dget (hu_of hr) (pv 0) pe_str (fun _ _ => rfl)) pe_int (nomark _)) (pw_and1 (pt_cmpR (op_neD K hr.units) (pe_dget (hu_of hr) (pv 0) pe_str (fun _ _ => rfl)) (pe_lst pa_nil) (nomark _)))))
   (pss_one (ps_dput (hu_of hr) (pv 0) pe_str (pe_bm0 PySem.F.plainAttrs_list PySem.F.slot_list_pop PySem.F.type_list_pop mt_pop (pe_dget (hu_of hr) (pv 0) pe_str (fun _ _ => rfl))) rfl)))
  (pss_cons (ps_if (pt_cmpR op_gt (pe_dget (hu_of hr) (pv 0) pe_str (fun _ _ => rfl)) pe_int (nomark _))
   (pss_cons (ps_set (i := 2) sc_l_draw.nd rfl (Or.inl rfl) (pe_op op_modP (pe_dget (hu_of hr) (pv 0) pe_str (fun _ _ => rfl)) (pv 1)))
   (pss_cons (ps_dput (hu_of hr) (pv 0) pe_str (pe_op op_fdivB (pe_dget (hu_of hr) (pv 0) pe_str (fun _ _ => rfl)) (pv 1)) rfl)
   (pss_one (ps_ret (pv 2)))))
   pss_nil)
  (pss_cons (ps_set (i := 3) sc_l_draw.nd rfl (Or.inl rfl) (pe_op op_modP (pe_op op_add (pe_op op_mul (pe_dget (hu_of hr) (pv 0) pe_str (fun _ _ => rfl)) pe_int) pe_int) pe_int))
  (pss_cons (ps_dput (hu_of hr) (pv 0) pe_str (pe_op op_modP (pe_op op_add (pe_op op_mul (pv 3) pe_int) pe_int) pe_int) rfl)
  (pss_cons (ps_set (i := 4) sc_l_draw.nd rfl (Or.inl rfl) (pe_op op_modP (pe_op op_mul (pe_dget (hu_of hr) (pv 0) pe_str (fun _ _ => rfl)) (pe_dget (hu_of hr) (pv 0) pe_str (fun _ _ => rfl))) pe_int))
  (pss_one (ps_ret (pe_op op_modP (pe_op op_add (pe_op op_mul (pe_op op_modP (pe_op op_mul (pv 3) (pv 3)) pe_int) pe_int) (pv 4)) (pv 1))))))))), ?_⟩
  obtain ⟨ms0, n0, sd0, e0, l0, hn0, hms0, hs0, hs1⟩ := hf.ex
  have nFL : F ≠ L := ne_of e0 l0 (fun z => nomatch z)
  have put : ∀ {H' : Hp} {kv : List (Key × V)}, H' F = some (.dK kv) → kv.length = 3 → kv.length < sizeLine := fun _ z => by rw [z]; decide
  refine while_m (fun m σ H' => ∃ (ms : List Int) (n sd : Int), m = ms.length ∧ σ = [some (.ref F), some (.int (many : Nat)), none, none, none] ∧ KB2 F L H H' ∧ H' F = some (.dK (fd L n sd)) ∧ H' L = some (.lst (ms.map V.int)) ∧ 0 ≤ n ∧ (∀ m ∈ ms, 0 ≤ m) ∧ 0 ≤ sd ∧ sd < 2147483648)
   ⟨_, ms0, n0, sd0, rfl, rfl, fun b o e _ _ => e, e0, l0, hn0, hms0, hs0, hs1⟩ ?_ ?_
  ·rintro m σ H1 ⟨ms, n, sd, rfl, rfl, k1, e1, l1, hn, hms, hs, hs'⟩
   have fin3 : ∀ kv : List (Key × V), kv.length = 3 → kv.length < sizeLine := fun kv z => by rw [z]; decide
   refine ⟨_, rfl, F, .int n, rfl, dgetR (.inl e1) (fd_number ..), rfl, _, rfl, ?_⟩
   refine ite2 (fun hz => ?_) (fun hz => ?_)
   ·have hz' : n = 0 := V.int.inj (of_decide_eq_true hz)
    subst hz'
    refine ⟨_, rfl, F, .ref L, rfl, dgetR (.inl e1) (fd_left ..), by decide, fun E hE => ?_⟩
    have sE := Same.new (o := .lst []) hE
    have e2 := sE _ _ e1
    have l2 := sE _ _ l1
    have k2 : KB2 F L H (upd H1 E (.lst [])) := k1.trans sE.kb2
    refine ⟨⟨.lst (ms.map .int), .lst [], dat_lst (.of l2) (dats_ints ms), dat_lst (.of upd_same) dats_nil, rfl, rfl, ?dep, _, rfl, ?_⟩, .lst (ms.map .int), .lst [], dat_lst (.of l2) (dats_ints ms), dat_lst (.of upd_same) dats_nil, .inr ⟨_, _, rfl, rfl⟩⟩
    case dep => rw [Dt.dep, deps_ints]; decide
    have eb : (if true = true then !(Dt.lst (ms.map .int)).beq (.lst []) else (Dt.lst (ms.map .int)).beq (.lst [])) = decide (ms ≠ []) := by
     rw [if_pos rfl, Dt.beq]
     cases ms with
     | nil => simp [Dt.beqs]
     | cons y ys => simp [Dt.beqs]
    rw [eb]
    generalize upd H1 E (.lst []) = H2 at e2 l2 k2 ⊢
    refine ite2 (fun hne => ?_) (fun hem => ?_)
    ·have hne' : ms ≠ [] := of_decide_eq_true hne
     have hl : 0 < ms.length := List.length_pos_iff.mpr hne'
     obtain ⟨x, hx⟩ : ∃ x, ms[ms.length - 1]? = some x := ⟨_, List.getElem?_eq_getElem (by omega)⟩
     have hx0 := hms x (List.mem_of_getElem? hx)
     refine ⟨_, rfl, F, .ref L, rfl, dgetR (.inl e2) (fd_left ..), .inl ⟨rfl, _, .of l2⟩, L, _, .int x, rfl, rfl, l2, by rw [List.length_map, List.getElem?_map, hx]; rfl, ?_⟩
     have e3 : (upd H2 L (.lst (ms.map V.int).dropLast)) F = some (.dK (fd L 0 sd)) := by rw [upd_ne nFL]; exact e2
     refine ⟨_, rfl, F, _, rfl, DPut.k (k := Sum.inr ("number" : Str)) e3 (fin3 _ rfl), ?_⟩
     refine ⟨ms.dropLast.length, by rw [List.length_dropLast]; omega, ms.dropLast, x, sd, rfl, rfl, ?_, ?_, ?_, hx0, fun m hm => hms m (List.dropLast_subset _ hm), hs, hs'⟩
     ·exact k2.trans ((KB.r KB.write).trans (KB.l KB.write))
     ·rw [upd_same, fd_putN]
     ·rw [upd_ne nFL.symm, upd_same, List.map_dropLast]
    ·
     refine ⟨_, rfl, F, .int 0, rfl, dgetR (.inl e2) (fd_number ..), _, _, rfl, rfl, _, rfl, ?_⟩
     refine ite2 (fun z => absurd (of_decide_eq_true z) (by decide)) (fun _ => ?_)
     refine ⟨_, rfl, F, .int sd, rfl, dgetR (.inl e2) (fd_seed ..), _, _, rfl, rfl, .inr (by constructor <;> decide), _, _, rfl, rfl, _, _, rfl, rfl, cpos (by decide), ?_⟩
     have o0 : 0 ≤ (sd * 48271 + 7919) % 2147483647 := Int.emod_nonneg _ (by decide)
     have o1 : (sd * 48271 + 7919) % 2147483647 < 2147483647 := Int.emod_lt_of_pos _ (by decide)
     dsimp only [gName]
     generalize (sd * 48271 + 7919) % 2147483647 = one at o0 o1 ⊢
     refine ⟨_, rfl, _, _, rfl, rfl, .inr (by constructor <;> decide), _, _, rfl, rfl, _, _, rfl, rfl, cpos (by decide), _, rfl, F, _, rfl, DPut.k (k := Sum.inr ("seed" : Str)) e2 (fin3 _ rfl), ?_⟩
     have t0 : 0 ≤ (one * 40692 + 104729) % 2147483399 := Int.emod_nonneg _ (by decide)
     have t1 : (one * 40692 + 104729) % 2147483399 < 2147483399 := Int.emod_lt_of_pos _ (by decide)
     rw [fd_putS]
     generalize (one * 40692 + 104729) % 2147483399 = s2 at t0 t1 ⊢
     have e3 : (upd H2 F (.dK (fd L 0 s2))) F = some (.dK (fd L 0 s2)) := upd_same
     have l3 : (upd H2 F (.dK (fd L 0 s2))) L = some (.lst (ms.map V.int)) := by rw [upd_ne nFL.symm]; exact l2
     have k3 : KB2 F L H (upd H2 F (.dK (fd L 0 s2))) := k2.trans (KB.l KB.write)
     generalize upd H2 F (.dK (fd L 0 s2)) = H3 at e3 l3 k3 ⊢
     refine ⟨_, rfl, F, .int s2, rfl, dgetR (.inl e3) (fd_seed ..), _, rfl, F, .int s2, rfl, dgetR (.inl e3) (fd_seed ..), _, _, rfl, rfl, .inl (by constructor <;> omega), _, _, rfl, rfl, cpos (by decide), ?_⟩
     refine ⟨_, rfl, _, rfl, _, _, rfl, rfl, .inl (by constructor <;> omega), _, _, rfl, rfl, cpos (by decide), _, _, rfl, rfl, .inr (by constructor <;> decide), _, rfl, _, _, rfl, rfl, _, rfl, _, _, rfl, rfl, cpos (by omega), ?_⟩
     have f0 : 0 ≤ (one * one % 2147483629 * 2147483563 + s2 * s2 % 2147483563) % (many : Int) := Int.emod_nonneg _ (by omega)
     have f1 : (one * one % 2147483629 * 2147483563 + s2 * s2 % 2147483563) % (many : Int) < (many : Int) := Int.emod_lt_of_pos _ (by omega)
     obtain ⟨r, hr'⟩ : ∃ r : Nat, (one * one % 2147483629 * 2147483563 + s2 * s2 % 2147483563) % (many : Int) = (r : Int) := ⟨_, (Int.toNat_of_nonneg f0).symm⟩
     have := k r H3 (by omega) k3 ⟨ms, 0, s2, e3, l3, Int.le_refl _, hms, t0, by omega⟩
     rw [← hr'] at this
     exact this
   ·
    have hn0' : 0 < n := by
     have : n ≠ 0 := fun z => hz (by rw [z]; simp)
     omega
    refine iteF ⟨_, rfl, F, .int n, rfl, dgetR (.inl e1) (fd_number ..), _, _, rfl, rfl, _, rfl, ?_⟩
    refine ite2 (fun _ => ?_) (fun z => absurd (decide_eq_true hn0') z)
    refine ⟨_, rfl, F, .int n, rfl, dgetR (.inl e1) (fd_number ..), _, rfl, _, _, rfl, rfl, cpos (by omega), ?_⟩
    refine ⟨_, rfl, F, .int n, rfl, dgetR (.inl e1) (fd_number ..), _, rfl, _, _, rfl, rfl, ⟨by omega, ?log⟩, _, rfl, F, _, rfl, DPut.k (k := Sum.inr ("number" : Str)) e1 (fin3 _ rfl), ?_⟩
    case log =>
     rw [Int.natAbs_natCast, Nat.log2_lt (by omega)]
     exact Nat.lt_of_lt_of_le hm1 (Nat.pow_le_pow_right (by decide) (by decide))
    refine ⟨_, rfl, ?_⟩
    have f0 : 0 ≤ n % (many : Int) := Int.emod_nonneg _ (by omega)
    have f1 : n % (many : Int) < (many : Int) := Int.emod_lt_of_pos _ (by omega)
    obtain ⟨r, hr'⟩ : ∃ r : Nat, n % (many : Int) = (r : Int) := ⟨_, (Int.toNat_of_nonneg f0).symm⟩
    rw [fd_putN]
    have := k r (upd H1 F (.dK (fd L (n / (many : Int)) sd))) (by omega) (k1.trans (KB.l KB.write)) ⟨ms, n / (many : Int), sd, upd_same, by rw [upd_ne nFL.symm]; exact l1, Int.ediv_nonneg hn (by omega), hms, hs, hs'⟩
    rw [← hr'] at this
    exact this
  ·rintro σ H Q Q' hQ ⟨v, e1, a, y, e2, e3, e4, b, e5, q⟩
   refine ⟨v, e1, a, y, e2, e3, e4, b, e5, ?_⟩
   revert q
   cases b with
   | false => exact fun q => hQ _ _ q
   | true =>
    rintro ⟨v, e1, a, y, e2, e3, z, q⟩
    refine ⟨v, e1, a, y, e2, e3, z, fun p hp => ?_⟩
    obtain ⟨⟨d, d', a1, a2, a3, a4, a5, b, a6, q⟩, z2⟩ := q p hp
    exact ⟨⟨d, d', a1, a2, a3, a4, a5, b, a6, hQ _ _ q⟩, z2⟩
def spFeed (K : PySem.W.Frag) : Sp := fun vs H Q _ => ∃ (a : Addr) (ns : List Int), vs = [.ref a] ∧ SqL K H a (ns.map V.int) ∧ ns.length ≤ 63 ∧ ∀ (F L : Addr) (H' : Hp), H F = none → H L = none → Same H H' → Feed H' F L → Q (.ref F) H'
theorem cutTake (ms : List Int) (n : Nat) : cutV (ms.map V.int) none (some (n : Int)) = (ms.take n).map V.int := by
 unfold cutV
 rw [show HT.sIx (ms.map V.int).length 0 none = 0 from rfl, HT.sIx_nat]
 rw [List.drop_zero, List.length_map, Nat.sub_zero, ← List.map_take]
 congr 1
 by_cases h : n ≤ ms.length
 ·rw [Nat.min_eq_left h]
 ·rw [Nat.min_eq_right (by omega), List.take_of_length_le (Nat.le_refl _), List.take_of_length_le (by omega)]
theorem fd_merge (L : Addr) (n sd : Int) : mergeK [] (fd L n sd) = fd L n sd := by
 have a1 : ¬ ((Sum.inr ("left" : Str) : Key) = Sum.inr ("number" : Str)) := by decide +kernel
 have a2 : ¬ ((Sum.inr ("left" : Str) : Key) = Sum.inr ("seed" : Str)) := by decide +kernel
 have a3 : ¬ ((Sum.inr ("number" : Str) : Key) = Sum.inr ("seed" : Str)) := by decide +kernel
 unfold mergeK fd
 simp only [List.foldl_cons, List.foldl_nil]
 rw [putK_new _ valV_nil]
 rw [putK_new _ (show valV ([] ++ [((Sum.inr ("left" : Str) : Key), V.ref L)]) (Sum.inr ("number" : Str)) = none from (valV_neg a1).trans valV_nil)]
 rw [putK_new _ (show valV ([] ++ [((Sum.inr ("left" : Str) : Key), V.ref L)] ++ [((Sum.inr ("number" : Str) : Key), V.int n)]) (Sum.inr ("seed" : Str)) = none from (valV_neg a2).trans ((valV_neg a3).trans valV_nil))]
 rfl
theorem sc_l_feed : FnScope ["_law_script", "_law_seed", "_law_cell", "_law_great"] ["_law_script"] (defScope s_l_feed) := ⟨rfl, rfl, rfl, by decide +kernel, rfl, by decide +kernel, by decide +kernel⟩
theorem ok_l_feed {a : Adr} (T : Txt K mg a) : FnOk P w K mg base CX0 1 a.f_l_feed a.fd_l_feed ["_law_script"] (spFeed K) := by
 refine T.F_l_feed.ok sc_l_feed (fun vs H Q E h => ?_) (fun cdv A outer s H vs Q E hr h => ?_)
 ·obtain ⟨sa, ns, rfl, _⟩ := h
  rfl
 ·obtain ⟨sa, ns, rfl, hS, hns, k⟩ := h
  refine ⟨_, (pss_cons (ps_set (i := 1) sc_l_feed.nd rfl (Or.inl rfl) pe_int)
  (pss_cons (ps_for PassesOwn.never rfl (pi_list (pe_slice (sl_listK K) (pv 0) po_none (po_some pe_int))) (pg_name (i := 2) sc_l_feed.nd rfl (Or.inl rfl))
   (pss_one (ps_set (i := 1) sc_l_feed.nd rfl (Or.inl rfl) (pe_op op_modP (pe_op op_add (pe_op op_mul (pv 1) pe_int) (pv 2)) pe_int))))
  (pss_cons (ps_setComp (i := 3) (CompScope.mk' (esc := defScope s_l_feed) (N := ["_law_script", "_law_seed", "_law_cell", "_law_great"]) (own := ["_law_cell"]) (frn := []) (frj := []) rfl rfl (by decide +kernel)) rfl (pi_list (pe_slice (sl_listK K) (pv 0) po_none (po_some pe_int))) (fun _ _ _ _ => (pg_name (i := 0) (show List.Nodup (["_law_cell"] : List Str) by decide +kernel) rfl (Or.inl rfl))) (fun _ _ _ _ => (pifs_one (pt_cmpR op_ge (pe_callB call_abs (by rfl) T.z_abs bt_abs (pa_cons (pv 0) pa_nil)) (pe_op op_pow pe_int pe_int) (nomark _)))) (fun _ _ _ _ => (pe_callB call_abs (by rfl) T.z_abs bt_abs (pa_cons (pv 0) pa_nil))) sc_l_feed.nd rfl rfl)
  (pss_one (ps_ret (pe_disp (pps_cons pe_str (pe_revL K (pv 3) po_none po_none (po_some (pe_un un_neg pe_int))) (pps_cons pe_str pe_int (pps_cons pe_str (pv 1) pps_nil))) rfl rfl (fun z => nomatch z) (by decide))))))), ?_⟩
  have ec : cutV (ns.map V.int) none (some (63 : Int)) = (ns.take 63).map V.int := by rw [show (some (63 : Int)) = some ((63 : Nat) : Int) from rfl, cutTake]
  dsimp only [tSeq, tAsg, tC, gName]
  refine ⟨_, rfl, _, rfl, sa, _, rfl, hS, fun p hp => ?_⟩
  rw [ec]
  have sp := Same.new (o := .lst ((ns.take 63).map V.int)) hp
  refine ⟨p, rfl, ⟨_, .of upd_same⟩, for_list (xs := (ns.take 63).map V.int) (fun i σ H' => ∃ (sd : Int) (v2 : Option V), σ = [some (.ref sa), some (.int sd), v2, none] ∧ H' = upd H p (.lst ((ns.take 63).map V.int)) ∧ 0 ≤ sd ∧ sd < 2147483648)
   ⟨7919, none, rfl, rfl, by decide, by decide⟩ (fun i σ H' _ ⟨_, _, _, e, _⟩ => by rw [e]; exact .of upd_same) ?_ ?_⟩
  ·rintro i x σ H1 hx ⟨sd, v2, rfl, rfl, h0, h1⟩
   obtain ⟨c, rfl, _⟩ := intItem hx
   refine ⟨_, rfl, _, _, rfl, rfl, .inr (by constructor <;> decide), _, rfl, _, _, rfl, rfl, _, _, rfl, rfl, cpos (by decide), _, _, rfl, rfl, Int.emod_nonneg _ (by decide), ?_⟩
   have := Int.emod_lt_of_pos (sd * 69621 + c) (show (0 : Int) < 2147483647 by decide)
   omega
  rintro σ H1 ⟨sd, v2, rfl, rfl, h0, h1⟩
  generalize upd H p (.lst ((ns.take 63).map V.int)) = H1 at sp ⊢
  refine ⟨_, rfl, _, rfl, sa, _, rfl, sp.seq hS, fun p2 hp2 => ?_⟩
  rw [ec]
  have sp2 := Same.new (o := .lst ((ns.take 63).map V.int)) hp2
  refine ⟨p2, rfl, ⟨_, .of upd_same⟩, fun C hC => ?_⟩
  have nC : p2 ≠ C := ne_of_none upd_same hC
  have hC1 : H1 C = none := sp2.free hC
  refine comp_list (xs := (ns.take 63).map V.int) (fun i σ H' => ∃ (v : Option V) (ms : List Int), σ = [v] ∧ Same H1 H' ∧ H' p2 = some (.lst ((ns.take 63).map V.int)) ∧ H' C = some (.lst (ms.map V.int)) ∧ (∀ m ∈ ms, 0 ≤ m) ∧ ms.length ≤ i)
   ⟨none, [], ?sg, sp2.trans (Same.new hC), (Same.new hC) _ _ upd_same, upd_same, (fun m hm => by cases hm), Nat.le_refl _⟩ (fun i σ H' _ ⟨_, _, _, _, h, _⟩ => .of h) ?_ ?_
  case sg => rfl
  ·rintro i x σ H2 hx ⟨v, ms, rfl, s2, e2, c2, hms, lm⟩
   obtain ⟨c, rfl, hc⟩ := intItem hx
   have hi : i < (ns.take 63).length := (List.getElem?_eq_some_iff.mp hc).1
   rw [List.length_take] at hi
   refine ⟨_, rfl, c, rfl, _, _, rfl, rfl, ⟨by decide, by decide, by decide⟩, _, _, rfl, rfl, _, rfl, ?_⟩
   refine ite2 (fun _ => ?_) (fun _ => ⟨_, ms, rfl, s2, e2, c2, hms, by omega⟩)
   refine ⟨_, rfl, c, rfl, _, c2, ?_, _, ms ++ [if c < 0 then -c else c], rfl, s2.kbn hC1 KB.write, by rw [upd_ne nC]; exact e2, ?_, ?_, ?_⟩
   ·rw [List.length_map]; exact Nat.lt_of_le_of_lt (show ms.length ≤ 100 by omega) (by decide)
   ·rw [upd_same, List.map_append]; rfl
   ·intro m hm
    rcases List.mem_append.mp hm with hm | hm
    ·exact hms m hm
    ·rw [List.mem_singleton.mp hm]; split <;> omega
   ·rw [List.length_append]; show ms.length + 1 ≤ i + 1; omega
  rintro σ H2 ⟨v, ms, rfl, s2, e2, c2, hms, lm⟩
  have s02 := sp.trans s2
  refine fun F hF => ?_
  have sF := Same.new (o := .dK []) hF
  refine ⟨_, rfl, _, rfl, _, rfl, C, _, rfl, rfl, rfl, rfl, .of (sF _ _ c2), fun L hL => ⟨_, rfl, ?_⟩⟩
  have sL := Same.new (o := .lst (ms.map V.int).reverse) hL
  have nFL : F ≠ L := ne_of_none upd_same hL
  refine ⟨sL _ _ upd_same, fd L 0 sd, rfl, (by show 3 ≤ 15; decide), ?_⟩
  rw [fd_merge]
  refine k F L _ (s02.free hF) ((s02.trans sF).free hL) (((s02.trans sF).trans sL).kbn (s02.free hF) KB.write) ⟨ms.reverse, 0, sd, upd_same, ?_, Int.le_refl _, fun m hm => hms m (List.mem_reverse.mp hm), h0, h1⟩
  rw [upd_ne nFL.symm, upd_same, List.map_reverse]
def castI (ds : List Nat) : List Int := ds.map fun (d : Nat) => (d : Int)
theorem refItem {rs : List Addr} {i : Nat} {x : V} (h : (rs.map V.ref)[i]? = some x) : ∃ r, x = .ref r ∧ rs[i]? = some r := by
 rw [List.getElem?_map] at h
 cases e : rs[i]? with
 | none => rw [e] at h; cases h
 | some r => rw [e] at h; exact ⟨r, (Option.some.inj h).symm, rfl⟩
theorem take_snoc {α : Type} {xs : List α} {i : Nat} {x : α} (h : xs[i]? = some x) : xs.take (i + 1) = xs.take i ++ [x] := by rw [List.take_add_one, h]; rfl
theorem castI_len (ds : List Nat) : (castI ds).length = ds.length := by simp [castI]
theorem castI_app (xs ys : List Nat) : castI (xs ++ ys) = castI xs ++ castI ys := by simp [castI]
theorem item_at {α : Type} {xs : List α} {i : Nat} (d : α) (h : i < xs.length) : xs[i]? = some (xs.getD i d) := by rw [List.getD_eq_getElem?_getD, List.getElem?_eq_getElem h]; rfl
def stp (mv : List (List Nat)) (r a : Nat) : Nat := (mv.getD r []).getD a 0
def run (mv : List (List Nat)) : Nat → List Nat → Nat
 | r, [] => r
 | r, a :: w => run mv (stp mv r a) w
def Word (B : Nat) (w : List Nat) : Prop := ∀ a ∈ w, a < B
theorem Word.nil (B : Nat) : Word B [] := fun a h => by cases h
theorem Word.cons {B a : Nat} {w : List Nat} (h : a < B) (hw : Word B w) : Word B (a :: w) := fun x hx => (List.mem_cons.mp hx).elim (fun e => e ▸ h) (hw x)
theorem Word.app {B : Nat} {v w : List Nat} (hv : Word B v) (hw : Word B w) : Word B (v ++ w) := fun x hx => (List.mem_append.mp hx).elim (hv x) (hw x)
def rowGo : List Nat → Nat → Option Nat
 | [], s => some s
 | t :: l, s => if t < s then rowGo l s else if t = s then rowGo l (s + 1) else none
def rowsGo : List (List Nat) → Nat → Nat → Option Nat
 | [], _, s => some s
 | r :: rs, i, s => if i < s then (rowGo r s).bind fun s' => rowsGo rs (i + 1) s' else none
theorem rowGo_app : ∀ (l : List Nat) (t s : Nat), rowGo (l ++ [t]) s = (rowGo l s).bind fun s' => rowGo [t] s'
 | [], _, _ => rfl
 | x :: l, t, s => by
  show rowGo (x :: (l ++ [t])) s = (rowGo (x :: l) s).bind _
  simp only [rowGo]
  by_cases h : x < s
  ·rw [if_pos h, if_pos h]; exact rowGo_app l t s
  ·rw [if_neg h, if_neg h]
   by_cases h2 : x = s
   ·rw [if_pos h2, if_pos h2]; exact rowGo_app l t (s + 1)
   ·rw [if_neg h2, if_neg h2]; rfl
theorem rowsGo_app : ∀ (rs : List (List Nat)) (r : List Nat) (i s : Nat), rowsGo (rs ++ [r]) i s = (rowsGo rs i s).bind fun s' => if i + rs.length < s' then rowGo r s' else none
 | [], r, i, s => by
  show (if i < s then (rowGo r s).bind fun s' => some s' else none) = if i + 0 < s then rowGo r s else none
  rw [Nat.add_zero]
  split
  ·cases rowGo r s <;> rfl
  ·rfl
 | x :: rs, r, i, s => by
  show (if i < s then (rowGo x s).bind fun s' => rowsGo (rs ++ [r]) (i + 1) s' else none) = (if i < s then (rowGo x s).bind fun s' => rowsGo rs (i + 1) s' else none).bind _
  by_cases h : i < s
  ·rw [if_pos h, if_pos h]
   cases rowGo x s with
   | none => rfl
   | some s' =>
    show rowsGo (rs ++ [r]) (i + 1) s' = (rowsGo rs (i + 1) s').bind _
    rw [rowsGo_app rs r (i + 1) s']
    congr 1
    funext q
    rw [List.length_cons, show i + 1 + rs.length = i + (rs.length + 1) by omega]
  ·rw [if_neg h, if_neg h]; rfl
def runA {α : Type} (on : α → Nat → α) : α → List Nat → α
 | x, [] => x
 | x, a :: w => runA on (on x a) w
theorem runA_app {α : Type} (on : α → Nat → α) : ∀ (v w : List Nat) (x : α), runA on x (v ++ w) = runA on (runA on x v) w
 | [], _, _ => rfl
 | a :: v, w, x => runA_app on v w (on x a)
structure Grown {α : Type} (x0 : α) (on : α → Nat → α) (m : Nat) (xs : List α) (mv : List (List Nat)) : Prop where
 once : xs.Nodup
 first : xs[0]? = some x0
 reach : ∀ x ∈ xs, ∃ w, Word m w ∧ x = runA on x0 w
 row : ∀ (i : Nat) (r : List Nat), mv[i]? = some r → r.length = m ∧ ∃ x, xs[i]? = some x ∧ ∀ (c t : Nat), r[c]? = some t → xs[t]? = some (on x c)
 go : rowsGo mv 0 1 = some xs.length
theorem Grown.run {α : Type} {x0 : α} {on : α → Nat → α} {m : Nat} {xs : List α} {mv : List (List Nat)} (g : Grown x0 on m xs mv) (h : mv.length = xs.length) : ∀ (w : List Nat) (i : Nat) (x : α), xs[i]? = some x → Word m w → xs[run mv i w]? = some (runA on x w)
 | [], _, _, e, _ => e
 | a :: w, i, x, e, hw => by
  have hi := (List.getElem?_eq_some_iff.mp e).1
  have ha := hw a List.mem_cons_self
  have h1 := item_at [] (show i < mv.length by omega)
  obtain ⟨l1, y, ey, h2⟩ := g.row i _ h1
  rw [e] at ey
  have := Option.some.inj ey
  subst this
  have h3 := item_at 0 (show a < (mv.getD i []).length by rw [l1]; exact ha)
  exact Grown.run g h w _ _ (h2 a _ h3) fun z hz => hw z (List.mem_cons_of_mem _ hz)
theorem paired_snoc {α β : Type} {F : α → β → Prop} {l : List α} {m : List β} {a : α} {b : β} (h : Paired F l m) (r : F a b) : Paired F (l ++ [a]) (m ++ [b]) := by
 induction h with
 | nil => exact .cons r .nil
 | cons q t ih => exact .cons q ih
structure GRow {α : Type} (x0 : α) (on : α → Nat → α) (m : Nat) (xs : List α) (x : α) (leads : List Nat) (ys : List α) : Prop where
 once : ys.Nodup
 pre : ∃ more, ys = xs ++ more
 reach : ∀ y ∈ ys, ∃ w, Word m w ∧ y = runA on x0 w
 at' : ∀ (c t : Nat), leads[c]? = some t → ys[t]? = some (on x c)
 go : rowGo leads xs.length = some ys.length
theorem rowGo_up : ∀ (l : List Nat) (s s' : Nat), rowGo l s = some s' → s' ≤ s + l.length
 | [], s, s', h => by cases h; exact Nat.le_refl _
 | t :: l, s, s', h => by
  rw [rowGo] at h
  rw [List.length_cons]
  split at h
  ·have := rowGo_up l s s' h; omega
  ·split at h
   ·have := rowGo_up l (s + 1) s' h; omega
   ·cases h
theorem get_app {α : Type} {xs more : List α} {i : Nat} {x : α} (h : xs[i]? = some x) : (xs ++ more)[i]? = some x := by
 rw [List.getElem?_append_left (List.getElem?_eq_some_iff.mp h).1]; exact h
section
variable {α : Type} {x0 : α} {on : α → Nat → α} {m : Nat} {xs ys : List α} {mv : List (List Nat)} {x : α} {leads : List Nat}
theorem Grown.begin : Grown x0 on m [x0] [] := ⟨by simp, rfl, fun x hx => ⟨[], .nil m, by rw [List.mem_singleton.mp hx]; rfl⟩, fun i r h => by simp at h, rfl⟩
theorem GRow.start (g : Grown x0 on m xs mv) : GRow x0 on m xs x [] xs := ⟨g.once, ⟨[], by simp⟩, g.reach, fun c t h => by simp at h, rfl⟩
theorem GRow.old (g : GRow x0 on m xs x leads ys) {t : Nat} (h : ys[t]? = some (on x leads.length)) : GRow x0 on m xs x (leads ++ [t]) ys := by
 have ht := (List.getElem?_eq_some_iff.mp h).1
 refine ⟨g.once, g.pre, g.reach, fun c u hu => ?_, ?_⟩
 ·by_cases hc : c < leads.length
  ·rw [List.getElem?_append_left hc] at hu; exact g.at' c u hu
  ·have hb := (List.getElem?_eq_some_iff.mp hu).1
   rw [List.length_append] at hb
   have e : c = leads.length := by simp at hb; omega
   subst e
   rw [List.getElem?_append_right (Nat.le_refl _), Nat.sub_self] at hu
   have := Option.some.inj hu
   subst this
   exact h
 ·rw [rowGo_app, g.go]
  show rowGo [t] ys.length = _
  simp only [rowGo]
  rw [if_pos ht]
theorem GRow.new (g : GRow x0 on m xs x leads ys) (hm : leads.length < m) (hx : ∃ w, Word m w ∧ x = runA on x0 w) (h : on x leads.length ∉ ys) : GRow x0 on m xs x (leads ++ [ys.length]) (ys ++ [on x leads.length]) := by
 obtain ⟨more, e⟩ := g.pre
 refine ⟨?_, ⟨more ++ [on x leads.length], by rw [e, List.append_assoc]⟩, fun y hy => ?_, fun c u hu => ?_, ?_⟩
 ·rw [List.nodup_append]
  exact ⟨g.once, by simp, fun a ha b hb z => h (by rw [← List.mem_singleton.mp hb, ← z]; exact ha)⟩
 ·rcases List.mem_append.mp hy with z | z
  ·exact g.reach y z
  ·rw [List.mem_singleton.mp z]
   obtain ⟨w, hw, ex⟩ := hx
   exact ⟨w ++ [leads.length], hw.app (.cons hm (.nil m)), by rw [runA_app, ← ex]; rfl⟩
 ·by_cases hc : c < leads.length
  ·rw [List.getElem?_append_left hc] at hu; exact get_app (g.at' c u hu)
  ·have hb := (List.getElem?_eq_some_iff.mp hu).1
   rw [List.length_append] at hb
   have e : c = leads.length := by simp at hb; omega
   subst e
   rw [List.getElem?_append_right (Nat.le_refl _), Nat.sub_self] at hu
   have := Option.some.inj hu
   subst this
   rw [List.getElem?_append_right (Nat.le_refl _), Nat.sub_self]; rfl
 ·rw [rowGo_app, g.go, List.length_append]
  show rowGo [ys.length] ys.length = _
  simp only [rowGo]
  rw [if_neg (Nat.lt_irrefl _)]
  simp
theorem Grown.next (g : Grown x0 on m xs mv) (hx : xs[mv.length]? = some x) (r : GRow x0 on m xs x leads ys) (hl : leads.length = m) : Grown x0 on m ys (mv ++ [leads]) := by
 obtain ⟨more, e⟩ := r.pre
 have hlt := (List.getElem?_eq_some_iff.mp hx).1
 refine ⟨r.once, by rw [e]; exact get_app g.first, r.reach, fun i row hr => ?_, ?_⟩
 ·by_cases hi : i < mv.length
  ·rw [List.getElem?_append_left hi] at hr
   obtain ⟨h1, y, h2, h3⟩ := g.row i row hr
   exact ⟨h1, y, by rw [e]; exact get_app h2, fun c t ht => by rw [e]; exact get_app (h3 c t ht)⟩
  ·have hb := (List.getElem?_eq_some_iff.mp hr).1
   rw [List.length_append] at hb
   have ei : i = mv.length := by simp at hb; omega
   subst ei
   rw [List.getElem?_append_right (Nat.le_refl _), Nat.sub_self] at hr
   have := Option.some.inj hr
   subst this
   exact ⟨hl, x, by rw [e]; exact get_app hx, r.at'⟩
 ·rw [rowsGo_app, g.go]
  show (if 0 + mv.length < xs.length then rowGo leads xs.length else none) = _
  rw [if_pos (by omega)]; exact r.go
end
def Reps {P : Program} {w : World} {α : Type} (R : DictM P w α) (H : Hp) (vs : List V) (xs : List α) : Prop := Paired (fun v x => R.Rep x v H) vs xs
section
variable {P : Program} {w : World} {α : Type} (R : DictM P w α) (many : Nat) (on : α → Nat → α) (yes : α → Bool) (Ok : α → Prop) (Ev : Hp → Prop)
def spOn : Sp := fun vs H Q _ => ∃ (x : α) (v : V) (a : Nat), vs = [v, .int a] ∧ R.Rep x v H ∧ Ok x ∧ a < many ∧ Ev H ∧ ∀ v' H', Same H H' → R.Rep (on x a) v' H' → Q v' H'
def spYs : Sp := fun vs H Q _ => ∃ (x : α) (v : V), vs = [v] ∧ R.Rep x v H ∧ Ok x ∧ Ev H ∧ ∀ H', Same H H' → Q (.bl (yes x)) H'
def spGrown (f1 f2 : Addr) : Sp := fun vs H Q _ => ∃ (x0 : α) (v0 : V) (most : Nat), vs = [v0, .int many, .ref f1, .ref f2, .int most] ∧ R.Rep x0 v0 H ∧ Ok x0 ∧ Ev H ∧ most ≤ 10000 ∧ many ≤ 1000 ∧
 (∀ (xs : List α) (H' : Hp), Same H H' → xs.Nodup → (∀ x ∈ xs, ∃ w, Word many w ∧ x = runA on x0 w) → most < xs.length → Q .non H') ∧
 ∀ (xs : List α) (mv : List (List Nat)) (vs : List V) (p Rr ya va : Addr) (ps : List Addr) (H' : Hp), Same H H' → H Rr = none → mv.length = xs.length → xs.length ≤ most → Grown x0 on many xs mv → H' p = some (.tup [.ref Rr, .ref ya, .ref va]) → H' Rr = some (.lst vs) → Reps R H' vs xs → H' ya = some (.tup ((xs.map yes).map V.bl)) → H' va = some (.tup (ps.map V.ref)) → Tups H' ps (mv.map castI) → Q (.ref p) H'
end
theorem ktu_upd {H : Hp} {a : Addr} {o o' : HO} (h : H a = some o) (hn : ∀ l, o ≠ .tup l) : KTu H (upd H a o') := fun b xs e => by
 rw [upd_ne (ne_of e h fun z => hn xs z.symm)]; exact e
theorem ktu_kb {H H' : Hp} {a : Addr} {o : HO} (h : H a = some o) (hn : ∀ l, o ≠ .tup l) (k : KB a H H') : KTu H H' := fun b xs e => k _ _ e (ne_of e h fun z => hn xs z.symm)
theorem Reps.keep {P : Program} {w : World} {α : Type} {R : DictM P w α} {H H' : Hp} {vs : List V} {xs : List α} (h : Reps R H vs xs) (k : KTu H H') : Reps R H' vs xs := Paired.mapP h fun _ _ z => R.same z k
theorem Reps.at {P : Program} {w : World} {α : Type} {R : DictM P w α} {H : Hp} : ∀ {vs : List V} {xs : List α} {i : Nat} {x : α}, Reps R H vs xs → xs[i]? = some x → ∃ v, vs[i]? = some v ∧ R.Rep x v H
 | _, _, _, _, .nil, e => by simp at e
 | _, _, 0, _, .cons r _, e => by simp at e; subst e; exact ⟨_, rfl, r⟩
 | _, _, i + 1, _, .cons _ t, e => by
  simp only [List.getElem?_cons_succ] at e ⊢
  exact Reps.at t e
theorem sc_grown_from : FnScope ["first", "many", "onward", "is_yes", "most", "rooms", "numbers", "moves", "room", "leads", "letter", "to", "yes"] ["first", "many", "onward", "is_yes", "most"] (defScope s_grown_from) := ⟨rfl, rfl, rfl, by decide +kernel, rfl, by decide +kernel, by decide +kernel⟩
set_option maxHeartbeats 16000000 in
theorem ok_grown_from {a : Adr} (T : Txt K mg a) {α : Type} (R : DictM P w α) {many : Nat} {on : α → Nat → α} {yes : α → Bool} {Ok : α → Prop} {Ev : Hp → Prop} {f1 f2 : Addr} {k : Nat}
  (F1 : FnAt P w K mg base k f1 2 (spOn R many on Ok Ev)) (F2 : FnAt P w K mg base k f2 1 (spYs R yes Ok Ev)) (okS : ∀ x a, Ok x → a < many → Ok (on x a)) (evS : ∀ H H', Ev H → Same H H' → Ev H') :
  FnOk P w K mg base CX0 (k + 1) a.f_grown_from a.fd_grown_from ["first", "many", "onward", "is_yes", "most"] (spGrown R many on yes Ok Ev f1 f2) := by
 obtain ⟨o1, fd1, ps1, ho1, hf1, hl1, hb1, G1⟩ := F1
 obtain ⟨o2, fd2, ps2, ho2, hf2, hl2, hb2, G2⟩ := F2
 refine T.F_grown_from.ok sc_grown_from (fun vs H Q E h => ?_) (fun Ar outer sh H vs Q E hr h => ?_)
 ·obtain ⟨x0, v0, most, rfl, _⟩ := h
  rfl
 ·obtain ⟨x0, v0, most, rfl, r0, k0, ev0, hbm, hmany, q0, q⟩ := h
  refine ⟨_, (pss_cons (ps_set (i := 5) sc_grown_from.nd rfl (Or.inl rfl) (pe_lst (pa_cons (pv 0) pa_nil)))
  (pss_cons (ps_set (i := 6) sc_grown_from.nd rfl (Or.inl rfl) (R.disp (hu8_of hr) (pv 0) pe_int rfl rfl))
  (pss_cons (ps_set (i := 7) sc_grown_from.nd rfl (Or.inl rfl) (pe_lst pa_nil))
  (pss_cons (ps_while PassesOwn.never (pt_chain op_lt op_le (pe_callB (call_lenK K) (by rfl) T.z_len bt_len (pa_cons (pv 7) pa_nil)) (pe_callB (call_lenK K) (by rfl) T.z_len bt_len (pa_cons (pv 5) pa_nil)) (pv 4))
   (pss_cons (ps_set (i := 8) sc_grown_from.nd rfl (Or.inl rfl) (pe_ix (ix_listK K) (pv 5) (pe_callB (call_lenK K) (by rfl) T.z_len bt_len (pa_cons (pv 7) pa_nil)) (fun _ _ => rfl)))
   (pss_cons (ps_set (i := 9) sc_grown_from.nd rfl (Or.inl rfl) (pe_lst pa_nil))
   (pss_cons (ps_for PassesOwn.never rfl (pi_range1 rfl T.z_range (pa_cons (pv 1) pa_nil)) (pg_name (i := 10) sc_grown_from.nd rfl (Or.inl rfl))
    (pss_cons (ps_set (i := 11) sc_grown_from.nd rfl (Or.inl rfl) (pe_callV (i := 2) G1 ho1 hf1 hr hb1 rfl (Or.inl rfl) (pa_cons (pv 8) (pa_cons (pv 10) pa_nil))))
    (pss_cons (ps_if (pt_cmp (pc_mnotin (P := P) (w := w) (hu8_of hr) (pv 11) (pv 6)) (by with_unfolding_all rfl))
     (pss_cons (ps_mput (P := P) (w := w) (hu8_of hr) (pv 6) (pv 11) (pe_callB (call_lenK K) (by rfl) T.z_len bt_len (pa_cons (pv 5) pa_nil)) rfl)
     (pss_one (ps_expr (pe_bm PySem.F.plainAttrs_list PySem.F.slot_list_append PySem.F.type_list_append mt_append (pv 5) (pa_cons (pv 11) pa_nil)))))
     pss_nil)
    (pss_one (ps_expr (pe_bm PySem.F.plainAttrs_list PySem.F.slot_list_append PySem.F.type_list_append mt_append (pv 9) (pa_cons (pe_mget (P := P) (w := w) (hu8_of hr) (pv 6) (pv 11) (fun _ _ => rfl)) pa_nil)))))))
   (pss_one (ps_expr (pe_bm PySem.F.plainAttrs_list PySem.F.slot_list_append PySem.F.type_list_append mt_append (pv 7) (pa_cons (pe_callTy (call_tupleK K) (by rfl) T.z_tuple bt_tuple (pa_cons (pv 9) pa_nil)) pa_nil))))))))
  (pss_cons (ps_if (pt_cmpR op_gt (pe_callB (call_lenK K) (by rfl) T.z_len bt_len (pa_cons (pv 5) pa_nil)) (pv 4) (nomark _))
   (pss_one (ps_ret pe_non))
   pss_nil)
  (pss_cons (ps_set (i := 12) sc_grown_from.nd rfl (Or.inl rfl) (pe_callTy (call_tupleK K) (by rfl) T.z_tuple bt_tuple (pa_cons (pe_comp (CompScope.mk' (esc := defScope s_grown_from) (N := ["first", "many", "onward", "is_yes", "most", "rooms", "numbers", "moves", "room", "leads", "letter", "to", "yes"]) (own := ["room"]) (frn := ["is_yes"]) (frj := [3]) rfl rfl (by decide +kernel)) rfl (pi_list (pv 5)) (fun _ _ _ _ => (pg_name (i := 0) (show List.Nodup (["room", "is_yes"] : List Str) by decide +kernel) rfl (Or.inl rfl))) (fun _ _ _ _ => pifs_nil) (fun _ _ _ _ => (pe_callTy call_bool1 (by rfl) T.z_bool bt_bool (pa_cons (pe_callV (i := 1) G2 ho2 hf2 hr hb2 (by rfl) (by first | exact Or.inl rfl | exact Or.inr (Or.inl rfl) | exact Or.inr (Or.inr rfl)) (pa_cons (pv 0) pa_nil)) pa_nil)))) pa_nil)))
  (pss_one (ps_ret (pe_tup (pa_cons (pv 5) (pa_cons (pv 12) (pa_cons (pe_callTy (call_tupleK K) (by rfl) T.z_tuple bt_tuple (pa_cons (pv 7) pa_nil)) pa_nil)))))))))))), ?_⟩
  have big : (100000 : Nat) ≤ sizeLine := by decide
  have okRun : ∀ (w : List Nat) (x : α), Ok x → Word many w → Ok (runA on x w) := by
   intro w
   induction w with
   | nil => intro x hx _; exact hx
   | cons c w ih => intro x hx hw; exact ih _ (okS x c hx (hw c List.mem_cons_self)) fun z hz => hw z (List.mem_cons_of_mem _ hz)
  refine hideS fun Y hY => ?_
  refine ⟨_, rfl, by show 1 ≤ sizeLine; omega, fun Rr hR => ?_⟩
  have sR := Same.new (o := .lst [v0]) hR
  dsimp only [gName]
  subst hY
  refine hideS fun Y hY => ?_
  refine ⟨x0, v0, rfl, R.same r0 sR.kt, fun D H2 hD s2 num => ?_⟩
  have eR2 : H2 Rr = some (.lst [v0]) := s2 _ _ upd_same
  have hD0 : H D = none := sR.free hD
  have DR : Rr ≠ D := ne_of_none (show (upd H Rr (.lst [v0])) Rr = some (.lst [v0]) from upd_same) hD
  dsimp only [gName]
  subst hY
  refine hideS fun Y hY => ?_
  refine ⟨by show 0 ≤ sizeLine; omega, fun M hM => ?_⟩
  have sM := Same.new (o := .lst []) hM
  have hM0 : H M = none := sR.free (s2.free hM)
  have MR : M ≠ Rr := (ne_of_none eR2 hM).symm
  obtain ⟨oD, eoD, _, _⟩ := R.isD num
  have MD : M ≠ D := (ne_of_none eoD hM).symm
  have sH3 := (sR.trans s2).trans sM
  dsimp only [gName]
  subst hY
  refine seq_restN (t := tWhile _ _) (u := tSeq _ _) (fun σ H' => ∃ (xs : List α) (mv : List (List Nat)) (vs : List V) (ps : List Addr) (v8 v9 v10 v11 : Option V), σ = [some v0, some (.int (many : Nat)), some (.ref f1), some (.ref f2), some (.int (most : Nat)), some (.ref Rr), some (.ref D), some (.ref M), v8, v9, v10, v11, none] ∧ Same H H' ∧
   H' Rr = some (.lst vs) ∧ Reps R H' vs xs ∧ H' M = some (.lst (ps.map V.ref)) ∧ Tups H' ps (mv.map castI) ∧ Grown x0 on many xs mv ∧ xs.length ≤ 20000 ∧ (xs.length ≤ most → mv.length = xs.length)) ?re (fun Y rest => ?_)
  case re =>
   rintro σ H' ⟨xs, mv, vs, ps, v8, v9, v10, v11, rfl, s', eR, rp, eM, tp, g, lx, hl⟩
   have lvs : vs.length = xs.length := Paired.length rp
   have lps : ps.length = mv.length := by rw [Paired.length tp, List.length_map]
   refine hideS fun Y hY => ?_
   refine ⟨_, rfl, _, vs.length, rfl, .inl ⟨_, .of eR, rfl⟩, _, rfl, _, _, rfl, rfl, _, rfl, ?_⟩
   by_cases hc : xs.length ≤ most
   rotate_left
   ·rw [show decide ((most : Int) < ((vs.length : Nat) : Int)) = true from decide_eq_true (by omega)]
    exact iteT (q0 xs H' s' g.once g.reach (by omega))
   have hl := hl hc
   rw [show decide ((most : Int) < ((vs.length : Nat) : Int)) = false from decide_eq_false (by omega)]
   refine iteF ?_
   subst hY
   dsimp only [tNext]
   refine hideS fun Y hY => ?_
   refine ⟨_, rfl, Rr, rfl, ⟨_, .of eR⟩, fun C hC => ?_⟩
   refine comp_list (xs := vs) (fun j σ H2 => ∃ v : Option V, σ = [v, some (.ref f2)] ∧ Same H' H2 ∧ H2 C = some (.lst (((xs.take j).map yes).map V.bl)))
    ⟨none, ?sg, Same.new hC, upd_same⟩ (fun j σ H2 _ ⟨_, _, s2, _⟩ => .of (s2 _ _ eR)) ?_ ?_
   case sg => rfl
   ·rintro j y σ H2 hy ⟨v, rfl, s2, c2⟩
    have hj : j < xs.length := by rw [← lvs]; exact (List.getElem?_eq_some_iff.mp hy).1
    have ex : xs[j]? = some xs[j] := List.getElem?_eq_getElem hj
    obtain ⟨v', hv', rv⟩ := rp.at ex
    rw [hy] at hv'
    have hv2 := Option.some.inj hv'
    subst hv2
    obtain ⟨w, hw, ew⟩ := g.reach xs[j] (List.getElem_mem ..)
    have okx : Ok xs[j] := by rw [ew]; exact okRun w x0 k0 hw
    refine ⟨rfl, _, rfl, xs[j], y, rfl, R.same rv s2.kt, okx, evS _ _ ev0 (s'.trans s2), fun H3 s3 => ?_⟩
    refine .inr ⟨_, rfl, _, s3 _ _ c2, by rw [List.length_map, List.length_map, List.length_take]; omega, _, rfl, (s2.trans s3).kbn hC KB.write, ?_⟩
    rw [upd_same, take_snoc ex, List.map_append, List.map_append]; rfl
   rintro σ H2 ⟨v, rfl, s2, c2⟩
   rw [lvs, List.take_length] at c2
   refine ⟨C, _, rfl, .inl ⟨.of c2, fun Ya hYa => ?_⟩⟩
   have sY := Same.new (o := .tup ((xs.map yes).map V.bl)) hYa
   dsimp only [gName]
   subst hY
   refine ⟨_, rfl, _, rfl, _, rfl, M, _, rfl, .inl ⟨.of (sY _ _ (s2 _ _ eM)), fun Va hVa => ⟨by show 3 ≤ sizeLine; omega, fun p hp => ?_⟩⟩⟩
   have sV := Same.new (o := .tup (ps.map V.ref)) hVa
   have sP := Same.new (o := .tup [.ref Rr, .ref Ya, .ref Va]) hp
   have sAll := ((s2.trans sY).trans sV).trans sP
   exact q xs mv vs p Rr Ya Va ps _ (s'.trans sAll) hR hl hc g upd_same (sAll _ _ eR) (rp.keep sAll.kt) (sP _ _ (sV _ _ upd_same)) (sP _ _ upd_same) (tp.keep sAll.kt)
  refine whileMN (fun m σ H' => ∃ (xs : List α) (mv : List (List Nat)) (vs : List V) (ps : List Addr) (v8 v9 v10 v11 : Option V), m = most + 1 - mv.length ∧ σ = [some v0, some (.int (many : Nat)), some (.ref f1), some (.ref f2), some (.int (most : Nat)), some (.ref Rr), some (.ref D), some (.ref M), v8, v9, v10, v11, none] ∧ Same H H' ∧
    H' Rr = some (.lst vs) ∧ Reps R H' vs xs ∧ R.Num H' D xs ∧ H' M = some (.lst (ps.map V.ref)) ∧ Tups H' ps (mv.map castI) ∧ Grown x0 on many xs mv ∧ mv.length ≤ xs.length ∧ xs.length ≤ 20000)
   ⟨_, [x0], [], [v0], [], none, none, none, none, rfl, rfl, sH3, sM _ _ eR2, .cons (R.same r0 sH3.kt) .nil, R.keep num (upd_ne MD.symm) sM.kt, upd_same, .nil, Grown.begin, by simp, by simp⟩ ?_ ?_
  ·rintro m σ H4 N hN ⟨xs, mv, vs, ps, v8, v9, v10, v11, rfl, rfl, s4, eR, rp, nm, eM, tp, g, hl, lx⟩
   have lvs : vs.length = xs.length := Paired.length rp
   have lps : ps.length = mv.length := by rw [Paired.length tp, List.length_map]
   refine ⟨_, rfl, _, ps.length, rfl, .inl ⟨_, .of eM, by rw [List.length_map]⟩, _, rfl, _, vs.length, rfl, .inl ⟨_, .of eR, rfl⟩, _, _, rfl, rfl, _, rfl, ?_⟩
   by_cases hlt : mv.length < xs.length
   ·rw [show decide (((ps.length : Nat) : Int) < ((vs.length : Nat) : Int)) = true from decide_eq_true (by omega)]
    refine iteT ⟨_, rfl, _, _, rfl, rfl, _, rfl, ?_⟩
    by_cases hc : xs.length ≤ most
    rotate_left
    ·rw [show decide (((vs.length : Nat) : Int) ≤ ((most : Nat) : Int)) = false from decide_eq_false (by omega)]
     refine iteF ?_
     exact rest _ _ ⟨xs, mv, vs, ps, v8, v9, v10, v11, rfl, s4, eR, rp, eM, tp, g, lx, fun z => absurd z hc⟩
    rw [show decide (((vs.length : Nat) : Int) ≤ ((most : Nat) : Int)) = true from decide_eq_true (by omega)]
    refine iteT ?_
    refine hideS fun Y hY => ?_
    obtain ⟨x, ex⟩ : ∃ x, xs[mv.length]? = some x := ⟨_, List.getElem?_eq_getElem hlt⟩
    obtain ⟨vx, hvx, rx⟩ := rp.at ex
    have rchx := g.reach x (List.mem_of_getElem? ex)
    have okx : Ok x := by obtain ⟨w, hw, ew⟩ := rchx; rw [ew]; exact okRun w x0 k0 hw
    refine ⟨_, rfl, _, rfl, _, ps.length, rfl, .inl ⟨_, .of eM, by rw [List.length_map]⟩, Rr, _, _, vx, rfl, rfl, .of eR, atI_nat (by rw [lps]; exact hvx), ?_⟩
    dsimp only [gName]
    subst hY
    refine hideS fun Y hY => ?_
    refine ⟨by show 0 ≤ sizeLine; omega, fun L hL => ?_⟩
    have sL := Same.new (o := .lst []) hL
    have hL0 : H L = none := s4.free hL
    have LR : L ≠ Rr := (ne_of_none eR hL).symm
    have LM : L ≠ M := (ne_of_none eM hL).symm
    obtain ⟨oD4, eoD4, _, _⟩ := R.isD nm
    have LD : L ≠ D := (ne_of_none eoD4 hL).symm
    dsimp only [gName]
    subst hY
    refine hideS fun Y hY => ?_
    refine ⟨_, rfl, _, rfl, by omega, by omega, for_rangeN (n := (many : Int).toNat) (fun j σ H' => ∃ (ys : List α) (us : List V) (leads : List Nat) (v10 v11 : Option V), σ = [some v0, some (.int (many : Nat)), some (.ref f1), some (.ref f2), some (.int (most : Nat)), some (.ref Rr), some (.ref D), some (.ref M), some vx, some (.ref L), v10, v11, none] ∧ Same H H' ∧ KTu H4 H' ∧
      H' Rr = some (.lst us) ∧ Reps R H' us ys ∧ R.Num H' D ys ∧ H' M = some (.lst (ps.map V.ref)) ∧ H' L = some (.lst ((castI leads).map V.int)) ∧ leads.length = j ∧ GRow x0 on many xs x leads ys)
     ⟨xs, vs, [], v10, v11, rfl, s4.trans sL, sL.kt, sL _ _ eR, rp.keep sL.kt, R.keep nm (upd_ne LD.symm) sL.kt, sL _ _ eM, upd_same, rfl, GRow.start g⟩ ?_ ?_⟩
    ·rintro j σ H5 N2 hN2 hj ⟨ys, us, leads, v10, v11, rfl, s5, kt5, eR5, rp5, nm5, eM5, eL5, ll, gr⟩
     have ej : (0 : Int) + (j : Int) = ((j : Nat) : Int) := by omega
     rw [ej]
     have hjm : j < many := by omega
     have ly := rowGo_up _ _ _ gr.go
     have lus : us.length = ys.length := Paired.length rp5
     dsimp only [gName]
     refine hideS fun Y hY => ?_
     refine ⟨rfl, _, rfl, _, rfl, x, vx, j, rfl, R.same rx kt5, okx, hjm, evS _ _ ev0 s5, fun to H6 s6 rto => ?_⟩
     have eR6 := s6 _ _ eR5
     have eM6 := s6 _ _ eM5
     have eL6 := s6 _ _ eL5
     have rp6 := rp5.keep s6.kt
     obtain ⟨oD5, eoD5, nD1, nD2⟩ := R.isD nm5
     have nm6 := R.keep nm5 ((s6 _ _ eoD5).trans eoD5.symm) s6.kt
     have eoD6 := s6 _ _ eoD5
     have kt6 : KTu H4 H6 := fun b l z => s6 _ _ (kt5 _ _ z)
     have sH6 := s5.trans s6
     dsimp only [gName]
     subst hY
     refine seq_restN (t := tIfS _ _ _) (u := tDrop _) (fun σ H' => ∃ (zs : List α) (ws : List V) (t : Nat), σ = [some v0, some (.int (many : Nat)), some (.ref f1), some (.ref f2), some (.int (most : Nat)), some (.ref Rr), some (.ref D), some (.ref M), some vx, some (.ref L), some (.int (j : Nat)), some to, none] ∧ Same H H' ∧ KTu H6 H' ∧
      H' Rr = some (.lst ws) ∧ Reps R H' ws zs ∧ R.Num H' D zs ∧ H' M = some (.lst (ps.map V.ref)) ∧ H' L = some (.lst ((castI leads).map V.int)) ∧ zs[t]? = some (on x j) ∧ GRow x0 on many xs x (leads ++ [t]) zs) ?re2 (fun Y rest2 => ?_)
     case re2 =>
      rintro σ H7 ⟨zs, ws, t, rfl, s7, kt7, eR7, rp7, nm7, eM7, eL7, hz, gr7⟩
      refine ⟨_, rfl, Or.inl ⟨rfl, _, .of eL7⟩, _, rfl, _, rfl, D, _, rfl, R.there nm7 (R.same rto kt7) gr7.once hz, L, _, _, rfl, rfl, eL7, by rw [List.length_map, castI_len]; omega, ?_⟩
      have kL : KTu H7 (upd H7 L (.lst ((castI leads).map V.int ++ [.int (t : Nat)]))) := ktu_upd eL7 (fun l z => nomatch z)
      refine hN2 _ _ ⟨zs, ws, leads ++ [t], _, _, rfl, s7.kbn hL0 KB.write, fun b l z => kL _ _ (kt7 _ _ (kt6 _ _ z)), by rw [upd_ne LR.symm]; exact eR7, rp7.keep kL, R.keep nm7 (upd_ne LD.symm) kL, by rw [upd_ne LM.symm]; exact eM7, ?_, by rw [List.length_append, ll]; rfl, gr7⟩
      rw [upd_same, castI_app, List.map_append]; rfl
     by_cases hm : on x j ∈ ys
     ·obtain ⟨i, hi⟩ := List.getElem?_of_mem hm
      refine ⟨_, rfl, _, rfl, D, _, rfl, R.there nm6 rto gr.once hi, _, rfl, ?_⟩
      refine iteF ?_
      exact rest2 _ _ ⟨ys, us, i, rfl, sH6, fun _ _ z => z, eR6, rp6, nm6, eM6, eL6, hi, gr.old (by rw [ll]; exact hi)⟩
     ·refine ⟨_, rfl, _, rfl, D, _, rfl, R.miss nm6 rto gr.once hm, _, rfl, ?_⟩
      refine iteT ?_
      obtain ⟨H7, hput, kb7, nm7⟩ := R.put nm6 rto gr.once hm (by omega)
      have gr' := gr.new (by omega) rchx (by rw [ll]; exact hm)
      rw [ll] at gr'
      have eR7 := kb7 _ _ eR6 DR
      refine ⟨_, rfl, _, us.length, rfl, .inl ⟨_, .of eR6, rfl⟩, _, rfl, _, rfl, D, H7, rfl, by rw [lus]; exact hput, ?_⟩
      refine ⟨_, rfl, Or.inl ⟨rfl, _, .of eR7⟩, _, rfl, Rr, _, _, rfl, rfl, eR7, by omega, ?_⟩
      have kt7 : KTu H6 H7 := ktu_kb eoD6 nD2 kb7
      have kR : KTu H7 (upd H7 Rr (.lst (us ++ [to]))) := ktu_upd eR7 (fun l z => nomatch z)
      have kt8 : KTu H6 (upd H7 Rr (.lst (us ++ [to]))) := fun b l z => kR _ _ (kt7 _ _ z)
      refine rest2 _ _ ⟨ys ++ [on x j], us ++ [to], ys.length, rfl, (sH6.kbn hD0 kb7).kbn hR KB.write, kt8, upd_same, ?_, R.keep nm7 (upd_ne DR.symm) kR, by rw [upd_ne MR]; exact kb7 _ _ eM6 MD, by rw [upd_ne LR]; exact kb7 _ _ eL6 LD, by rw [List.getElem?_append_right (Nat.le_refl _), Nat.sub_self]; rfl, gr'⟩
      exact paired_snoc (rp6.keep kt8) (R.same rto kt8)
    ·rintro σ H5 ⟨ys, us, leads, v10, v11, rfl, s5, kt5, eR5, rp5, nm5, eM5, eL5, ll, gr⟩
     subst hY
     have ll2 : leads.length = many := by rw [ll]; omega
     have g2 := g.next ex gr ll2
     have ly := rowGo_up _ _ _ gr.go
     obtain ⟨more, emore⟩ := gr.pre
     have lxy : xs.length ≤ ys.length := by rw [emore, List.length_append]; omega
     refine ⟨_, rfl, Or.inl ⟨rfl, _, .of eM5⟩, _, rfl, L, _, rfl, .inl ⟨.of eL5, fun t ht => ?_⟩⟩
     have sT := Same.new (o := .tup ((castI leads).map V.int)) ht
     have nMt : M ≠ t := ne_of_none eM5 ht
     have nRt : Rr ≠ t := ne_of_none eR5 ht
     obtain ⟨oD5, eoD5, nD1, nD2⟩ := R.isD nm5
     have nDt : D ≠ t := ne_of_none eoD5 ht
     have eM6 := sT _ _ eM5
     refine ⟨M, _, _, rfl, rfl, eM6, by rw [List.length_map]; omega, ?_⟩
     have kM : KTu (upd H5 t (.tup ((castI leads).map V.int))) (upd (upd H5 t (.tup ((castI leads).map V.int))) M (.lst (ps.map V.ref ++ [.ref t]))) := ktu_upd eM6 (fun l z => nomatch z)
     have kA : KTu H5 (upd (upd H5 t (.tup ((castI leads).map V.int))) M (.lst (ps.map V.ref ++ [.ref t]))) := fun b l z => kM _ _ (sT.kt _ _ z)
     refine hN _ _ _ ?_ ⟨ys, mv ++ [leads], us, ps ++ [t], _, _, _, _, rfl, rfl, (s5.trans sT).kbn hM0 KB.write, by rw [upd_ne MR.symm]; exact sT _ _ eR5, rp5.keep kA, R.keep nm5 (by rw [upd_ne MD.symm, upd_ne nDt]) kA, by rw [upd_same, List.map_append]; rfl, ?_, g2, by rw [List.length_append]; simp; omega, by omega⟩
     ·rw [List.length_append]; simp; omega
     ·rw [List.map_append]
      exact paired_snoc ((tp.keep kt5).keep kA) (by rw [upd_ne nMt.symm, upd_same])
   ·have e : mv.length = xs.length := by omega
    rw [show decide (((ps.length : Nat) : Int) < ((vs.length : Nat) : Int)) = false from decide_eq_false (by omega)]
    refine iteF ⟨_, rfl, iteF ?_⟩
    exact rest _ _ ⟨xs, mv, vs, ps, v8, v9, v10, v11, rfl, s4, eR, rp, eM, tp, g, lx, fun _ => e⟩
  ·rintro σ H Q Q' h ⟨v, e1, v2, n1, e2, l1, v3, e3, v4, n2, e4, l2, i, j, e5, e6, k, e7, z⟩
   refine ⟨v, e1, v2, n1, e2, l1, v3, e3, v4, n2, e4, l2, i, j, e5, e6, k, e7, ?_⟩
   cases k with
   | false =>
    rw [if_neg Bool.false_ne_true] at z ⊢
    obtain ⟨k', e8, q⟩ := z
    exact ⟨k', e8, h _ _ q⟩
   | true =>
    rw [if_pos rfl] at z ⊢
    obtain ⟨v5, e9, i2, j2, e10, e11, k2, e12, q⟩ := z
    exact ⟨v5, e9, i2, j2, e10, e11, k2, e12, h _ _ q⟩
def spLGrown {P : Program} {w : World} {α : Type} (R : DictM P w α) (many : Nat) (on : α → Nat → α) (Ok : α → Prop) (Ev : Hp → Prop) (f1 : Addr) : Sp := fun vs H Q _ => ∃ (x0 : α) (v0 : V) (most : Nat), vs = [v0, .int many, .ref f1, .int most] ∧ R.Rep x0 v0 H ∧ Ok x0 ∧ Ev H ∧ 1 ≤ most ∧ most ≤ 10000 ∧ many ≤ 1000 ∧
 (∀ (xs : List α) (H' : Hp), Same H H' → xs.Nodup → (∀ x ∈ xs, ∃ w, Word many w ∧ x = runA on x0 w) → most < xs.length → Q .non H') ∧
 ∀ (xs : List α) (mv : List (List Nat)) (vs : List V) (p Rr va : Addr) (ps : List Addr) (H' : Hp), Same H H' → H Rr = none → mv.length = xs.length → xs.length ≤ most → Grown x0 on many xs mv → H' p = some (.tup [.ref Rr, .ref va]) → H' Rr = some (.lst vs) → Reps R H' vs xs → H' va = some (.tup (ps.map V.ref)) → Tups H' ps (mv.map castI) → Q (.ref p) H'
theorem sc_l_grown : FnScope ["_law_first", "_law_many", "_law_onward", "_law_most", "_law_came", "_law_numbers", "_law_moves", "_law_found", "_law_k", "_law_room"] ["_law_first", "_law_many", "_law_onward", "_law_most"] (defScope s_l_grown) := ⟨rfl, rfl, rfl, by decide +kernel, rfl, by decide +kernel, by decide +kernel⟩
set_option maxHeartbeats 16000000 in
theorem ok_l_grown {a : Adr} (T : Txt K mg a) {α : Type} (R : DictM P w α) {many : Nat} {on : α → Nat → α} {Ok : α → Prop} {Ev : Hp → Prop} {f1 : Addr} {k : Nat}
  (F1 : FnAt P w K mg base k f1 2 (spOn R many on Ok Ev)) (okS : ∀ x a, Ok x → a < many → Ok (on x a)) (evS : ∀ H H', Ev H → Same H H' → Ev H') :
  FnOk P w K mg base CX0 (k + 1) a.f_l_grown a.fd_l_grown ["_law_first", "_law_many", "_law_onward", "_law_most"] (spLGrown R many on Ok Ev f1) := by
 obtain ⟨o1, fd1, ps1, ho1, hf1, hl1, hb1, G1⟩ := F1
 refine T.F_l_grown.ok sc_l_grown (fun vs H Q E h => ?_) (fun cdv Ar outer sh H vs Q E hr h => ?_)
 ·obtain ⟨x0, v0, most, rfl, _⟩ := h
  rfl
 ·obtain ⟨x0, v0, most, rfl, r0, k0, ev0, hm1, hbm, hmany, q0, q⟩ := h
  refine ⟨_, (pss_cons (ps_set (i := 4) sc_l_grown.nd rfl (Or.inl rfl) (pe_lst (pa_cons (pv 0) pa_nil)))
  (pss_cons (ps_set (i := 5) sc_l_grown.nd rfl (Or.inl rfl) (R.disp (hu8_of hr) (pv 0) pe_int rfl rfl))
  (pss_cons (ps_set (i := 6) sc_l_grown.nd rfl (Or.inl rfl) (pe_lst pa_nil))
  (pss_cons (ps_while PassesOwn.never (pt_cmpR op_lt (pe_callB (call_lenK K) (by rfl) T.z_len bt_len (pa_cons (pv 6) pa_nil)) (pe_callB (call_lenK K) (by rfl) T.z_len bt_len (pa_cons (pv 4) pa_nil)) (nomark _))
   (pss_cons (ps_set (i := 7) sc_l_grown.nd rfl (Or.inl rfl) (pe_lst pa_nil))
   (pss_cons (ps_for PassesOwn.never rfl (pi_range1 rfl T.z_range (pa_cons (pv 1) pa_nil)) (pg_name (i := 8) sc_l_grown.nd rfl (Or.inl rfl))
    (pss_cons (ps_set (i := 9) sc_l_grown.nd rfl (Or.inl rfl) (pe_callV (i := 2) G1 ho1 hf1 hr hb1 rfl (Or.inl rfl) (pa_cons (pe_ix (ix_listK K) (pv 4) (pe_callB (call_lenK K) (by rfl) T.z_len bt_len (pa_cons (pv 6) pa_nil)) (fun _ _ => rfl)) (pa_cons (pv 8) pa_nil))))
    (pss_cons (ps_if (pt_cmp (pc_mnotin (P := P) (w := w) (hu8_of hr) (pv 9) (pv 5)) (by with_unfolding_all rfl))
     (pss_cons (ps_mput (P := P) (w := w) (hu8_of hr) (pv 5) (pv 9) (pe_callB (call_lenK K) (by rfl) T.z_len bt_len (pa_cons (pv 4) pa_nil)) rfl)
     (pss_one (ps_expr (pe_bm PySem.F.plainAttrs_list PySem.F.slot_list_append PySem.F.type_list_append mt_append (pv 4) (pa_cons (pv 9) pa_nil)))))
     pss_nil)
    (pss_one (ps_expr (pe_bm PySem.F.plainAttrs_list PySem.F.slot_list_append PySem.F.type_list_append mt_append (pv 7) (pa_cons (pe_mget (P := P) (w := w) (hu8_of hr) (pv 5) (pv 9) (fun _ _ => rfl)) pa_nil)))))))
   (pss_cons (ps_expr (pe_bm PySem.F.plainAttrs_list PySem.F.slot_list_append PySem.F.type_list_append mt_append (pv 6) (pa_cons (pe_callTy (call_tupleK K) (by rfl) T.z_tuple bt_tuple (pa_cons (pv 7) pa_nil)) pa_nil)))
   (pss_one (ps_if (pt_cmpR op_gt (pe_callB (call_lenK K) (by rfl) T.z_len bt_len (pa_cons (pv 4) pa_nil)) (pv 3) (nomark _))
    (pss_one (ps_ret pe_non))
    pss_nil))))))
  (pss_one (ps_ret (pe_tup (pa_cons (pv 4) (pa_cons (pe_callTy (call_tupleK K) (by rfl) T.z_tuple bt_tuple (pa_cons (pv 6) pa_nil)) pa_nil))))))))), ?_⟩
  have big : (100000 : Nat) ≤ sizeLine := by decide
  have okRun : ∀ (w : List Nat) (x : α), Ok x → Word many w → Ok (runA on x w) := by
   intro w
   induction w with
   | nil => intro x hx _; exact hx
   | cons c w ih => intro x hx hw; exact ih _ (okS x c hx (hw c List.mem_cons_self)) fun z hz => hw z (List.mem_cons_of_mem _ hz)
  refine hideS fun Y hY => ?_
  refine ⟨_, rfl, by show 1 ≤ sizeLine; omega, fun Rr hR => ?_⟩
  have sR := Same.new (o := .lst [v0]) hR
  dsimp only [gName]
  subst hY
  refine hideS fun Y hY => ?_
  refine ⟨x0, v0, rfl, R.same r0 sR.kt, fun D H2 hD s2 num => ?_⟩
  have eR2 : H2 Rr = some (.lst [v0]) := s2 _ _ upd_same
  have hD0 : H D = none := sR.free hD
  have DR : Rr ≠ D := ne_of_none (show (upd H Rr (.lst [v0])) Rr = some (.lst [v0]) from upd_same) hD
  dsimp only [gName]
  subst hY
  refine hideS fun Y hY => ?_
  refine ⟨by show 0 ≤ sizeLine; omega, fun M hM => ?_⟩
  have sM := Same.new (o := .lst []) hM
  have hM0 : H M = none := sR.free (s2.free hM)
  have MR : M ≠ Rr := (ne_of_none eR2 hM).symm
  obtain ⟨oD, eoD, _, _⟩ := R.isD num
  have MD : M ≠ D := (ne_of_none eoD hM).symm
  have sH3 := (sR.trans s2).trans sM
  dsimp only [gName]
  subst hY
  refine hideS fun Y hY => ?_
  refine whileMN (fun m σ H' => ∃ (xs : List α) (mv : List (List Nat)) (vs : List V) (ps : List Addr) (v7 v8 v9 : Option V), xs.length ≤ most ∧ m = most + 1 - mv.length ∧ σ = [some v0, some (.int (many : Nat)), some (.ref f1), some (.int (most : Nat)), some (.ref Rr), some (.ref D), some (.ref M), v7, v8, v9] ∧ Same H H' ∧
    H' Rr = some (.lst vs) ∧ Reps R H' vs xs ∧ R.Num H' D xs ∧ H' M = some (.lst (ps.map V.ref)) ∧ Tups H' ps (mv.map castI) ∧ Grown x0 on many xs mv ∧ mv.length ≤ xs.length)
   ⟨_, [x0], [], [v0], [], none, none, none, hm1, rfl, rfl, sH3, sM _ _ eR2, .cons (R.same r0 sH3.kt) .nil, R.keep num (upd_ne MD.symm) sM.kt, upd_same, .nil, Grown.begin, by simp⟩ ?_ ?_
  ·rintro m σ H4 N hN ⟨xs, mv, vs, ps, v7, v8, v9, lx, rfl, rfl, s4, eR, rp, nm, eM, tp, g, hl⟩
   have lvs : vs.length = xs.length := Paired.length rp
   have lps : ps.length = mv.length := by rw [Paired.length tp, List.length_map]
   refine ⟨_, rfl, _, ps.length, rfl, .inl ⟨_, .of eM, by rw [List.length_map]⟩, _, rfl, _, vs.length, rfl, .inl ⟨_, .of eR, rfl⟩, _, _, rfl, rfl, _, rfl, ?_⟩
   by_cases hlt : mv.length < xs.length
   ·rw [show decide (((ps.length : Nat) : Int) < ((vs.length : Nat) : Int)) = true from decide_eq_true (by omega)]
    refine iteT ?_
    refine hideS fun Y2 hY2 => ?_
    obtain ⟨x, ex⟩ : ∃ x, xs[mv.length]? = some x := ⟨_, List.getElem?_eq_getElem hlt⟩
    have rchx := g.reach x (List.mem_of_getElem? ex)
    have okx : Ok x := by obtain ⟨w, hw, ew⟩ := rchx; rw [ew]; exact okRun w x0 k0 hw
    refine ⟨by show 0 ≤ sizeLine; omega, fun L hL => ?_⟩
    have sL := Same.new (o := .lst []) hL
    have hL0 : H L = none := s4.free hL
    have LR : L ≠ Rr := (ne_of_none eR hL).symm
    have LM : L ≠ M := (ne_of_none eM hL).symm
    obtain ⟨oD4, eoD4, _, _⟩ := R.isD nm
    have LD : L ≠ D := (ne_of_none eoD4 hL).symm
    dsimp only [gName]
    subst hY2
    refine hideS fun Y2 hY2 => ?_
    refine ⟨_, rfl, _, rfl, by omega, by omega, for_rangeN (n := (many : Int).toNat) (fun j σ H' => ∃ (ys : List α) (us : List V) (leads : List Nat) (v8 v9 : Option V), σ = [some v0, some (.int (many : Nat)), some (.ref f1), some (.int (most : Nat)), some (.ref Rr), some (.ref D), some (.ref M), some (.ref L), v8, v9] ∧ Same H H' ∧ KTu H4 H' ∧
      H' Rr = some (.lst us) ∧ Reps R H' us ys ∧ R.Num H' D ys ∧ H' M = some (.lst (ps.map V.ref)) ∧ H' L = some (.lst ((castI leads).map V.int)) ∧ leads.length = j ∧ GRow x0 on many xs x leads ys)
     ⟨xs, vs, [], v8, v9, rfl, s4.trans sL, sL.kt, sL _ _ eR, rp.keep sL.kt, R.keep nm (upd_ne LD.symm) sL.kt, sL _ _ eM, upd_same, rfl, GRow.start g⟩ ?_ ?_⟩
    ·rintro j σ H5 N2 hN2 hj ⟨ys, us, leads, v8, v9, rfl, s5, kt5, eR5, rp5, nm5, eM5, eL5, ll, gr⟩
     have ej : (0 : Int) + (j : Int) = ((j : Nat) : Int) := by omega
     rw [ej]
     have hjm : j < many := by omega
     have ly : ys.length ≤ most + 1000 := by have := rowGo_up _ _ _ gr.go; omega
     have lus : us.length = ys.length := Paired.length rp5
     obtain ⟨more, emore⟩ := gr.pre
     obtain ⟨vx, hvx, rx⟩ := rp5.at (show ys[mv.length]? = some x by rw [emore]; exact get_app ex)
     dsimp only [gName]
     refine hideS fun Y3 hY3 => ?_
     refine ⟨rfl, _, rfl, _, rfl, _, ps.length, rfl, .inl ⟨_, .of eM5, by rw [List.length_map]⟩, Rr, _, _, vx, rfl, rfl, .of eR5, atI_nat (by rw [lps]; exact hvx), _, rfl, x, vx, j, rfl, rx, okx, hjm, evS _ _ ev0 s5, fun to H6 s6 rto => ?_⟩
     have eR6 := s6 _ _ eR5
     have eM6 := s6 _ _ eM5
     have eL6 := s6 _ _ eL5
     have rp6 := rp5.keep s6.kt
     obtain ⟨oD5, eoD5, nD1, nD2⟩ := R.isD nm5
     have nm6 := R.keep nm5 ((s6 _ _ eoD5).trans eoD5.symm) s6.kt
     have eoD6 := s6 _ _ eoD5
     have kt6 : KTu H4 H6 := fun b l z => s6 _ _ (kt5 _ _ z)
     have sH6 := s5.trans s6
     dsimp only [gName]
     subst hY3
     refine seq_restN (t := tIfS _ _ _) (u := tDrop _) (fun σ H' => ∃ (zs : List α) (ws : List V) (t : Nat), σ = [some v0, some (.int (many : Nat)), some (.ref f1), some (.int (most : Nat)), some (.ref Rr), some (.ref D), some (.ref M), some (.ref L), some (.int (j : Nat)), some to] ∧ Same H H' ∧ KTu H6 H' ∧
      H' Rr = some (.lst ws) ∧ Reps R H' ws zs ∧ R.Num H' D zs ∧ H' M = some (.lst (ps.map V.ref)) ∧ H' L = some (.lst ((castI leads).map V.int)) ∧ zs[t]? = some (on x j) ∧ GRow x0 on many xs x (leads ++ [t]) zs) ?re2 (fun Y3 rest2 => ?_)
     case re2 =>
      rintro σ H7 ⟨zs, ws, t, rfl, s7, kt7, eR7, rp7, nm7, eM7, eL7, hz, gr7⟩
      refine ⟨_, rfl, Or.inl ⟨rfl, _, .of eL7⟩, _, rfl, _, rfl, D, _, rfl, R.there nm7 (R.same rto kt7) gr7.once hz, L, _, _, rfl, rfl, eL7, by rw [List.length_map, castI_len]; omega, ?_⟩
      have kL : KTu H7 (upd H7 L (.lst ((castI leads).map V.int ++ [.int (t : Nat)]))) := ktu_upd eL7 (fun l z => nomatch z)
      refine hN2 _ _ ⟨zs, ws, leads ++ [t], _, _, rfl, s7.kbn hL0 KB.write, fun b l z => kL _ _ (kt7 _ _ (kt6 _ _ z)), by rw [upd_ne LR.symm]; exact eR7, rp7.keep kL, R.keep nm7 (upd_ne LD.symm) kL, by rw [upd_ne LM.symm]; exact eM7, ?_, by rw [List.length_append, ll]; rfl, gr7⟩
      rw [upd_same, castI_app, List.map_append]; rfl
     by_cases hm : on x j ∈ ys
     ·obtain ⟨i, hi⟩ := List.getElem?_of_mem hm
      refine ⟨_, rfl, _, rfl, D, _, rfl, R.there nm6 rto gr.once hi, _, rfl, ?_⟩
      refine iteF ?_
      exact rest2 _ _ ⟨ys, us, i, rfl, sH6, fun _ _ z => z, eR6, rp6, nm6, eM6, eL6, hi, gr.old (by rw [ll]; exact hi)⟩
     ·refine ⟨_, rfl, _, rfl, D, _, rfl, R.miss nm6 rto gr.once hm, _, rfl, ?_⟩
      refine iteT ?_
      obtain ⟨H7, hput, kb7, nm7⟩ := R.put nm6 rto gr.once hm (by omega)
      have gr' := gr.new (by omega) rchx (by rw [ll]; exact hm)
      rw [ll] at gr'
      have eR7 := kb7 _ _ eR6 DR
      refine ⟨_, rfl, _, us.length, rfl, .inl ⟨_, .of eR6, rfl⟩, _, rfl, _, rfl, D, H7, rfl, by rw [lus]; exact hput, ?_⟩
      refine ⟨_, rfl, Or.inl ⟨rfl, _, .of eR7⟩, _, rfl, Rr, _, _, rfl, rfl, eR7, by omega, ?_⟩
      have kt7 : KTu H6 H7 := ktu_kb eoD6 nD2 kb7
      have kR : KTu H7 (upd H7 Rr (.lst (us ++ [to]))) := ktu_upd eR7 (fun l z => nomatch z)
      have kt8 : KTu H6 (upd H7 Rr (.lst (us ++ [to]))) := fun b l z => kR _ _ (kt7 _ _ z)
      refine rest2 _ _ ⟨ys ++ [on x j], us ++ [to], ys.length, rfl, (sH6.kbn hD0 kb7).kbn hR KB.write, kt8, upd_same, ?_, R.keep nm7 (upd_ne DR.symm) kR, by rw [upd_ne MR]; exact kb7 _ _ eM6 MD, by rw [upd_ne LR]; exact kb7 _ _ eL6 LD, by rw [List.getElem?_append_right (Nat.le_refl _), Nat.sub_self]; rfl, gr'⟩
      exact paired_snoc (rp6.keep kt8) (R.same rto kt8)
    ·rintro σ H5 ⟨ys, us, leads, v8, v9, rfl, s5, kt5, eR5, rp5, nm5, eM5, eL5, ll, gr⟩
     subst hY2
     dsimp only
     refine hideS fun Y2 hY2 => ?_
     have ll2 : leads.length = many := by rw [ll]; omega
     have g2 := g.next ex gr ll2
     have ly : ys.length ≤ most + 1000 := by have := rowGo_up _ _ _ gr.go; omega
     obtain ⟨more, emore⟩ := gr.pre
     have lxy : xs.length ≤ ys.length := by rw [emore, List.length_append]; omega
     have lus : us.length = ys.length := Paired.length rp5
     refine ⟨_, rfl, Or.inl ⟨rfl, _, .of eM5⟩, _, rfl, L, _, rfl, .inl ⟨.of eL5, fun t ht => ?_⟩⟩
     have sT := Same.new (o := .tup ((castI leads).map V.int)) ht
     have nMt : M ≠ t := ne_of_none eM5 ht
     have nRt : Rr ≠ t := ne_of_none eR5 ht
     obtain ⟨oD5, eoD5, nD1, nD2⟩ := R.isD nm5
     have nDt : D ≠ t := ne_of_none eoD5 ht
     have eM6 := sT _ _ eM5
     refine ⟨M, _, _, rfl, rfl, eM6, by rw [List.length_map]; omega, ?_⟩
     have kM : KTu (upd H5 t (.tup ((castI leads).map V.int))) (upd (upd H5 t (.tup ((castI leads).map V.int))) M (.lst (ps.map V.ref ++ [.ref t]))) := ktu_upd eM6 (fun l z => nomatch z)
     have kA : KTu H5 (upd (upd H5 t (.tup ((castI leads).map V.int))) M (.lst (ps.map V.ref ++ [.ref t]))) := fun b l z => kM _ _ (sT.kt _ _ z)
     have eR7 : (upd (upd H5 t (.tup ((castI leads).map V.int))) M (.lst (ps.map V.ref ++ [.ref t]))) Rr = some (.lst us) := by rw [upd_ne MR.symm]; exact sT _ _ eR5
     subst hY2
     dsimp only
     refine ⟨_, rfl, _, us.length, rfl, .inl ⟨_, .of eR7, rfl⟩, _, rfl, _, _, rfl, rfl, _, rfl, ?_⟩
     by_cases hov : most < ys.length
     ·rw [show decide ((most : Int) < ((us.length : Nat) : Int)) = true from decide_eq_true (by omega)]
      refine iteT ?_
      exact q0 ys _ ((s5.trans sT).kbn hM0 KB.write) gr.once gr.reach hov
     rw [show decide ((most : Int) < ((us.length : Nat) : Int)) = false from decide_eq_false (by omega)]
     refine iteF ?_
     refine hN _ _ _ ?_ ⟨ys, mv ++ [leads], us, ps ++ [t], _, _, _, by omega, rfl, rfl, (s5.trans sT).kbn hM0 KB.write, eR7, rp5.keep kA, R.keep nm5 (by rw [upd_ne MD.symm, upd_ne nDt]) kA, by rw [upd_same, List.map_append]; rfl, ?_, g2, by rw [List.length_append]; simp; omega⟩
     ·rw [List.length_append]; simp; omega
     ·rw [List.map_append]
      exact paired_snoc ((tp.keep kt5).keep kA) (by rw [upd_ne nMt.symm, upd_same])
   ·have e : mv.length = xs.length := by omega
    rw [show decide (((ps.length : Nat) : Int) < ((vs.length : Nat) : Int)) = false from decide_eq_false (by omega)]
    refine iteF ?_
    subst hY
    dsimp only
    refine ⟨_, rfl, _, rfl, M, _, rfl, .inl ⟨.of eM, fun Va hVa => ⟨by show 2 ≤ sizeLine; omega, fun p hp => ?_⟩⟩⟩
    have sV := Same.new (o := .tup (ps.map V.ref)) hVa
    have sP := Same.new (o := .tup [.ref Rr, .ref Va]) hp
    have sAll := sV.trans sP
    exact q xs mv vs p Rr Va ps _ (s4.trans sAll) hR e lx g upd_same (sAll _ _ eR) (rp.keep sAll.kt) (sP _ _ upd_same) (tp.keep sAll.kt)
  ·rintro σ H Q Q' h ⟨v, e1, v2, n1, e2, l1, v3, e3, v4, n2, e4, l2, i, j, e5, e6, k, e7, z⟩
   exact ⟨v, e1, v2, n1, e2, l1, v3, e3, v4, n2, e4, l2, i, j, e5, e6, k, e7, h _ _ z⟩
def Lf (x y : V) : Prop := (∃ i : Int, x = .int i ∧ y = .int i) ∨ (∃ b : Bool, x = .bl b ∧ y = .bl b) ∨ (∃ s : Str, x = .str s ∧ y = .str s) ∨ (x = .non ∧ y = .non)
def Tr (H : Hp) : Nat → V → V → Prop
 | 0, _, _ => False
 | n + 1, x, y => Lf x y ∨ ∃ (p q : Addr) (xs ys : List V), x = .ref p ∧ y = .ref q ∧ ((H p = some (.tup xs) ∧ H q = some (.tup ys)) ∨ (H p = some (.lst xs) ∧ H q = some (.lst ys))) ∧ xs.length = ys.length ∧ xs.length ≤ 3000 ∧ ∀ (i : Nat) (u v : V), xs[i]? = some u → ys[i]? = some v → Tr H n u v
theorem Tr.keep {H H' : Hp} (k : Same H H') : ∀ {n : Nat} {x y : V}, Tr H n x y → Tr H' n x y
 | 0, _, _, h => h
 | n + 1, x, y, h => by
  rcases h with h | ⟨p, q, xs, ys, e1, e2, h1, h3, h4, h5⟩
  ·exact .inl h
  ·exact .inr ⟨p, q, xs, ys, e1, e2, h1.imp (fun z => ⟨k _ _ z.1, k _ _ z.2⟩) (fun z => ⟨k _ _ z.1, k _ _ z.2⟩), h3, h4, fun i u v hu hv => (h5 i u v hu hv).keep k⟩
def spAlike (n : Nat) : Sp := fun vs H Q _ => ∃ (x y : V), vs = [x, y] ∧ Tr H n x y ∧ ∀ H', Same H H' → Q (.bl true) H'
theorem all_rep (n : Nat) : (List.replicate n true).all id = true := by
 rw [List.all_eq_true]
 intro b hb
 rw [List.eq_of_mem_replicate hb]; rfl
theorem kit_lt : PySem.W.kitOne K (.type "list") (.type "tuple") = some false := by rfl
theorem kit_tl : PySem.W.kitOne K (.type "tuple") (.type "list") = some false := by rfl
theorem kit_it : PySem.W.kitOne K (.type "int") (.type "tuple") = some false := by rfl
theorem kit_il : PySem.W.kitOne K (.type "int") (.type "list") = some false := by rfl
theorem kit_bt : PySem.W.kitOne K (.type "bool") (.type "tuple") = some false := by rfl
theorem kit_bl : PySem.W.kitOne K (.type "bool") (.type "list") = some false := by rfl
theorem kit_bi : PySem.W.kitOne K (.type "bool") (.type "int") = some true := by rfl
theorem kit_nt : PySem.W.kitOne K (.type "NoneType") (.type "tuple") = some false := by rfl
theorem kit_nl : PySem.W.kitOne K (.type "NoneType") (.type "list") = some false := by rfl
theorem kit_nb : PySem.W.kitOne K (.type "NoneType") (.type "bool") = some false := by rfl
theorem kit_ni : PySem.W.kitOne K (.type "NoneType") (.type "int") = some false := by rfl
theorem kit_st : PySem.W.kitOne K (.type "str") (.type "tuple") = some false := by rfl
theorem kit_sl : PySem.W.kitOne K (.type "str") (.type "list") = some false := by rfl
theorem kit_sb : PySem.W.kitOne K (.type "str") (.type "bool") = some false := by rfl
theorem kit_si : PySem.W.kitOne K (.type "str") (.type "int") = some false := by rfl
theorem sc_l_alike : FnScope ["_law_found", "_law_due"] ["_law_found", "_law_due"] (defScope s_l_alike) := ⟨rfl, rfl, rfl, by decide +kernel, rfl, by decide +kernel, by decide +kernel⟩
set_option maxHeartbeats 16000000 in
theorem ok_l_alikeS {a : Adr} (T : Txt K mg a) {n : Nat} (G_l_alike : FnOk P w K mg base CX0 (n + 1) a.f_l_alike a.fd_l_alike ["_law_found", "_law_due"] (spAlike n)) : FnOk P w K mg base CX0 (n + 1 + 1) a.f_l_alike a.fd_l_alike ["_law_found", "_law_due"] (spAlike (n + 1)) := by
 refine T.F_l_alike.ok sc_l_alike (fun vs H Q E h => ?_) (fun cdv A outer s H vs Q E hr h => ?_)
 ·obtain ⟨x, y, rfl, _⟩ := h
  rfl
 ·obtain ⟨x, y, rfl, tr, k⟩ := h
  have hr_l_alike : Room (n + 1) _ := hr
  refine ⟨_, (pss_cons (ps_if (PW.pt (pw_or (pt_truth (pe_callB (call_isiK K) (by rfl) T.z_isinstance bt_isinstance (pa_cons (pv 1) (pa_cons (pe_bltn (v := .ty "tuple") rfl T.z_tuple bt_tuple rfl) pa_nil))) (fun _ => rfl)) (pw_or1 (pt_truth (pe_callB (call_isiK K) (by rfl) T.z_isinstance bt_isinstance (pa_cons (pv 1) (pa_cons (pe_bltn (v := .ty "list") rfl T.z_list bt_list rfl) pa_nil))) (fun _ => rfl)))))
   (pss_cons (ps_if (PW.pt (pw_or (pt_cmpR op_ne (pe_callB (call_isiK K) (by rfl) T.z_isinstance bt_isinstance (pa_cons (pv 0) (pa_cons (pe_bltn (v := .ty "tuple") rfl T.z_tuple bt_tuple rfl) pa_nil))) (pe_callB (call_isiK K) (by rfl) T.z_isinstance bt_isinstance (pa_cons (pv 1) (pa_cons (pe_bltn (v := .ty "tuple") rfl T.z_tuple bt_tuple rfl) pa_nil))) (nomark _)) (pw_or1 (pt_cmpR op_ne (pe_callB (call_isiK K) (by rfl) T.z_isinstance bt_isinstance (pa_cons (pv 0) (pa_cons (pe_bltn (v := .ty "list") rfl T.z_list bt_list rfl) pa_nil))) (pe_callB (call_isiK K) (by rfl) T.z_isinstance bt_isinstance (pa_cons (pv 1) (pa_cons (pe_bltn (v := .ty "list") rfl T.z_list bt_list rfl) pa_nil))) (nomark _)))))
    (pss_one (ps_ret pe_bl))
    pss_nil)
   (pss_one (ps_ret (pe_and (pe_cmpR op_eq (pe_callB (call_lenK K) (by rfl) T.z_len bt_len (pa_cons (pv 0) pa_nil)) (pe_callB (call_lenK K) (by rfl) T.z_len bt_len (pa_cons (pv 1) pa_nil)) (nomark _)) (pe_one (pe_callB (call_allK K rfl) (by rfl) T.z_all bt_all (pa_cons (pe_comp (CompScope.mk' (esc := defScope s_l_alike) (N := ["_law_found", "_law_due"]) (own := ["_law_one", "_law_other"]) (frn := []) (frj := []) rfl rfl (by decide +kernel)) rfl (pi_zipE rfl T.z_zip (pa_cons (pv 0) (pa_cons (pv 1) pa_nil))) (fun _ _ _ _ => (pg_tupK K (n := 2) rfl (pgs_cons (pg_name (i := 0) (show List.Nodup (["_law_one", "_law_other"] : List Str) by decide +kernel) rfl (Or.inl rfl)) (pgs_cons (pg_name (i := 1) (show List.Nodup (["_law_one", "_law_other"] : List Str) by decide +kernel) rfl (Or.inl rfl)) pgs_nil)))) (fun _ _ _ _ => pifs_nil) (fun _ _ _ _ => (pe_call G_l_alike hr_l_alike rfl T.m_l_alike T.k_l_alike T.b_l_alike .nil pass0 (pa_cons (pv 0) (pa_cons (pv 1) pa_nil))))) pa_nil)))))))
   pss_nil)
  (pss_cons (ps_if (PW.pt (pw_or (pt_cmpR op_ne (pe_callB (call_isiK K) (by rfl) T.z_isinstance bt_isinstance (pa_cons (pv 0) (pa_cons (pe_bltn (v := .ty "bool") rfl T.z_bool bt_bool rfl) pa_nil))) (pe_callB (call_isiK K) (by rfl) T.z_isinstance bt_isinstance (pa_cons (pv 1) (pa_cons (pe_bltn (v := .ty "bool") rfl T.z_bool bt_bool rfl) pa_nil))) (nomark _)) (pw_or1 (pt_cmpR op_ne (pe_callB (call_isiK K) (by rfl) T.z_isinstance bt_isinstance (pa_cons (pv 0) (pa_cons (pe_bltn (v := .ty "int") rfl T.z_int bt_int rfl) pa_nil))) (pe_callB (call_isiK K) (by rfl) T.z_isinstance bt_isinstance (pa_cons (pv 1) (pa_cons (pe_bltn (v := .ty "int") rfl T.z_int bt_int rfl) pa_nil))) (nomark _)))))
   (pss_one (ps_ret pe_bl))
   pss_nil)
  (pss_one (ps_ret (pe_cmpR op_eq (pv 0) (pv 1) (nomark _)))))), ?_⟩
  have big : (10000 : Nat) ≤ sizeLine := by decide
  rcases tr with lf | ⟨p, q, xs, ys, rfl, rfl, ⟨e1, e2⟩ | ⟨e1, e2⟩, hl, h3, sub⟩
  ·obtain ⟨t, b1, b2, ty1, ty2, k1, k2, k3, k4, sc, eq⟩ : ∃ (t : Value) (b1 b2 : Bool), TyOf K H x t ∧ TyOf K H y t ∧ PySem.W.kitOne K t (.type "tuple") = some false ∧ PySem.W.kitOne K t (.type "list") = some false ∧ PySem.W.kitOne K t (.type "bool") = some b1 ∧ PySem.W.kitOne K t (.type "int") = some b2 ∧ scal x y = true ∧ x = y := by
    rcases lf with ⟨i, rfl, rfl⟩ | ⟨b, rfl, rfl⟩ | ⟨z, rfl, rfl⟩ | ⟨rfl, rfl⟩
    ·exact ⟨_, false, true, .int i, .int i, kit_it, kit_il, kit_ib, kit_ii, rfl, rfl⟩
    ·exact ⟨_, true, true, .bl b, .bl b, kit_bt, kit_bl, kit_bb, kit_bi, rfl, rfl⟩
    ·exact ⟨_, false, false, .str z, .str z, kit_st, kit_sl, kit_sb, kit_si, rfl, rfl⟩
    ·exact ⟨_, false, false, .non, .non, kit_nt, kit_nl, kit_nb, kit_ni, rfl, rfl⟩
   refine hideS fun Y hY => ?_
   refine ⟨_, rfl, y, t, "tuple", false, rfl, ty2, k1, false, rfl, iteF ?_⟩
   refine ⟨_, rfl, y, t, "list", false, rfl, ty2, k2, false, rfl, iteF ?_⟩
   subst hY
   dsimp only [tNext]
   refine hideS fun Y hY => ?_
   refine ⟨_, rfl, x, t, "bool", b1, rfl, ty1, k3, _, rfl, y, t, "bool", b1, rfl, ty2, k3, rfl, _, rfl, ?_⟩
   rw [show (!decide (V.bl b1 = V.bl b1)) = false by rw [decide_eq_true rfl]; rfl]
   refine iteF ?_
   refine ⟨_, rfl, x, t, "int", b2, rfl, ty1, k4, _, rfl, y, t, "int", b2, rfl, ty2, k4, rfl, _, rfl, ?_⟩
   rw [show (!decide (V.bl b2 = V.bl b2)) = false by rw [decide_eq_true rfl]; rfl]
   refine iteF ?_
   subst hY
   dsimp only [tNext]
   refine ⟨_, rfl, _, rfl, sc, ?_⟩
   rw [decide_eq_true eq]
   exact k H (.refl _)
  ·refine hideS fun Y hY => ?_
   refine ⟨_, rfl, .ref q, _, "tuple", true, rfl, .tup e2, kit_tt, true, rfl, iteT ?_⟩
   refine iteT ?_
   refine hideS fun Y2 hY2 => ?_
   refine ⟨_, rfl, .ref p, _, "tuple", true, rfl, .tup e1, kit_tt, _, rfl, .ref q, _, "tuple", true, rfl, .tup e2, kit_tt, rfl, _, rfl, iteF ?_⟩
   refine ⟨_, rfl, .ref p, _, "list", false, rfl, .tup e1, kit_tl, _, rfl, .ref q, _, "list", false, rfl, .tup e2, kit_tl, rfl, _, rfl, iteF ?_⟩
   subst hY2
   dsimp only [tNext]
   refine ⟨_, rfl, _, xs.length, rfl, .inr ⟨_, .of e1, rfl⟩, _, rfl, _, ys.length, rfl, .inr ⟨_, .of e2, rfl⟩, rfl, _, rfl, ?_⟩
   rw [hl, show decide (V.int ((ys.length : Nat) : Int) = V.int ((ys.length : Nat) : Int)) = true from decide_eq_true rfl]
   refine iteT ?_
   refine .inr ⟨_, rfl, _, rfl, p, q, rfl, ⟨_, .of e1⟩, ⟨_, .of e2⟩, fun C hC => ?_⟩
   refine comp_zipP (xs := xs) (ys := ys) (fun i σ H' => ∃ v0 v1 : Option V, σ = [v0, v1] ∧ Same H H' ∧ H' C = some (.lst ((List.replicate i true).map V.bl))) hl
    ⟨none, none, ?sg, Same.new hC, upd_same⟩ (by rintro i σ H' _ ⟨_, _, _, s, _⟩; exact ⟨.of (s _ _ e1), .of (s _ _ e2)⟩) ?_ ?_
   case sg => rfl
   ·rintro i u v r σ H1 hu hv ⟨v0, v1, rfl, s1, c1⟩ hr'
    have hi := (List.getElem?_eq_some_iff.mp hu).1
    have sp := Same.new (o := .tup [u, v]) hr'
    refine ⟨r, _, rfl, .of upd_same, rfl, _, _, rfl, _, _, rfl, rfl, ?_⟩
    refine ⟨_, rfl, _, rfl, u, v, rfl, (sub i u v hu hv).keep (s1.trans sp), fun H2 s2 => ?_⟩
    have s3 := (s1.trans sp).trans s2
    refine ⟨_, s2 _ _ (sp _ _ c1), by rw [List.length_map, List.length_replicate]; omega, _, _, rfl, s3.kbn hC KB.write, ?_⟩
    rw [upd_same, List.replicate_succ', List.map_append]; rfl
   rintro σ H1 ⟨v0, v1, rfl, s1, c1⟩
   refine ⟨C, _, rfl, .of c1, ?_⟩
   rw [all_rep]
   exact k H1 s1
  ·refine hideS fun Y hY => ?_
   refine ⟨_, rfl, .ref q, _, "tuple", false, rfl, .lst e2, kit_lt, false, rfl, iteF ?_⟩
   refine ⟨_, rfl, .ref q, _, "list", true, rfl, .lst e2, kit_ll, true, rfl, iteT ?_⟩
   refine hideS fun Y2 hY2 => ?_
   refine ⟨_, rfl, .ref p, _, "tuple", false, rfl, .lst e1, kit_lt, _, rfl, .ref q, _, "tuple", false, rfl, .lst e2, kit_lt, rfl, _, rfl, iteF ?_⟩
   refine ⟨_, rfl, .ref p, _, "list", true, rfl, .lst e1, kit_ll, _, rfl, .ref q, _, "list", true, rfl, .lst e2, kit_ll, rfl, _, rfl, iteF ?_⟩
   subst hY2
   dsimp only [tNext]
   refine ⟨_, rfl, _, xs.length, rfl, .inl ⟨_, .of e1, rfl⟩, _, rfl, _, ys.length, rfl, .inl ⟨_, .of e2, rfl⟩, rfl, _, rfl, ?_⟩
   rw [hl, show decide (V.int ((ys.length : Nat) : Int) = V.int ((ys.length : Nat) : Int)) = true from decide_eq_true rfl]
   refine iteT ?_
   refine .inl ⟨_, rfl, _, rfl, p, q, rfl, ⟨_, .of e1⟩, ⟨_, .of e2⟩, fun C hC => ?_⟩
   refine comp_zip (xs := xs) (ys := ys) (fun i σ H' => ∃ v0 v1 : Option V, σ = [v0, v1] ∧ Same H H' ∧ H' C = some (.lst ((List.replicate i true).map V.bl))) hl
    ⟨none, none, ?sg, Same.new hC, upd_same⟩ (by rintro i σ H' _ ⟨_, _, _, s, _⟩; exact ⟨.of (s _ _ e1), .of (s _ _ e2)⟩) ?_ ?_
   case sg => rfl
   ·rintro i u v r σ H1 hu hv ⟨v0, v1, rfl, s1, c1⟩ hr'
    have hi := (List.getElem?_eq_some_iff.mp hu).1
    have sp := Same.new (o := .tup [u, v]) hr'
    refine ⟨r, _, rfl, .of upd_same, rfl, _, _, rfl, _, _, rfl, rfl, ?_⟩
    refine ⟨_, rfl, _, rfl, u, v, rfl, (sub i u v hu hv).keep (s1.trans sp), fun H2 s2 => ?_⟩
    have s3 := (s1.trans sp).trans s2
    refine ⟨_, s2 _ _ (sp _ _ c1), by rw [List.length_map, List.length_replicate]; omega, _, _, rfl, s3.kbn hC KB.write, ?_⟩
    rw [upd_same, List.replicate_succ', List.map_append]; rfl
   rintro σ H1 ⟨v0, v1, rfl, s1, c1⟩
   refine ⟨C, _, rfl, .of c1, ?_⟩
   rw [all_rep]
   exact k H1 s1
theorem ok_l_alike {a : Adr} (T : Txt K mg a) : ∀ n : Nat, FnOk P w K mg base CX0 (n + 1) a.f_l_alike a.fd_l_alike ["_law_found", "_law_due"] (spAlike n)
 | 0 => FnOk.none fun vs H Q E h => by
  obtain ⟨x, y, _, h, _⟩ := h
  exact h
 | n + 1 => ok_l_alikeS T (ok_l_alike T n)
section
variable {α : Type} {x0 : α} {on : α → Nat → α} {m : Nat}
theorem get_uniq {xs : List α} (nd : xs.Nodup) {i j : Nat} {x : α} (h : xs[i]? = some x) (g : xs[j]? = some x) : i = j := by
 obtain ⟨hi, e⟩ := List.getElem?_eq_some_iff.mp h
 obtain ⟨hj, e'⟩ := List.getElem?_eq_some_iff.mp g
 exact (List.getElem_inj nd).mp (e.trans e'.symm)
theorem row_one {xs ys : List α} (ndx : xs.Nodup) (ndy : ys.Nodup) {x : α} : ∀ (l l' : List Nat) (c s s1 s2 : Nat), l.length = l'.length → rowGo l s = some s1 → rowGo l' s = some s2 → (∀ i, i < s → xs[i]? = ys[i]?) →
  (∀ k t, l[k]? = some t → xs[t]? = some (on x (c + k))) → (∀ k t, l'[k]? = some t → ys[t]? = some (on x (c + k))) → l = l' ∧ s1 = s2 ∧ ∀ i, i < s1 → xs[i]? = ys[i]?
 | [], [], c, s, s1, s2, _, h, h', eq, _, _ => by
  cases h; cases h'
  exact ⟨rfl, rfl, eq⟩
 | [], _ :: _, _, _, _, _, hl, _, _, _, _, _ => by cases hl
 | _ :: _, [], _, _, _, _, hl, _, _, _, _, _ => by cases hl
 | t :: l, t' :: l', c, s, s1, s2, hl, h, h', eq, hx, hy => by
  have ex : xs[t]? = some (on x c) := hx 0 t rfl
  have ey : ys[t']? = some (on x c) := hy 0 t' rfl
  have hx' : ∀ k u, l[k]? = some u → xs[u]? = some (on x (c + 1 + k)) := fun k u z => by rw [show c + 1 + k = c + (k + 1) by omega]; exact hx (k + 1) u z
  have hy' : ∀ k u, l'[k]? = some u → ys[u]? = some (on x (c + 1 + k)) := fun k u z => by rw [show c + 1 + k = c + (k + 1) by omega]; exact hy (k + 1) u z
  have hl' : l.length = l'.length := Nat.succ.inj hl
  rw [rowGo] at h h'
  by_cases lt : t < s
  ·rw [if_pos lt] at h
   have e : t' = t := get_uniq ndy ey (by rw [← eq t lt]; exact ex)
   subst e
   rw [if_pos lt] at h'
   obtain ⟨r1, r2, r3⟩ := row_one ndx ndy l l' (c + 1) s s1 s2 hl' h h' eq hx' hy'
   exact ⟨by rw [r1], r2, r3⟩
  ·rw [if_neg lt] at h
   by_cases es : t = s
   ·rw [if_pos es] at h
    have lt' : ¬ t' < s := fun z => by
     have := get_uniq ndx ex (by rw [eq t' z]; exact ey)
     omega
    rw [if_neg lt'] at h'
    by_cases es' : t' = s
    ·rw [if_pos es'] at h'
     obtain ⟨r1, r2, r3⟩ := row_one ndx ndy l l' (c + 1) (s + 1) s1 s2 hl' h h' (fun i hi => by
      by_cases z : i < s
      ·exact eq i z
      ·have : i = s := by omega
       rw [this, ← es, ex, es, ← es', ey]) hx' hy'
     exact ⟨by rw [r1, es, es'], r2, r3⟩
    ·rw [if_neg es'] at h'; cases h'
   ·rw [if_neg es] at h; cases h
theorem rows_one {xs ys : List α} (ndx : xs.Nodup) (ndy : ys.Nodup) : ∀ (mv mv' : List (List Nat)) (i s s1 s2 : Nat), rowsGo mv i s = some s1 → rowsGo mv' i s = some s2 → (∀ j, j < s → xs[j]? = ys[j]?) →
  (∀ k r, mv[k]? = some r → r.length = m ∧ ∃ x, xs[i + k]? = some x ∧ ∀ c t, r[c]? = some t → xs[t]? = some (on x c)) → (∀ k r, mv'[k]? = some r → r.length = m ∧ ∃ x, ys[i + k]? = some x ∧ ∀ c t, r[c]? = some t → ys[t]? = some (on x c)) →
  i + mv.length = xs.length → i + mv'.length = ys.length → s1 = xs.length → s2 = ys.length → mv = mv' ∧ xs = ys
 | [], [], i, s, s1, s2, h, h', eq, _, _, l1, l2, e1, e2 => by
  cases h; cases h'
  refine ⟨rfl, List.ext_getElem? fun j => ?_⟩
  by_cases z : j < s
  ·exact eq j z
  ·rw [List.getElem?_eq_none (by omega), List.getElem?_eq_none (by omega)]
 | [], r' :: mv', i, s, s1, s2, h, h', eq, _, hy, l1, l2, e1, e2 => by
  cases h
  rw [rowsGo] at h'
  rw [List.length_nil] at l1
  rw [if_neg (by omega)] at h'
  cases h'
 | r :: mv, [], i, s, s1, s2, h, h', eq, hx, _, l1, l2, e1, e2 => by
  cases h'
  rw [rowsGo] at h
  rw [List.length_nil] at l2
  rw [if_neg (by omega)] at h
  cases h
 | r :: mv, r' :: mv', i, s, s1, s2, h, h', eq, hx, hy, l1, l2, e1, e2 => by
  rw [rowsGo] at h h'
  by_cases lt : i < s
  ·rw [if_pos lt] at h h'
   obtain ⟨a1, ha, h⟩ := Option.bind_eq_some_iff.mp h
   obtain ⟨a2, ha', h'⟩ := Option.bind_eq_some_iff.mp h'
   obtain ⟨q1, x, q2, q3⟩ := hx 0 r rfl
   obtain ⟨p1, y, p2, p3⟩ := hy 0 r' rfl
   have exy : x = y := by
    rw [Nat.add_zero] at q2 p2
    rw [eq i lt, p2] at q2
    exact (Option.some.inj q2).symm
   subst exy
   obtain ⟨z1, z2, z3⟩ := row_one ndx ndy r r' 0 s a1 a2 (q1.trans p1.symm) ha ha' eq (fun k t z => by rw [Nat.zero_add]; exact q3 k t z) (fun k t z => by rw [Nat.zero_add]; exact p3 k t z)
   subst z1 z2
   obtain ⟨w1, w2⟩ := rows_one ndx ndy mv mv' (i + 1) a1 s1 s2 h h' z3 (fun k r z => by rw [show i + 1 + k = i + (k + 1) by omega]; exact hx (k + 1) r z) (fun k r z => by rw [show i + 1 + k = i + (k + 1) by omega]; exact hy (k + 1) r z)
    (by rw [List.length_cons] at l1; omega) (by rw [List.length_cons] at l2; omega) e1 e2
   exact ⟨by rw [w1], w2⟩
  ·rw [if_neg lt] at h; cases h
theorem grown_uniq {xs ys : List α} {mv mv' : List (List Nat)} (g : Grown x0 on m xs mv) (h : mv.length = xs.length) (g' : Grown x0 on m ys mv') (h' : mv'.length = ys.length) : mv = mv' ∧ xs = ys :=
 rows_one (m := m) (on := on) g.once g'.once mv mv' 0 1 _ _ g.go g'.go (fun j hj => by rw [show j = 0 by omega, g.first, g'.first]) (fun k r z => by rw [Nat.zero_add]; exact g.row k r z) (fun k r z => by rw [Nat.zero_add]; exact g'.row k r z) (by omega) (by omega) rfl rfl
theorem grown_most {xs ys : List α} {mv : List (List Nat)} (g : Grown x0 on m xs mv) (h : mv.length = xs.length) (nd : ys.Nodup) (hy : ∀ y ∈ ys, ∃ w, Word m w ∧ y = runA on x0 w) : ys.length ≤ xs.length :=
 List.Nodup.length_le_of_subset nd fun y z => by
  obtain ⟨w, hw, rfl⟩ := hy y z
  exact List.mem_of_getElem? (g.run h w 0 x0 g.first hw)
end
def ri (i : Nat) : Th := .int (i : Int)
theorem ri_inj {i j : Nat} (h : ri i = ri j) : i = j := by have : (i : Int) = j := Th.int.inj h; omega
def rOn (n : Nat) (x : Th) (_ : Nat) : Th := match x with | .int i => .int ((i + 1) % (n : Int)) | y => y
def rYes (x : Th) : Bool := decide (x = .int 7)
theorem rOn_ri {n i : Nat} (c : Nat) (h : i + 1 < n) : rOn n (ri i) c = ri (i + 1) := by
 show Th.int (((i : Int) + 1) % (n : Int)) = Th.int (((i + 1 : Nat)) : Int)
 rw [Int.emod_eq_of_lt (by omega) (by omega)]; rfl
theorem rOn_last {n i : Nat} (c : Nat) (h : i + 1 = n) : rOn n (ri i) c = ri 0 := by
 show Th.int (((i : Int) + 1) % (n : Int)) = Th.int ((0 : Nat) : Int)
 rw [show ((i : Int) + 1) = (n : Int) by omega, Int.emod_self]; rfl
def rXs (k : Nat) : List Th := (List.range k).map ri
theorem rXs_len (k : Nat) : (rXs k).length = k := by unfold rXs; rw [List.length_map, List.length_range]
theorem rXs_get {k i : Nat} (h : i < k) : (rXs k)[i]? = some (ri i) := by unfold rXs; rw [List.getElem?_map, List.getElem?_range h]; rfl
theorem rXs_succ (k : Nat) : rXs (k + 1) = rXs k ++ [ri k] := by unfold rXs; rw [List.range_succ, List.map_append]; rfl
theorem rXs_not {k i : Nat} (h : k ≤ i) : ri i ∉ rXs k := fun z => by
 obtain ⟨j, hj, e⟩ := List.mem_map.mp z
 have := ri_inj e
 have := List.mem_range.mp hj
 omega
theorem ring_to {n : Nat} : ∀ k, k + 1 ≤ n → ∃ mv, mv.length = k ∧ Grown (ri 0) (rOn n) 1 (rXs (k + 1)) mv
 | 0, _ => ⟨[], rfl, Grown.begin⟩
 | k + 1, h => by
  obtain ⟨mv, hl, g⟩ := ring_to (n := n) k (by omega)
  have hx : (rXs (k + 1))[mv.length]? = some (ri k) := by rw [hl]; exact rXs_get (by omega)
  have r := GRow.new (GRow.start (x := ri k) g) (show 0 < 1 by omega) (g.reach _ (List.mem_of_getElem? hx)) (by rw [rOn_ri _ (by omega)]; exact rXs_not (Nat.le_refl _))
  have g2 := g.next hx r rfl
  rw [rOn_ri _ (by omega), ← rXs_succ] at g2
  refine ⟨_, ?_, g2⟩
  rw [List.length_append, hl]; rfl
theorem ring_all {n : Nat} (h : 0 < n) : ∃ mv, mv.length = n ∧ Grown (ri 0) (rOn n) 1 (rXs n) mv := by
 obtain ⟨k, rfl⟩ : ∃ k, n = k + 1 := ⟨n - 1, by omega⟩
 obtain ⟨mv, hl, g⟩ := ring_to k (Nat.le_refl _)
 have hx : (rXs (k + 1))[mv.length]? = some (ri k) := by rw [hl]; exact rXs_get (by omega)
 have r := GRow.old (GRow.start (x := ri k) g) (t := 0) (by rw [rOn_last _ rfl]; exact rXs_get (by omega))
 refine ⟨_, ?_, g.next hx r rfl⟩
 rw [List.length_append, hl]; rfl
def Lring : List (Pos × Str) := [(⟨63, 34, 63, 87⟩, (("_law_ring" : Str) ++ ".<locals>.") ++ "<lambda>"), (⟨63, 89, 63, 121⟩, (("_law_ring" : Str) ++ ".<locals>.") ++ "<lambda>")]
theorem apartC {p q : Pos × Str} (h : p.1.col ≠ q.1.col) : Apart [p, q] := fun a ha b hb _ e => by
 rcases List.mem_cons.mp ha with z | z <;> rcases List.mem_cons.mp hb with y | y
 ·rw [z, y]
 ·rw [z, List.mem_singleton.mp y] at e; exact absurd e h
 ·rw [y, List.mem_singleton.mp z] at e; exact absurd e.symm h
 ·rw [List.mem_singleton.mp z, List.mem_singleton.mp y]
theorem ring_vals {H : Hp} : ∀ {vs : List V} {ks : List Nat}, Paired (fun v x => ThAt H x v) vs (ks.map ri) → vs = ks.map fun (i : Nat) => V.int i
 | _, [], .nil => rfl
 | _, k :: ks, .cons h t => by
  rw [List.map_cons, ← ring_vals t]
  cases (show _ = V.int (k : Int) from h); rfl
theorem dats_ints {K : PySem.W.Frag} {H : Hp} : ∀ ks : List Nat, DatsAt K H (ks.map fun (i : Nat) => V.int i) (ks.map fun (i : Nat) => Dt.int i)
 | [] => trivial
 | k :: ks => ⟨rfl, dats_ints ks⟩
theorem deps_ints : ∀ ks : List Nat, Dt.deps (ks.map fun (i : Nat) => Dt.int i) ≤ 2
 | [] => by simp [Dt.deps]
 | k :: ks => by have := deps_ints ks; simp [Dt.deps, Dt.dep]; omega
def spRing (tb : Addr) : Sp := fun vs H Q _ => ∃ n : Nat, vs = [.int n] ∧ 1995 ≤ n ∧ n ≤ 2005 ∧ Tab H tb Lring ∧ ∀ H', KB tb H H' → Tab H' tb Lring → Q (.bl true) H'
theorem sc_l_ring : FnScope ["_law_many", "_law_found"] ["_law_many"] (defScope s_l_ring) := ⟨rfl, rfl, rfl, by decide +kernel, rfl, by decide +kernel, by decide +kernel⟩
set_option maxHeartbeats 16000000 in
theorem ok_l_ring {a : Adr} (T : Txt K mg a) (hB : BltAt mg base) : FnOk P w K mg base CX0 3 a.f_l_ring a.fd_l_ring ["_law_many"] (spRing a.t_l_ring) := by
 obtain ⟨td, db⟩ := T.d_grown_from
 refine T.F_l_ring.ok sc_l_ring (fun vs H Q E h => ?_) (fun Ar outer sh H vs Q E hr h => ?_)
 ·obtain ⟨n, rfl, _⟩ := h
  rfl
 ·obtain ⟨n, rfl, n0, n1, tab, q⟩ := h
  have hr_grown : Room 2 _ := hr
  refine ⟨_, (pss_cons (ps_set (i := 1) sc_l_ring.nd rfl (Or.inl rfl) (pe_callWD (ds := [Value.int 2000 td]) (dvs := [V.int 2000]) (fun _ => rfl) hr_grown rfl T.m_grown_from T.k_grown_from db (.cons ⟨td, rfl⟩ .nil) (pa_cons pe_int (pa_cons pe_int (pa_cons (pe_lamK (T := a.t_l_ring) (L := Lring) rfl T.h_l_ring hB rfl rfl (List.mem_cons_self) (apartC (by decide)) rfl) (pa_cons (pe_lamK (T := a.t_l_ring) (L := Lring) rfl T.h_l_ring hB rfl rfl (List.mem_cons_of_mem _ List.mem_cons_self) (apartC (by decide)) rfl) pa_nil))))))
  (pss_cons (ps_if (pt_cmpR op_gt (pv 0) pe_int (nomark _))
   (pss_one (ps_ret (pe_cmpR op_isN (pv 1) pe_non (nomark _))))
   pss_nil)
  (pss_one (ps_ret (pe_and (pe_cmpR op_notN (pv 1) pe_non (nomark _)) (pe_and (pe_cmpR (op_eqD K hr.units) (pe_ix (ix_tupK K) (pv 1) pe_int (fun _ _ => rfl)) (pe_listrange1 hr.hd (by rfl) T.z_list (by rfl) T.z_range (pa_cons (pv 0) pa_nil)) (nomark _)) (pe_and (pe_cmpR op_eq (pe_callB (call_lenK K) (by rfl) T.z_len bt_len (pa_cons (pe_ix (ix_tupK K) (pv 1) pe_int (fun _ _ => rfl)) pa_nil)) (pv 0) (nomark _)) (pe_one (pe_cmpR op_eq (pe_bmT PySem.F.plainAttrs_tuple PySem.F.slot_tuple_index PySem.F.type_tuple_index (mt_tindexB K) (pe_ix (ix_tupK K) (pv 1) pe_int (fun _ _ => rfl)) (pa_cons pe_bl pa_nil)) pe_int (nomark _)))))))))), ?_⟩
  have big : (100000 : Nat) ≤ sizeLine := by decide
  refine ⟨tab, fun f1 c1 ctv1 H1 hf1 ef1 ec1 tab1 kb1 => ⟨tab1, fun f2 c2 ctv2 H2 hf2 ef2 ec2 tab2 kb2 => ?_⟩⟩
  have T1 : ∃ qs, H1 a.t_l_ring = some (.tbl qs) := let ⟨qs, z, _⟩ := tab1; ⟨qs, z⟩
  have nT : ∀ {b : Addr} {o : HO}, H1 b = some o → (∀ qs, o ≠ .tbl qs) → b ≠ a.t_l_ring := fun e hn y => by obtain ⟨qs, z⟩ := T1; rw [y, z] at e; exact hn qs (Option.some.inj e).symm
  have ef12 := kb2 _ _ ef1 (nT ef1 fun _ y => nomatch y)
  have ec12 := kb2 _ _ ec1 (nT ec1 fun _ y => nomatch y)
  have hD : ∀ b ∈ [f1, c1, f2, c2], ∃ φ, H2 b = some (.ext φ) := fun b hb => by
   simp only [List.mem_cons, List.not_mem_nil, or_false] at hb
   rcases hb with z | z | z | z <;> subst z
   ·exact ⟨_, ef12⟩
   ·exact ⟨_, ec12⟩
   ·exact ⟨_, ef2⟩
   ·exact ⟨_, ec2⟩
  refine ⟨[f1, c1, f2, c2], hD, fun base' W => ?_⟩
  let Ok : Th → Prop := fun x => ∃ i : Nat, i < n ∧ x = ri i
  have F1 : FnAt P w K mg base' 1 f1 2 (spOn (repM P w) 1 (rOn n) Ok (fun _ => True)) := by
   refine FnAt.lam W ef12 (by simp) ec12 (by simp) (ps := ["_law_room", "_law_k"]) (frn := ["_law_many"]) (fvs := [.int (n : Nat)]) (LamScope.mk' rfl rfl rfl (by decide +kernel) (by decide +kernel) (by decide +kernel) (by decide +kernel) (by decide +kernel))
    (List.forall_mem_cons.mpr ⟨rfl, fun _ h => nomatch h⟩) (.cons ⟨0, rfl, rfl, rfl, rfl⟩ .nil) (fun us hl => match us, hl with | [_, _], _ => rfl) (fun vs H Q E h => ?_) (fun A outer s H vs Q E hr h => ?_)
   ·obtain ⟨x, v, c, rfl, _⟩ := h
    rfl
   ·obtain ⟨x, v, c, rfl, rv, ⟨i, hi, rfl⟩, hc, _, kk⟩ := h
    cases (show v = .int (i : Int) from rv)
    refine ⟨_, pe_op op_mod (pe_op op_add (pv 0) pe_int) (pv 2), ?_⟩
    exact ⟨_, rfl, _, _, rfl, rfl, _, rfl, _, _, rfl, rfl, by show (0 : Int) < (n : Int); omega, kk _ H (Same.refl H) rfl⟩
  have F2 : FnAt P w K mg base' 1 f2 1 (spYs (repM P w) rYes Ok (fun _ => True)) := by
   refine FnAt.lam W ef2 (by simp) ec2 (by simp) (ps := ["_law_room"]) (frn := []) (fvs := []) (LamScope.mk' rfl rfl rfl (by decide +kernel) (by decide +kernel) (by decide +kernel) (by decide +kernel) (by decide +kernel))
    (fun _ h => nomatch h) .nil (fun us hl => match us, hl with | [_], _ => rfl) (fun vs H Q E h => ?_) (fun A outer s H vs Q E hr h => ?_)
   ·obtain ⟨x, v, rfl, _⟩ := h
    rfl
   ·obtain ⟨x, v, rfl, rv, ⟨i, hi, rfl⟩, _, kk⟩ := h
    cases (show v = .int (i : Int) from rv)
    refine ⟨_, pe_cmpR op_eq (pv 0) pe_int (nomark _), ?_⟩
    refine ⟨_, rfl, rfl, ?_⟩
    rw [show decide (V.int (i : Int) = V.int 7) = rYes (ri i) from by
     unfold rYes ri
     by_cases e : (i : Int) = 7
     ·rw [e]; rfl
     ·rw [decide_eq_false (fun z => e (V.int.inj z)), decide_eq_false (fun z => e (Th.int.inj z))]]
    exact kk H (Same.refl H)
  refine ⟨_, ok_grown_from (k := 1) T (repM P w) F1 F2 (fun x c ⟨i, hi, e⟩ _ => ?_) (fun _ _ _ _ => trivial), ?_⟩
  ·subst e
   by_cases h : i + 1 < n
   ·exact ⟨i + 1, h, rOn_ri _ h⟩
   ·exact ⟨0, by omega, rOn_last _ (by omega)⟩
  obtain ⟨mvR, lR, gR⟩ := ring_all (n := n) (by omega)
  refine ⟨ri 0, .int 0, 2000, rfl, rfl, ⟨0, by omega, rfl⟩, trivial, by omega, by omega, fun xs H3 s3 nd rc lt n3 => ?_, fun xs mv vs p Rr ya va ps H3 s3 hRr hl hlm gr ep er rr ey ev tp n3 => ?_⟩
  ·have le := grown_most gR (by rw [lR, rXs_len]) nd rc
   rw [rXs_len] at le
   have s23 := retr_same s3
   have tab3 := tab2.same s23
   have kbAll : KB a.t_l_ring H (retr [f1, c1, f2, c2] H2 H3) := fun b o e n => s23 _ _ (kb2 _ _ (kb1 _ _ e n) n)
   generalize retr [f1, c1, f2, c2] H2 H3 = H4 at tab3 kbAll ⊢
   dsimp only [gName]
   refine ⟨_, rfl, _, _, rfl, rfl, _, rfl, ?_⟩
   rw [show decide ((n : Int) > 2000) = true from decide_eq_true (by omega)]
   refine iteT ?_
   exact ⟨_, rfl, rfl, q _ kbAll tab3⟩
  have s23 := retr_same s3
  have o3 : ∀ {b : Addr} {o : HO}, H3 b = some o → retr [f1, c1, f2, c2] H2 H3 b = some o := fun {b o} e => by
   rw [retr_out fun z => ?_]
   ·exact e
   ·rw [n3 b z] at e; cases e
  obtain ⟨emv, exs⟩ := grown_uniq gr hl gR (by rw [lR, rXs_len])
  have lx : xs.length = n := by rw [exs, rXs_len]
  have vr : vs = (List.range n).map fun (i : Nat) => V.int i := ring_vals (H := H3) (ks := List.range n) (by have := rr; rw [exs] at this; exact this)
  have tab3 := tab2.same s23
  have ep4 := o3 ep
  have er4 := o3 er
  have ey4 := o3 ey
  have ev4 := o3 ev
  have kbAll : KB a.t_l_ring H (retr [f1, c1, f2, c2] H2 H3) := fun b o e n => s23 _ _ (kb2 _ _ (kb1 _ _ e n) n)
  generalize retr [f1, c1, f2, c2] H2 H3 = H4 at tab3 kbAll ep4 er4 ey4 ev4 ⊢
  dsimp only [gName]
  refine hideS fun Y hY => ?_
  refine ⟨_, rfl, _, _, rfl, rfl, _, rfl, ?_⟩
  rw [show decide ((n : Int) > 2000) = false from decide_eq_false (by omega)]
  refine iteF ?_
  subst hY
  dsimp only [tNext]
  refine ⟨_, rfl, rfl, _, rfl, iteT ?_⟩
  refine ⟨_, rfl, p, _, _, .ref Rr, rfl, rfl, .of ep4, atI_nat (j := 0) rfl, _, rfl, n, rfl, by omega, fun l hl0 => ?_⟩
  have sl := Same.new (o := .lst ((List.range n).map fun (i : Nat) => V.int i)) hl0
  subst vr
  refine ⟨.lst ((List.range n).map fun (i : Nat) => Dt.int i), .lst ((List.range n).map fun (i : Nat) => Dt.int i), ⟨Rr, _, rfl, .of (sl _ _ er4), dats_ints _⟩, ⟨l, _, rfl, .of upd_same, dats_ints _⟩, rfl, rfl, by have := deps_ints (List.range n); simp only [Dt.dep]; omega, ?_⟩
  rw [show (if false = true then !(Dt.lst ((List.range n).map fun (i : Nat) => Dt.int i)).beq (Dt.lst ((List.range n).map fun (i : Nat) => Dt.int i)) else (Dt.lst ((List.range n).map fun (i : Nat) => Dt.int i)).beq (Dt.lst ((List.range n).map fun (i : Nat) => Dt.int i))) = true from Dt.beq_refl _]
  refine ⟨_, rfl, iteT ?_⟩
  refine ⟨_, rfl, p, _, _, .ref va, rfl, rfl, .of (sl _ _ ep4), atI_nat (j := 2) rfl, _, n, rfl, .inr ⟨_, .of (sl _ _ ev4), by rw [List.length_map, Paired.length tp, List.length_map, hl, lx]⟩, _, rfl, rfl, ?_⟩
  rw [show decide (V.int (n : Int) = V.int (n : Int)) = true from decide_eq_true rfl]
  refine ⟨_, rfl, iteT ?_⟩
  have e7 : (xs.map rYes)[7]? = some true := by rw [List.getElem?_map, exs, rXs_get (by omega)]; rfl
  have ne7 : ∀ i, i < 7 → (xs.map rYes)[i]? ≠ some true := fun i hi => by
   rw [List.getElem?_map, exs, rXs_get (by omega)]
   intro z
   have := Option.some.inj z
   have := of_decide_eq_true this
   have : (i : Int) = 7 := Th.int.inj this
   omega
  refine ⟨_, rfl, p, _, _, .ref ya, rfl, rfl, .of (sl _ _ ep4), atI_nat (j := 1) rfl, ?_⟩
  exact ⟨⟨ya, _, rfl, sl _ _ ey4⟩, ya, _, true, 7, rfl, rfl, .of (sl _ _ ey4), e7, ne7, rfl, q _ (fun b o e n => sl _ _ (kbAll _ _ e n)) (tab3.same sl)⟩
theorem Feed.ktu {H H' : Hp} {F L : Addr} (h : Feed H F L) (k : KB2 F L H H') : KTu H H' := fun b ys e => by
 obtain ⟨ms, n, sd, e1, e2, _⟩ := h.ex
 exact k b _ e (ne_of e e1 (fun z => nomatch z)) (ne_of e e2 (fun z => nomatch z))
theorem Feed.neF {H : Hp} {F L N : Addr} (h : Feed H F L) (e : H N = none) : N ≠ F ∧ N ≠ L := by
 obtain ⟨ms, n, sd, a, b, _⟩ := h.ex
 exact ⟨(ne_of_none a e).symm, (ne_of_none b e).symm⟩
theorem Feed.lo {H H' : Hp} {F L N : Addr} (h : Feed H' F L) (k : KB2 F L H H') (e : H' N = none) : H N = none := by
 obtain ⟨n1, n2⟩ := h.neF e
 cases z : H N with
 | none => rfl
 | some o => have := k N o z n1 n2; rw [e] at this; cases this
theorem Feed.upd {H : Hp} {F L N : Addr} {o : HO} (h : Feed H F L) (n : N ≠ F ∧ N ≠ L) : Feed (upd H N o) F L := by
 obtain ⟨ms, m, sd, a, b, c⟩ := h.ex
 exact ⟨ms, m, sd, by rw [upd_ne n.1.symm]; exact a, by rw [upd_ne n.2.symm]; exact b, c⟩
theorem KB2.updN {H H' : Hp} {F L N : Addr} {o : HO} (k : KB2 F L H H') (e : H N = none) : KB2 F L H (upd H' N o) := fun b p h n m => by
 rw [upd_ne (ne_of_none h e)]
 exact k b p h n m
theorem idx_at {ths : List Th} {x : Th} (h : x ∈ ths) : ths[ths.idxOf x]? = some x := by
 have h1 := List.idxOf_lt_length_of_mem h
 rw [List.getElem?_eq_getElem h1, List.getElem_idxOf h1]
theorem idx_no {ths : List Th} {x : Th} (i : Nat) (h : i < ths.idxOf x) : ths[i]? ≠ some x := fun e => by
 obtain ⟨hi, e⟩ := List.getElem?_eq_some_iff.mp e
 have := List.not_of_lt_findIdx (p := (· == x)) (xs := ths) h
 rw [e] at this
 simp at this
def onT (ths : List Th) (mvs : List (List Nat)) (x : Th) (c : Nat) : Th := ths.getD ((mvs.getD (ths.idxOf x) []).getD c 0) .non
def yesT (ths : List Th) (ys : List Bool) (x : Th) : Bool := ys.getD (ths.idxOf x) false
structure Rows31 (n many : Nat) (mvs : List (List Nat)) : Prop where
 len : mvs.length = n
 row : ∀ r ∈ mvs, r.length = many ∧ ∀ t ∈ r, t < n
theorem Rows31.at {ths : List Th} {many : Nat} {mvs : List (List Nat)} (R : Rows31 ths.length many mvs) {x : Th} {c : Nat} (h : x ∈ ths) (hc : c < many) : ∃ (r : List Nat) (t : Nat), mvs[ths.idxOf x]? = some r ∧ r[c]? = some t ∧ ths[t]? = some (onT ths mvs x c) := by
 have h1 := List.idxOf_lt_length_of_mem h
 have e1 : mvs[ths.idxOf x]? = some (mvs.getD (ths.idxOf x) []) := item_at [] (by rw [R.len]; exact h1)
 obtain ⟨l, b⟩ := R.row _ (List.mem_of_getElem? e1)
 have e2 : (mvs.getD (ths.idxOf x) [])[c]? = some ((mvs.getD (ths.idxOf x) []).getD c 0) := item_at 0 (by rw [l]; exact hc)
 exact ⟨_, _, e1, e2, item_at (xs := ths) Th.non (b _ (List.mem_of_getElem? e2))⟩
theorem onT_in {ths : List Th} {many : Nat} {mvs : List (List Nat)} (R : Rows31 ths.length many mvs) {x : Th} {c : Nat} (h : x ∈ ths) (hc : c < many) : onT ths mvs x c ∈ ths := by
 obtain ⟨_, _, _, _, e⟩ := R.at h hc
 exact List.mem_of_getElem? e
theorem runT_in {ths : List Th} {many : Nat} {mvs : List (List Nat)} (R : Rows31 ths.length many mvs) : ∀ (w : List Nat) {x : Th}, x ∈ ths → Word many w → runA (onT ths mvs) x w ∈ ths
 | [], _, h, _ => h
 | c :: w, _, h, hw => runT_in R w (onT_in R h (hw c List.mem_cons_self)) fun a ha => hw a (List.mem_cons_of_mem _ ha)
theorem most_in {ths : List Th} {many : Nat} {mvs : List (List Nat)} (R : Rows31 ths.length many mvs) {x0 : Th} (h0 : x0 ∈ ths) {xs : List Th} (nd : xs.Nodup) (rc : ∀ x ∈ xs, ∃ w, Word many w ∧ x = runA (onT ths mvs) x0 w) : xs.length ≤ ths.length :=
 List.Nodup.length_le_of_subset nd fun x hx => by
  obtain ⟨w, hw, rfl⟩ := rc x hx
  exact runT_in R w h0 hw
def ThsAt (H : Hp) (ws : List V) (ths : List Th) : Prop := Paired (fun v x => ThAt H x v) ws ths
structure Ev31 (Tt Mv Yy : Addr) (ws : List V) (ths : List Th) (ps : List Addr) (mvs : List (List Nat)) (ys : List Bool) (H : Hp) : Prop where
 t : H Tt = some (.lst ws)
 th : ThsAt H ws ths
 m : H Mv = some (.lst (ps.map V.ref))
 r : Paired (fun p row => H p = some (.lst ((castI row).map V.int))) ps mvs
 y : H Yy = some (.lst (ys.map V.bl))
section
variable {Tt Mv Yy : Addr} {ws : List V} {ths : List Th} {ps : List Addr} {mvs : List (List Nat)} {ys : List Bool} {H H' : Hp}
theorem Ev31.keep (e : Ev31 Tt Mv Yy ws ths ps mvs ys H) (kt : KTu H H') (kl : ∀ b l, H b = some (.lst l) → (b = Tt ∨ b = Mv ∨ b = Yy ∨ b ∈ ps) → H' b = some (.lst l)) : Ev31 Tt Mv Yy ws ths ps mvs ys H' := by
 refine ⟨kl _ _ e.t (.inl rfl), Paired.mapP e.th fun v x h => h.keep kt, kl _ _ e.m (.inr (.inl rfl)), ?_, kl _ _ e.y (.inr (.inr (.inl rfl)))⟩
 have key : ∀ {qs : List Addr} {rs : List (List Nat)}, (∀ q ∈ qs, q ∈ ps) → Paired (fun p row => H p = some (.lst ((castI row).map V.int))) qs rs → Paired (fun p row => H' p = some (.lst ((castI row).map V.int))) qs rs := by
  intro qs rs hq h
  induction h with
  | nil => exact .nil
  | cons h _ ih => exact .cons (kl _ _ h (.inr (.inr (.inr (hq _ List.mem_cons_self))))) (ih fun q z => hq q (List.mem_cons_of_mem _ z))
 exact key (fun _ h => h) e.r
theorem Ev31.same (e : Ev31 Tt Mv Yy ws ths ps mvs ys H) (s : Same H H') : Ev31 Tt Mv Yy ws ths ps mvs ys H' := e.keep s.kt fun b l z _ => s _ _ z
theorem Ev31.untr {D : List Addr} (hD : ∀ a ∈ D, ∃ φ, H a = some (.ext φ)) (e : Ev31 Tt Mv Yy ws ths ps mvs ys H) : Ev31 Tt Mv Yy ws ths ps mvs ys (L2.untr D H) := e.keep (fun b xs z => untr_get hD z (fun _ y => nomatch y)) fun b l z _ => untr_get hD z (fun _ y => nomatch y)
end
theorem tr_leaf {H : Hp} {n : Nat} {x y : V} (h : Lf x y) : Tr H (n + 1) x y := .inl h
theorem tr_tup {H : Hp} {n : Nat} {p q : Addr} {xs ys : List V} (h1 : H p = some (.tup xs)) (h2 : H q = some (.tup ys)) (hl : xs.length = ys.length) (h3 : xs.length ≤ 3000) (h : ∀ (i : Nat) (u v : V), xs[i]? = some u → ys[i]? = some v → Tr H n u v) : Tr H (n + 1) (.ref p) (.ref q) := .inr ⟨p, q, xs, ys, rfl, rfl, .inl ⟨h1, h2⟩, hl, h3, h⟩
theorem tr_th {H : Hp} {x : Th} {v u : V} (h : ThAt H x v) (h' : ThAt H x u) : Tr H 3 v u := by
 cases x with
 | non => cases (show v = _ from h); cases (show u = _ from h'); exact tr_leaf (.inr (.inr (.inr ⟨rfl, rfl⟩)))
 | int k => cases (show v = _ from h); cases (show u = _ from h'); exact tr_leaf (.inl ⟨k, rfl, rfl⟩)
 | str x => cases (show v = _ from h); cases (show u = _ from h'); exact tr_leaf (.inr (.inr (.inl ⟨x, rfl, rfl⟩)))
 | unit =>
  obtain ⟨p, rfl, e⟩ := h
  obtain ⟨q, rfl, e'⟩ := h'
  exact tr_tup e e' rfl (by simp) fun i a b h1 _ => by simp at h1
 | one k =>
  obtain ⟨p, rfl, e⟩ := h
  obtain ⟨q, rfl, e'⟩ := h'
  refine tr_tup e e' rfl (by simp) fun i a b h1 h2 => ?_
  match i, h1, h2 with
  | 0, h1, h2 => cases h1; cases h2; exact tr_leaf (.inl ⟨k, rfl, rfl⟩)
 | two k =>
  obtain ⟨p, p2, rfl, e, e2⟩ := h
  obtain ⟨q, q2, rfl, e', e2'⟩ := h'
  refine tr_tup e e' rfl (by simp) fun i a b h1 h2 => ?_
  match i, h1, h2 with
  | 0, h1, h2 => cases h1; cases h2; exact tr_leaf (.inl ⟨k, rfl, rfl⟩)
  | 1, h1, h2 =>
   cases h1; cases h2
   refine tr_tup e2 e2' rfl (by simp) fun i a b h1 h2 => ?_
   match i, h1, h2 with
   | 0, h1, h2 => cases h1; cases h2; exact tr_leaf (.inr (.inr (.inr ⟨rfl, rfl⟩)))
   | 1, h1, h2 => cases h1; cases h2; exact tr_leaf (.inl ⟨k, rfl, rfl⟩)
structure Got (H : Hp) (p : Addr) (R Y M : Addr) (xs : List Th) (bs : List Bool) (mv : List (List Nat)) : Prop where
 top : H p = some (.tup [.ref R, .ref Y, .ref M])
 rooms : ∃ vs, H R = some (.lst vs) ∧ ThsAt H vs xs
 yes : H Y = some (.tup (bs.map V.bl))
 moves : ∃ ps : List Addr, H M = some (.tup (ps.map V.ref)) ∧ Tups H ps (mv.map castI)
theorem Got.same {H H' : Hp} {p R Y M : Addr} {xs : List Th} {bs : List Bool} {mv : List (List Nat)} (g : Got H p R Y M xs bs mv) (kt : KTu H H') (kl : ∀ l, H R = some (.lst l) → H' R = some (.lst l)) : Got H' p R Y M xs bs mv := by
 obtain ⟨vs, e, t⟩ := g.rooms
 obtain ⟨ps, e2, t2⟩ := g.moves
 exact ⟨kt _ _ g.top, ⟨vs, kl _ e, Paired.mapP t fun _ _ h => h.keep kt⟩, kt _ _ g.yes, ps, kt _ _ e2, t2.keep kt⟩
theorem got_alike {H : Hp} {p R Y M p' R' Y' M' : Addr} {xs : List Th} {bs : List Bool} {mv : List (List Nat)} (g : Got H p R Y M xs bs mv) (g' : Got H p' R' Y' M' xs bs mv) (lx : xs.length ≤ 30) (lb : bs.length ≤ 30) (lm : mv.length ≤ 30) (lr : ∀ r ∈ mv, r.length ≤ 30) : Tr H 5 (.ref p) (.ref p') := by
 obtain ⟨vs, e, t⟩ := g.rooms
 obtain ⟨vs', e', t'⟩ := g'.rooms
 obtain ⟨ps, e2, t2⟩ := g.moves
 obtain ⟨ps', e2', t2'⟩ := g'.moves
 have l1 := Paired.length t
 have l1' := Paired.length t'
 have l2 := Paired.length t2
 have l2' := Paired.length t2'
 rw [List.length_map] at l2 l2'
 refine tr_tup g.top g'.top rfl (by simp) fun i a b h1 h2 => ?_
 match i, h1, h2 with
 | 0, h1, h2 =>
  cases h1; cases h2
  refine .inr ⟨R, R', vs, vs', rfl, rfl, .inr ⟨e, e'⟩, by omega, by omega, fun i u v hu hv => ?_⟩
  obtain ⟨x, hx, tx⟩ := paired_get t hu
  obtain ⟨x', hx', tx'⟩ := paired_get t' hv
  cases hx.symm.trans hx'
  exact tr_th tx tx'
 | 1, h1, h2 =>
  cases h1; cases h2
  refine tr_tup g.yes g'.yes rfl (by rw [List.length_map]; omega) fun i u v hu hv => ?_
  cases hu.symm.trans hv
  rw [List.getElem?_map] at hu
  obtain ⟨b, _, rfl⟩ := Option.map_eq_some_iff.mp hu
  exact tr_leaf (.inr (.inl ⟨b, rfl, rfl⟩))
 | 2, h1, h2 =>
  cases h1; cases h2
  refine tr_tup e2 e2' (by rw [List.length_map, List.length_map]; omega) (by rw [List.length_map]; omega) fun i u v hu hv => ?_
  obtain ⟨q, rfl, hq⟩ := refItem hu
  obtain ⟨q', rfl, hq'⟩ := refItem hv
  obtain ⟨r, hr, tr⟩ := paired_get t2 hq
  obtain ⟨r', hr', tr'⟩ := paired_get t2' hq'
  cases hr.symm.trans hr'
  rw [List.getElem?_map] at hr
  obtain ⟨row, hrow, rfl⟩ := Option.map_eq_some_iff.mp hr
  have := lr row (List.mem_of_getElem? hrow)
  refine tr_tup tr tr' rfl (by rw [List.length_map, castI_len]; omega) fun i u v hu hv => ?_
  cases hu.symm.trans hv
  obtain ⟨j, rfl, _⟩ := intItem hu
  exact tr_leaf (.inl ⟨j, rfl, rfl⟩)
theorem paired_set {α β : Type} {F : α → β → Prop} {a : α} {b : β} : ∀ {l : List α} {m : List β} {i : Nat}, Paired F l m → F a b → Paired F (l.set i a) (m.set i b)
 | _, _, _, .nil, _ => .nil
 | _, _, 0, .cons _ t, h => .cons h t
 | _, _, i + 1, .cons r t, h => .cons r (paired_set t h)
theorem ixN_lt {n q : Nat} (h : q < n) : ixN n (q : Int) = some q := by
 unfold ixN; rw [if_pos (by omega), if_pos (by omega)]; rfl
def RowsA (H : Hp) (F L M : Addr) (ps : List Addr) (mvs : List (List Nat)) : Prop := Paired (fun p row => H p = some (.lst ((castI row).map V.int)) ∧ p ≠ F ∧ p ≠ L ∧ p ≠ M) ps mvs
theorem RowsA.keep {H H' : Hp} {F L M : Addr} {ps : List Addr} {mvs : List (List Nat)} (h : RowsA H F L M ps mvs) (k : ∀ b l, H b = some (.lst l) → b ≠ F → b ≠ L → b ≠ M → H' b = some (.lst l)) : RowsA H' F L M ps mvs := Paired.mapP h fun p row ⟨e, a, b, c⟩ => ⟨k _ _ e a b c, a, b, c⟩
theorem RowsA.ev {H : Hp} {F L M : Addr} {ps : List Addr} {mvs : List (List Nat)} (h : RowsA H F L M ps mvs) : Paired (fun p row => H p = some (.lst ((castI row).map V.int))) ps mvs := Paired.mapP h fun p row z => z.1
theorem RowsA.ne {H : Hp} {F L M : Addr} {ps : List Addr} {mvs : List (List Nat)} (h : RowsA H F L M ps mvs) : ∀ p ∈ ps, p ≠ F ∧ p ≠ L := fun p hp => by
 obtain ⟨i, hi⟩ := List.getElem?_of_mem hp
 obtain ⟨_, _, _, a, b, _⟩ := paired_get h hi
 exact ⟨a, b⟩
def Llaw : List (Pos × Str) := [(⟨81, 4, 82, 76⟩, (("law" : Str) ++ ".<locals>.") ++ "_law_onward"), (⟨84, 4, 85, 53⟩, (("law" : Str) ++ ".<locals>.") ++ "_law_is_yes")]
theorem apart2 {p q : Pos × Str} (h : p.1.line ≠ q.1.line) : Apart [p, q] := fun a ha b hb e _ => by
 rcases List.mem_cons.mp ha with z | z <;> rcases List.mem_cons.mp hb with y | y
 ·rw [z, y]
 ·rw [z, List.mem_singleton.mp y] at e; exact absurd e h
 ·rw [y, List.mem_singleton.mp z] at e; exact absurd e.symm h
 ·rw [List.mem_singleton.mp z, List.mem_singleton.mp y]
section
variable {X : Cx} {pos : Pos} {name : Str} {params : Arguments} {body : List Stmt} {scope : Scope} {c T : Addr} {clos : List (Str × Addr)} {L : List (Pos × Str)}
theorem ps_defK {i : Nat} (hN : X.N.Nodup) (hi : X.N[i]? = some name) (hx : Loc X.env.scope name) (hcode : X.env.code = .ref c) (hC : PySem.W.codeHdIn X.K c T = true) (hB : BltAt X.mg X.base) (hcl : closureFor scope X.env = pure clos) (hd0 : params.defaults = []) (hk0 : params.kw_defaults = []) (ha : annTrees params none X.env = [])
  (hL : (pos, qualnameIn X.env name name) ∈ L) (ap : Apart L) (hf : X.fn name = true ∨ X.env.scope.names.lookup name = some .local := by first | exact .inl rfl | exact .inr rfl | assumption) :
  PS X (.FunctionDef name params body [] none [] scope none name pos) (tDef X name params body scope clos T L i) := fun pins s σ H D I h => ps_def hN hi hx hcode (PySem.W.codeHd_of_K I.ok.mod.kin hC) hB hcl hd0 hk0 ha hL ap hf pins s σ H D I h
end
def spLaw (K : PySem.W.Frag) (ts : List Addr) : Sp := fun vs H Q _ => ∃ (a : Addr) (ns : List Int), vs = [.ref a] ∧ SqL K H a (ns.map V.int) ∧ ns.length ≤ 63 ∧ OnlyT ts H ∧ ∀ H', Q (.bl true) H'
theorem sc_law : FnScope ["_law_script", "_law_feed_here", "_law_count", "_law_many", "_law_wide", "_law_things", "_law_moves", "_law_k", "_law_yes", "_law_first", "_law_onward", "_law_is_yes", "_law_came", "_law_due", "_law_found", "_law_less"] ["_law_script"] (defScope s_law) := ⟨rfl, rfl, rfl, by decide +kernel, rfl, by decide +kernel, by decide +kernel⟩
set_option maxHeartbeats 32000000 in
theorem ok_law {a : Adr} (T : Txt K mg a) (hB : BltAt mg base) : FnOk P w K mg base CX0 7 a.f_law a.fd_law ["_law_script"] (spLaw K [a.t_l_ring, a.t_law]) := by
 have G_l_feed := ok_l_feed (P := P) (w := w) (base := base) T
 have G_l_draw := ok_l_draw (P := P) (w := w) (base := base) T
 have G_l_alike : FnOk P w K mg base CX0 6 a.f_l_alike a.fd_l_alike ["_law_found", "_law_due"] (spAlike 5) := ok_l_alike T 5
 have G_l_ring := ok_l_ring (P := P) (w := w) (base := base) T hB
 obtain ⟨td, db⟩ := T.d_grown_from
 refine T.F_law.ok sc_law (fun vs H Q E h => ?_) (fun Ar outer s H vs Q E hr h => ?_)
 ·obtain ⟨sa, ns, rfl, _⟩ := h
  rfl
 ·obtain ⟨sa, ns, rfl, hS, hns, hO, k⟩ := h
  have hr_l_feed : Room 1 _ := hr.mono (by decide)
  have hr_l_draw : Room 1 _ := hr.mono (by decide)
  have hr_l_alike : Room 6 _ := hr
  have hr_l_ring : Room 3 _ := hr.mono (by decide)
  have hr_grown : Room 2 _ := hr.mono (by decide)
  have hr_fn : Room 1 _ := hr.mono (by decide)
  refine ⟨_, (pss_cons (ps_set (i := 1) sc_law.nd rfl (Or.inr rfl) (pe_call G_l_feed hr_l_feed rfl T.m_l_feed T.k_l_feed T.b_l_feed .nil pass0 (pa_cons (pv 0) pa_nil)))
  (pss_cons (ps_set (i := 2) sc_law.nd rfl (Or.inr rfl) (pe_op op_add pe_int (pe_call G_l_draw hr_l_draw rfl T.m_l_draw T.k_l_draw T.b_l_draw .nil pass0 (pa_cons (pv 1) (pa_cons pe_int pa_nil)))))
  (pss_cons (ps_set (i := 3) sc_law.nd rfl (Or.inl rfl) (pe_op op_add pe_int (pe_call G_l_draw hr_l_draw rfl T.m_l_draw T.k_l_draw T.b_l_draw .nil pass0 (pa_cons (pv 1) (pa_cons pe_int pa_nil)))))
  (pss_cons (ps_set (i := 4) sc_law.nd rfl (Or.inr rfl) (pe_op op_add pe_int (pe_call G_l_draw hr_l_draw rfl T.m_l_draw T.k_l_draw T.b_l_draw .nil pass0 (pa_cons (pv 1) (pa_cons (pv 2) pa_nil)))))
  (pss_cons (ps_set (i := 5) sc_law.nd rfl (Or.inr rfl) (pe_comp (CompScope.mk' (esc := defScope s_law) (N := ["_law_script", "_law_feed_here", "_law_count", "_law_many", "_law_wide", "_law_things", "_law_moves", "_law_k", "_law_yes", "_law_first", "_law_onward", "_law_is_yes", "_law_came", "_law_due", "_law_found", "_law_less"]) (own := ["_law_k"]) (frn := ["_law_feed_here"]) (frj := [1]) rfl rfl (by decide +kernel)) rfl (pi_range1 rfl T.z_range (pa_cons (pv 2) pa_nil)) (fun _ _ _ _ => (pg_name (i := 0) (show List.Nodup (["_law_k", "_law_feed_here"] : List Str) by decide +kernel) rfl (Or.inl rfl))) (fun _ _ _ _ => pifs_nil) (fun _ _ _ _ => (pe_ix (ix_listK K) (pe_lst (pa_cons (pv 0) (pa_cons (pe_tup (pa_cons (pv 0) pa_nil)) (pa_cons (pe_tup (pa_cons (pv 0) (pa_cons (pe_tup (pa_cons pe_non (pa_cons (pv 0) pa_nil))) pa_nil))) (pa_cons (pe_op op_add_str pe_str (pe_callTy call_str_int (by rfl) T.z_str bt_str (pa_cons (pv 0) pa_nil))) pa_nil))))) (pe_call G_l_draw hr_l_draw rfl T.m_l_draw T.k_l_draw T.b_l_draw .nil pass0 (pa_cons (pv 1) (pa_cons pe_int pa_nil))) (fun _ _ => rfl)))))
  (pss_cons (ps_asg pe_non (pg_sub (pv 5) (pe_call G_l_draw hr_l_draw rfl T.m_l_draw T.k_l_draw T.b_l_draw .nil pass0 (pa_cons (pv 1) (pa_cons (pv 2) pa_nil))) set_list))
  (pss_cons (ps_asg (pe_tup pa_nil) (pg_sub (pv 5) (pe_call G_l_draw hr_l_draw rfl T.m_l_draw T.k_l_draw T.b_l_draw .nil pass0 (pa_cons (pv 1) (pa_cons (pv 2) pa_nil))) set_list))
  (pss_cons (ps_set (i := 6) sc_law.nd rfl (Or.inr rfl) (pe_lst pa_nil))
  (pss_cons (ps_for PassesOwn.never rfl (pi_range1 rfl T.z_range (pa_cons (pv 2) pa_nil)) (pg_name (i := 7) sc_law.nd rfl (Or.inr rfl))
   (pss_one (ps_expr (pe_bm PySem.F.plainAttrs_list PySem.F.slot_list_append PySem.F.type_list_append mt_append (pv 6) (pa_cons (pe_comp (CompScope.mk' (esc := defScope s_law) (N := ["_law_script", "_law_feed_here", "_law_count", "_law_many", "_law_wide", "_law_things", "_law_moves", "_law_k", "_law_yes", "_law_first", "_law_onward", "_law_is_yes", "_law_came", "_law_due", "_law_found", "_law_less"]) (own := ["_law_letter"]) (frn := ["_law_count", "_law_k", "_law_feed_here", "_law_wide"]) (frj := [2, 7, 1, 4]) rfl rfl (by decide +kernel)) rfl (pi_range1 rfl T.z_range (pa_cons (pv 3) pa_nil)) (fun _ _ _ _ => (pg_name (i := 0) (show List.Nodup (["_law_letter", "_law_count", "_law_k", "_law_feed_here", "_law_wide"] : List Str) by decide +kernel) rfl (Or.inl rfl))) (fun _ _ _ _ => pifs_nil) (fun _ _ _ _ => (pe_op op_modP (pe_op op_add (pe_op op_add (pv 2) pe_int) (pe_call G_l_draw hr_l_draw rfl T.m_l_draw T.k_l_draw T.b_l_draw .nil pass0 (pa_cons (pv 3) (pa_cons (pv 4) pa_nil)))) (pv 1)))) pa_nil)))))
  (pss_cons (ps_set (i := 8) sc_law.nd rfl (Or.inr rfl) (pe_comp (CompScope.mk' (esc := defScope s_law) (N := ["_law_script", "_law_feed_here", "_law_count", "_law_many", "_law_wide", "_law_things", "_law_moves", "_law_k", "_law_yes", "_law_first", "_law_onward", "_law_is_yes", "_law_came", "_law_due", "_law_found", "_law_less"]) (own := ["_law_k"]) (frn := ["_law_feed_here"]) (frj := [1]) rfl rfl (by decide +kernel)) rfl (pi_range1 rfl T.z_range (pa_cons (pv 2) pa_nil)) (fun _ _ _ _ => (pg_name (i := 0) (show List.Nodup (["_law_k", "_law_feed_here"] : List Str) by decide +kernel) rfl (Or.inl rfl))) (fun _ _ _ _ => pifs_nil) (fun _ _ _ _ => (pe_cmpR op_eq (pe_call G_l_draw hr_l_draw rfl T.m_l_draw T.k_l_draw T.b_l_draw .nil pass0 (pa_cons (pv 1) (pa_cons pe_int pa_nil))) pe_int (nomark _)))))
  (pss_cons (ps_set (i := 9) sc_law.nd rfl (Or.inl rfl) (pe_ix (ix_listK K) (pv 5) (pe_call G_l_draw hr_l_draw rfl T.m_l_draw T.k_l_draw T.b_l_draw .nil pass0 (pa_cons (pv 1) (pa_cons (pv 2) pa_nil))) (fun _ _ => rfl)))
  (pss_cons (ps_defK (i := 10) (T := a.t_law) (L := Llaw) sc_law.nd rfl (Or.inl rfl) rfl T.h_law hB rfl rfl rfl rfl (List.mem_cons_self) (apart2 (by decide)))
  (pss_cons (ps_defK (i := 11) (T := a.t_law) (L := Llaw) sc_law.nd rfl (Or.inr rfl) rfl T.h_law hB rfl rfl rfl rfl (List.mem_cons_of_mem _ List.mem_cons_self) (apart2 (by decide)))
  (pss_cons (ps_asg (pe_callW (fun _ => rfl) hr_grown rfl T.m_l_grown T.k_l_grown T.b_l_grown (pa_cons (pv 9) (pa_cons (pv 3) (pa_cons (pv 10) (pa_cons (pv 2) pa_nil))))) (pg_tupK K (n := 2) rfl (pgs_cons (pg_name (i := 12) sc_law.nd rfl (Or.inl rfl)) (pgs_cons (pg_name (i := 13) sc_law.nd rfl (Or.inl rfl)) pgs_nil))))
  (pss_cons (ps_set (i := 13) sc_law.nd rfl (Or.inl rfl) (pe_tup (pa_cons (pv 12) (pa_cons (pe_callTy (call_tupleK K) (by rfl) T.z_tuple bt_tuple (pa_cons (pe_compW (CompScope.mk' (esc := defScope s_law) (N := ["_law_script", "_law_feed_here", "_law_count", "_law_many", "_law_wide", "_law_things", "_law_moves", "_law_k", "_law_yes", "_law_first", "_law_onward", "_law_is_yes", "_law_came", "_law_due", "_law_found", "_law_less"]) (own := ["_law_room"]) (frn := ["_law_is_yes"]) (frj := [11]) rfl rfl (by decide +kernel)) rfl (pi_list (pv 12)) (fun _ _ _ _ => (pg_name (i := 0) (show List.Nodup (["_law_room", "_law_is_yes"] : List Str) by decide +kernel) rfl (Or.inl rfl))) (fun _ _ _ _ => pifs_nil) (fun _ _ _ _ _ _ J hfp => (pe_callVC (i := 1) J hfp (fun _ => rfl) hr_fn rfl (Or.inr (Or.inl rfl)) (pa_cons (pv 0) pa_nil)))) pa_nil)) (pa_cons (pv 13) pa_nil)))))
  (pss_cons (ps_set (i := 14) sc_law.nd rfl (Or.inl rfl) (pe_callWD (ds := [Value.int 2000 td]) (dvs := [V.int 2000]) (fun _ => rfl) hr_grown rfl T.m_grown_from T.k_grown_from db (.cons ⟨td, rfl⟩ .nil) (pa_cons (pv 9) (pa_cons (pv 3) (pa_cons (pv 10) (pa_cons (pv 11) pa_nil))))))
  (pss_cons (ps_if (pt_not (pt_truth (pe_call G_l_alike hr_l_alike rfl T.m_l_alike T.k_l_alike T.b_l_alike .nil pass0 (pa_cons (pv 14) (pa_cons (pv 13) pa_nil))) (fun _ => rfl)))
   (pss_one (ps_ret pe_bl))
   pss_nil)
  (pss_cons (ps_expr (pe_bm PySem.F.plainAttrs_list PySem.F.slot_list_append PySem.F.type_list_append mt_append (pe_ix (ix_tupK K) (pv 14) pe_int (fun _ _ => rfl)) (pa_cons (pv 9) pa_nil)))
  (pss_cons (ps_if (pt_not (pt_truth (pe_call G_l_alike hr_l_alike rfl T.m_l_alike T.k_l_alike T.b_l_alike .nil pass0 (pa_cons (pe_callW (fun _ => rfl) hr_grown rfl T.m_grown_from T.k_grown_from T.b_grown_from (pa_cons (pv 9) (pa_cons (pv 3) (pa_cons (pv 10) (pa_cons (pv 11) (pa_cons (pe_callB (call_lenK K) (by rfl) T.z_len bt_len (pa_cons (pv 12) pa_nil)) pa_nil)))))) (pa_cons (pv 13) pa_nil))) (fun _ => rfl)))
   (pss_one (ps_ret pe_bl))
   pss_nil)
  (pss_cons (ps_if (PW.pt (pw_and (pt_cmpR op_eq (pe_call G_l_draw hr_l_draw rfl T.m_l_draw T.k_l_draw T.b_l_draw .nil pass0 (pa_cons (pv 1) (pa_cons pe_int pa_nil))) pe_int (nomark _)) (pw_and1 (pt_not (pt_truth (pe_call G_l_ring hr_l_ring rfl T.m_l_ring T.k_l_ring T.b_l_ring .nil pass0 (pa_cons (pe_op op_add pe_int (pe_call G_l_draw hr_l_draw rfl T.m_l_draw T.k_l_draw T.b_l_draw .nil pass0 (pa_cons (pv 1) (pa_cons pe_int pa_nil)))) pa_nil)) (fun _ => rfl))))))
   (pss_one (ps_ret pe_bl))
   pss_nil)
  (pss_cons (ps_set (i := 15) sc_law.nd rfl (Or.inl rfl) (pe_op op_sub (pe_op op_sub (pe_callB (call_lenK K) (by rfl) T.z_len bt_len (pa_cons (pv 12) pa_nil)) pe_int) (pe_call G_l_draw hr_l_draw rfl T.m_l_draw T.k_l_draw T.b_l_draw .nil pass0 (pa_cons (pv 1) (pa_cons (pe_callB (call_lenK K) (by rfl) T.z_len bt_len (pa_cons (pv 12) pa_nil)) pa_nil)))))
  (pss_one (ps_ret (pe_and (pe_cmpR op_isN (pe_callW (fun _ => rfl) hr_grown rfl T.m_grown_from T.k_grown_from T.b_grown_from (pa_cons (pv 9) (pa_cons (pv 3) (pa_cons (pv 10) (pa_cons (pv 11) (pa_cons (pv 15) pa_nil)))))) pe_non (nomark _)) (pe_one (pe_call G_l_alike hr_l_alike rfl T.m_l_alike T.k_l_alike T.b_l_alike .nil pass0 (pa_cons (pe_callW (fun _ => rfl) hr_grown rfl T.m_grown_from T.k_grown_from T.b_grown_from (pa_cons (pv 9) (pa_cons (pv 3) (pa_cons (pv 10) (pa_cons (pv 11) (pa_cons pe_int pa_nil)))))) (pa_cons (pv 13) pa_nil)))))))))))))))))))))))))))), ?_⟩
  have big : (10000 : Nat) ≤ sizeLine := by decide
  have p10 : (2 ^ 10 : Nat) < 2 ^ 1000 := Nat.pow_lt_pow_right (by decide) (by decide)
  have small : ∀ x : Nat, x ≤ 1000 → x < 2 ^ 1000 := fun x hx => Nat.lt_trans (show x < 2 ^ 10 by omega) p10
  have tr0 : Tab H a.t_l_ring Lring := hO.tab (by simp)
  have tl0 : Tab H a.t_law Llaw := hO.tab (by simp)
  refine hideS fun Y hY => ?_
  refine ⟨_, rfl, sa, ns, rfl, hS, hns, fun F L H1 hF hL s1 f1 => ?_⟩
  dsimp only [gName]
  subst hY
  refine hideS fun Y hY => ?_
  refine ⟨_, rfl, F, L, 30, rfl, f1, by decide, small _ (by decide), fun r2 H2 h2 k2 f2 => ⟨_, _, rfl, rfl, ?_⟩⟩
  dsimp only [gName]
  subst hY
  refine hideS fun Y hY => ?_
  refine ⟨_, rfl, F, L, 9, rfl, f2, by decide, small _ (by decide), fun r3 H3 h3 k3 f3 => ⟨_, _, rfl, rfl, ?_⟩⟩
  dsimp only [gName]
  subst hY
  refine hideS fun Y hY => ?_
  obtain ⟨n, hn⟩ : ∃ n : Nat, (1 : Int) + (r2 : Int) = (n : Int) := ⟨r2 + 1, by omega⟩
  obtain ⟨m, hm⟩ : ∃ m : Nat, (1 : Int) + (r3 : Int) = (m : Int) := ⟨r3 + 1, by omega⟩
  rw [hn, hm]
  have n0 : 0 < n := by omega
  have n1 : n ≤ 30 := by omega
  have m0 : 0 < m := by omega
  have m1 : m ≤ 9 := by omega
  refine ⟨_, rfl, _, rfl, F, L, n, rfl, f3, n0, small _ (by omega), fun r4 H4 h4 k4 f4 => ⟨_, _, rfl, rfl, ?_⟩⟩
  obtain ⟨wd, hwd⟩ : ∃ wd : Nat, (1 : Int) + (r4 : Int) = (wd : Int) := ⟨r4 + 1, by omega⟩
  have w0 : 0 < wd := by omega
  have w1 : wd ≤ 30 := by omega
  dsimp only [gName]
  rw [hwd]
  subst hY
  refine hideS fun Y hY => ?_
  refine ⟨_, rfl, _, rfl, by omega, by omega, fun C hC => ?_⟩
  have nC := f4.neF hC
  have slen : ∀ j : Nat, j < 31 → (Str.ofString (toString (j : Int))).length ≤ 100 := by decide
  refine comp_range (fun i σ H' => ∃ (ws : List V) (ts : List Th) (v : Option V), σ = [v, some (.ref F)] ∧ KB2 F L H4 H' ∧ Feed H' F L ∧ H' C = some (.lst ws) ∧ ThsAt H' ws ts ∧ ts.length = i)
   ⟨[], [], none, ?sg, (Same.new hC).kb2, f4.same (Same.new hC), upd_same, .nil, rfl⟩ ?_ ?_
  case sg => rfl
  ·rintro i σ H5 hi ⟨ws, ts, v, rfl, k5, f5, c5, th5, lt⟩
   rw [Int.toNat_natCast] at hi
   have lw := Paired.length th5
   obtain ⟨kk, hkk⟩ : ∃ kk : Int, (0 : Int) + (i : Int) = kk := ⟨_, rfl⟩
   rw [hkk]
   have ekk : kk = ((i : Nat) : Int) := by omega
   refine ⟨_, rfl, _, rfl, by show 1 ≤ sizeLine; decide, fun t1 h1 => ?_⟩
   refine ⟨_, rfl, _, rfl, by show 2 ≤ sizeLine; decide, fun t2 h2 => ⟨by show 2 ≤ sizeLine; decide, fun t3 h3 => ?_⟩⟩
   have s1' := Same.new (o := .tup [.int kk]) h1
   have s2' := Same.new (o := .tup [.non, .int kk]) h2
   have s3' := Same.new (o := .tup [.int kk, .ref t2]) h3
   refine ⟨_, rfl, kk, rfl, ?_, _, _, rfl, rfl, ?_, by show 4 ≤ sizeLine; decide, fun l4 hl4 => ?_⟩
   ·rw [ekk, Int.natAbs_natCast]
    exact Nat.lt_of_le_of_lt (Nat.log2_le_self i) (by omega)
   ·have := slen i (by omega)
    rw [← ekk] at this
    have e1 : (Str.ofString "r").length = 1 := by decide
    omega
   have s4' := Same.new (o := .lst [.int kk, .ref t1, .ref t3, .str (Str.ofString "r" ++ Str.ofString (toString kk))]) hl4
   have s14 := ((s1'.trans s2').trans s3').trans s4'
   have f5' := f5.same s14
   have nl4 : l4 ≠ F ∧ l4 ≠ L := by
    have := (f5.same ((s1'.trans s2').trans s3')).neF hl4
    exact this
   refine ⟨_, rfl, F, L, 4, rfl, f5', by decide, small _ (by decide), fun q H6 q1 k6 f6 => ?_⟩
   have kt6 := f5'.ktu k6
   have e4 := k6 _ _ (upd_same (H := upd (upd (upd H5 t1 (.tup [.int kk])) t2 (.tup [.non, .int kk])) t3 (.tup [.int kk, .ref t2])) (a := l4) (o := .lst [.int kk, .ref t1, .ref t3, .str (Str.ofString "r" ++ Str.ofString (toString kk))])) nl4.1 nl4.2
   obtain ⟨v', x, hv, hx⟩ : ∃ (v' : V) (x : Th), [V.int kk, .ref t1, .ref t3, .str (Str.ofString "r" ++ Str.ofString (toString kk))][q]? = some v' ∧ ThAt H6 x v' := by
    match q, q1 with
    | 0, _ => exact ⟨_, .int kk, rfl, rfl⟩
    | 1, _ => exact ⟨_, .one kk, rfl, t1, rfl, kt6 _ _ (((s2'.trans s3').trans s4') _ _ upd_same)⟩
    | 2, _ => exact ⟨_, .two kk, rfl, t3, t2, rfl, kt6 _ _ (s4' _ _ upd_same), kt6 _ _ ((s3'.trans s4') _ _ upd_same)⟩
    | 3, _ => exact ⟨_, .str _, rfl, rfl⟩
   refine ⟨l4, _, _, v', rfl, rfl, .of e4, atI_nat hv, ?_⟩
   have c6 := k6 _ _ (s14 _ _ c5) nC.1 nC.2
   refine ⟨_, c6, by omega, ws ++ [v'], ts ++ [x], _, rfl, KB2.updN ((k5.trans s14.kb2).trans k6) hC, f6.upd nC, upd_same, ?_, by rw [List.length_append, lt]; rfl⟩
   have ku : KTu H6 (upd H6 C (.lst (ws ++ [v']))) := ktu_upd c6 (fun _ z => nomatch z)
   exact paired_snoc (Paired.mapP th5 fun _ _ z => (z.keep (s14.kt.trans kt6)).keep ku) (hx.keep ku)
  rintro σ H5 ⟨ws, ts, v, rfl, k5, f5, c5, th5, lt⟩
  rw [Int.toNat_natCast] at lt
  have hC1 := hC
  dsimp only [gName]
  subst hY
  refine hideS fun Y hY => ?_
  refine ⟨_, rfl, _, rfl, _, rfl, F, L, n, rfl, f5, n0, small _ (by omega), fun q H6 q1 k6 f6 => ?_⟩
  have lw := Paired.length th5
  have c6 := k6 _ _ c5 nC.1 nC.2
  refine ⟨C, ws, _, q, rfl, rfl, c6, ixN_lt (by omega), ?_⟩
  have th6 : ThsAt (upd H6 C (.lst (ws.set q .non))) (ws.set q .non) (ts.set q .non) := paired_set (Paired.mapP th5 fun _ _ z => (z.keep (f5.ktu k6)).keep (ktu_upd c6 (fun _ z => nomatch z))) rfl
  have f6' : Feed (upd H6 C (.lst (ws.set q .non))) F L := f6.upd nC
  have k46 : KB2 F L H4 (upd H6 C (.lst (ws.set q .non))) := KB2.updN (k5.trans k6) hC
  have c6' : upd H6 C (.lst (ws.set q .non)) C = some (.lst (ws.set q .non)) := upd_same
  have lt6 : (ts.set q .non).length = n := by rw [List.length_set]; exact lt
  generalize upd H6 C (.lst (ws.set q .non)) = H7 at th6 f6' k46 c6' ⊢
  generalize ws.set q .non = ws6 at th6 c6' ⊢
  generalize ts.set q .non = ts6 at th6 lt6 ⊢
  dsimp only
  subst hY
  refine hideS fun Y hY => ?_
  refine ⟨by show 0 ≤ sizeLine; omega, fun t0 ht0 => ?_⟩
  have st0 := Same.new (o := .tup []) ht0
  have f7 := f6'.same st0
  refine ⟨_, rfl, _, rfl, _, rfl, F, L, n, rfl, f7, n0, small _ (by omega), fun q' H8 q1' k8 f8 => ?_⟩
  have lw6 := Paired.length th6
  have c8 := k8 _ _ (st0 _ _ c6') nC.1 nC.2
  refine ⟨C, ws6, _, q', rfl, rfl, c8, ixN_lt (by omega), ?_⟩
  have kt8 := st0.kt.trans (f7.ktu k8)
  have ku8 : KTu H8 (upd H8 C (.lst (ws6.set q' (.ref t0)))) := ktu_upd c8 (fun _ z => nomatch z)
  have th8 : ThsAt (upd H8 C (.lst (ws6.set q' (.ref t0)))) (ws6.set q' (.ref t0)) (ts6.set q' .unit) := paired_set (Paired.mapP th6 fun _ _ z => (z.keep kt8).keep ku8) ⟨t0, rfl, ku8 _ _ (f7.ktu k8 _ _ upd_same)⟩
  have f8' : Feed (upd H8 C (.lst (ws6.set q' (.ref t0)))) F L := f8.upd nC
  have k48 : KB2 F L H4 (upd H8 C (.lst (ws6.set q' (.ref t0)))) := KB2.updN ((k46.trans st0.kb2).trans k8) hC
  have c8' : upd H8 C (.lst (ws6.set q' (.ref t0))) C = some (.lst (ws6.set q' (.ref t0))) := upd_same
  have lt8 : (ts6.set q' .unit).length = n := by rw [List.length_set]; exact lt6
  generalize upd H8 C (.lst (ws6.set q' (.ref t0))) = H9 at th8 f8' k48 c8' ⊢
  generalize ws6.set q' (.ref t0) = ws9 at th8 c8' ⊢
  generalize ts6.set q' .unit = ths at th8 lt8 ⊢
  dsimp only
  subst hY
  refine hideS fun Y hY => ?_
  refine ⟨by show 0 ≤ sizeLine; omega, fun M hM => ?_⟩
  have nM := f8'.neF hM
  have nMC : M ≠ C := (ne_of_none c8' hM).symm
  have sM := Same.new (o := .lst []) hM
  dsimp only [gName]
  subst hY
  refine hideS fun Y hY => ?_
  refine ⟨_, rfl, _, rfl, by omega, by omega, for_rangeN (n := (n : Int).toNat) (fun i σ H' => ∃ (ps : List Addr) (mvs : List (List Nat)) (vk : Option V), σ = [some (.ref sa), some (.ref F), some (.int (n : Nat)), some (.int (m : Nat)), some (.int (wd : Nat)), some (.ref C), some (.ref M), vk, none, none, none, none, none, none, none, none] ∧ KB2 F L H9 H' ∧ Feed H' F L ∧ H' M = some (.lst (ps.map V.ref)) ∧ RowsA H' F L M ps mvs ∧ mvs.length = i ∧ ∀ r ∈ mvs, r.length = m ∧ ∀ t ∈ r, t < n)
   ⟨[], [], none, rfl, sM.kb2, f8'.same sM, upd_same, .nil, rfl, fun l hl => (by cases hl)⟩ ?_ ?_⟩
  ·rintro i σ H10 N hN hi ⟨ps, mvs, vk, rfl, k10, f10, m10, rw10, lm, ok⟩
   rw [Int.toNat_natCast] at hi
   have lps := Paired.length rw10
   refine ⟨_, rfl, .inl ⟨rfl, _, .of m10⟩, _, rfl, _, rfl, by omega, by omega, fun C2 hC2 => ?_⟩
   have nC2 := f10.neF hC2
   have nMC2 : M ≠ C2 := ne_of_none m10 hC2
   have hC20 := f10.lo k10 hC2
   refine comp_range (fun j σ H' => ∃ (rs : List Nat) (v : Option V), σ = [v, some (.int (n : Nat)), some (.int (0 + (i : Int))), some (.ref F), some (.int (wd : Nat))] ∧ KB2 F L H10 H' ∧ Feed H' F L ∧ H' C2 = some (.lst ((castI rs).map V.int)) ∧ rs.length = j ∧ ∀ r ∈ rs, r < n)
    ⟨[], none, ?sg, (Same.new hC2).kb2, f10.same (Same.new hC2), upd_same, rfl, fun r hr => (by cases hr)⟩ ?_ ?_
   case sg => rfl
   ·rintro j σ H11 hj ⟨rs, v, rfl, k11, f11, c11, lr, hrs⟩
    rw [Int.toNat_natCast] at hj
    refine ⟨_, rfl, _, _, rfl, rfl, _, rfl, _, rfl, F, L, wd, rfl, f11, w0, small _ (by omega), fun q H12 q1 k12 f12 => ⟨_, _, rfl, rfl, _, rfl, _, _, rfl, rfl, by show (0 : Int) < (n : Int); omega, ?_⟩⟩
    obtain ⟨t, ht, htn⟩ : ∃ t : Nat, ((0 + (i : Int) + 1 + (q : Int)) % (n : Int)) = (t : Int) ∧ t < n := ⟨(i + 1 + q) % n, by rw [show (0 + (i : Int) + 1 + (q : Int)) = ((i + 1 + q : Nat) : Int) by omega]; omega, Nat.mod_lt _ n0⟩
    dsimp only
    rw [ht]
    refine ⟨_, k12 _ _ c11 nC2.1 nC2.2, ?_, rs ++ [t], _, rfl, KB2.updN (k11.trans k12) hC2, f12.upd nC2, ?_, by rw [List.length_append, lr]; rfl, fun x hx => ?_⟩
    ·rw [List.length_map, castI_len]; omega
    ·rw [upd_same, castI_app, List.map_append]; rfl
    ·rcases List.mem_append.mp hx with z | z
     ·exact hrs x z
     ·rw [List.mem_singleton.mp z]; exact htn
   rintro σ H11 ⟨rs, v, rfl, k11, f11, c11, lr, hrs⟩
   rw [Int.toNat_natCast] at lr
   have m11 := k11 _ _ m10 nM.1 nM.2
   have lw2 : ∀ b l, H10 b = some (.lst l) → b ≠ F → b ≠ L → b ≠ M → (upd H11 M (.lst (ps.map V.ref ++ [.ref C2]))) b = some (.lst l) := fun b l e x y z => by rw [upd_ne z]; exact k11 _ _ e x y
   refine ⟨M, _, _, rfl, rfl, m11, ?_, hN _ _ ⟨ps ++ [C2], mvs ++ [rs], _, rfl, ?_, ?_, ?_, ?_, by rw [List.length_append, lm]; rfl, fun l hl => ?_⟩⟩
   ·rw [List.length_map]; omega
   ·exact KB2.updN (k10.trans k11) hM
   ·exact f11.upd nM
   ·rw [upd_same, List.map_append]; rfl
   ·exact paired_snoc (rw10.keep lw2) ⟨by rw [upd_ne nMC2.symm]; exact c11, nC2.1, nC2.2, nMC2.symm⟩
   ·rcases List.mem_append.mp hl with z | z
    ·exact ok l z
    ·rw [List.mem_singleton.mp z]; exact ⟨lr, hrs⟩
  rintro σ H10 ⟨ps, mvs, vk, rfl, k10, f10, m10, rw10, lm, ok⟩
  rw [Int.toNat_natCast] at lm
  have R31 : Rows31 ths.length m mvs := ⟨by rw [lm, lt8], fun r hr => by rw [lt8]; exact ok r hr⟩
  have c10 := k10 _ _ c8' nC.1 nC.2
  have th10 : ThsAt H10 ws9 ths := Paired.mapP th8 fun _ _ z => z.keep (f8'.ktu k10)
  dsimp only
  subst hY
  refine hideS fun Y hY => ?_
  refine ⟨_, rfl, _, rfl, by omega, by omega, fun Yy hYy => ?_⟩
  have nY := f10.neF hYy
  refine comp_range (fun i σ H' => ∃ (ys : List Bool) (v : Option V), σ = [v, some (.ref F)] ∧ KB2 F L H10 H' ∧ Feed H' F L ∧ H' Yy = some (.lst (ys.map V.bl)) ∧ ys.length = i)
   ⟨[], none, ?sg2, (Same.new hYy).kb2, f10.same (Same.new hYy), upd_same, rfl⟩ ?_ ?_
  case sg2 => rfl
  ·rintro i σ H11 hi ⟨ys, v, rfl, k11, f11, y11, ly⟩
   rw [Int.toNat_natCast] at hi
   refine ⟨_, rfl, F, L, 2, rfl, f11, by decide, small _ (by decide), fun q H12 q1 k12 f12 => ⟨rfl, ?_⟩⟩
   refine ⟨_, k12 _ _ y11 nY.1 nY.2, by rw [List.length_map]; omega, ys ++ [decide (V.int (q : Nat) = V.int 0)], _, rfl, KB2.updN (k11.trans k12) hYy, f12.upd nY, by rw [upd_same, List.map_append]; rfl, by rw [List.length_append, ly]; rfl⟩
  rintro σ H11 ⟨ys, v', rfl, k11, f11, y11, ly⟩
  rw [Int.toNat_natCast] at ly
  have c11 := k11 _ _ c10 nC.1 nC.2
  have m11 := k11 _ _ m10 nM.1 nM.2
  have th11 : ThsAt H11 ws9 ths := Paired.mapP th10 fun _ _ z => z.keep (f10.ktu k11)
  have rw11 : RowsA H11 F L M ps mvs := rw10.keep fun b l e x y _ => k11 _ _ e x y
  dsimp only [gName]
  subst hY
  refine hideS fun Y hY => ?_
  refine ⟨_, rfl, _, rfl, _, rfl, F, L, n, rfl, f11, n0, small _ (by omega), fun q0 H12 q01 k12 f12 => ?_⟩
  obtain ⟨x0, hx0⟩ : ∃ x0, ths[q0]? = some x0 := ⟨_, List.getElem?_eq_getElem (by omega)⟩
  obtain ⟨v0, hv0, tv0⟩ := paired_back th11 hx0
  have mem0 : x0 ∈ ths := List.mem_of_getElem? hx0
  have kt12 := f11.ktu k12
  have c12 := k12 _ _ c11 nC.1 nC.2
  refine ⟨C, _, _, v0, rfl, rfl, .of c12, atI_nat hv0, ?_⟩
  have ev12 : Ev31 C M Yy ws9 ths ps mvs ys H12 := ⟨c12, Paired.mapP th11 fun _ _ z => z.keep kt12, k12 _ _ m11 nM.1 nM.2, (rw11.keep fun b l e x y _ => k12 _ _ e x y).ev, k12 _ _ y11 nY.1 nY.2⟩
  have tv12 : ThAt H12 x0 v0 := tv0.keep kt12
  have kAll : KB2 F L H1 H12 := ((((((k2.trans k3).trans k4).trans k48).trans k10).trans k11).trans k12)
  have keepT : ∀ {b : Addr} {q}, H1 b = some (.tbl q) → H12 b = some (.tbl q) := fun {b q} e => by
   obtain ⟨ms, n', sd, e1, e2, _⟩ := f1.ex
   exact kAll _ _ e (ne_of e e1 (fun z => nomatch z)) (ne_of e e2 (fun z => nomatch z))
  have eL : H12 a.t_law = some (.tbl #[]) := keepT (s1 _ _ (hO.2 _ (by simp)))
  have eR : H12 a.t_l_ring = some (.tbl #[]) := keepT (s1 _ _ (hO.2 _ (by simp)))
  have tl12 : Tab H12 a.t_law Llaw := ⟨#[], eL, trivial, fun p _ => .inl rfl⟩
  have neY : ∀ p, (p = C ∨ p = M ∨ p = Yy ∨ p ∈ ps) → p ≠ F ∧ p ≠ L := fun p h => by
   rcases h with z | z | z | z
   ·rw [z]; exact nC
   ·rw [z]; exact nM
   ·rw [z]; exact nY
   ·exact rw11.ne p z
  clear k2 k3 k4 k5 k6 k8 k10 k11 k12 k46 k48 th5 th6 th8 th10 th11 rw10 rw11 c5 c6 c8 c8' c10 c11 c12 m10 m11 y11 kt12 kt8 ku8 sM st0
  dsimp only [gName]
  subst hY
  refine hideS fun Y hY => ?_
  refine ⟨tl12, fun f1 c1 ctv1 doc1 H13 hf1 ef1 ec1 tab13 kb13 => ?_⟩
  dsimp only
  subst hY
  refine hideS fun Y hY => ?_
  refine ⟨tab13, fun f2 c2 ctv2 doc2 H14 hf2 ef2 ec2 tab14 kb14 => ?_⟩
  obtain ⟨qs13, et13, _⟩ := id tab13
  have k1314 : ∀ {b : Addr} {o : HO}, H13 b = some o → (∀ q, o ≠ .tbl q) → H14 b = some o := fun {b o} e hn => kb14 _ _ e fun z => by rw [z, et13] at e; exact hn _ (Option.some.inj e).symm
  have k1214 : ∀ {b : Addr} {o : HO}, H12 b = some o → (∀ q, o ≠ .tbl q) → H14 b = some o := fun {b o} e hn => k1314 (kb13 _ _ e fun z => by rw [z, eL] at e; exact hn _ (Option.some.inj e).symm) hn
  have kt14 : KTu H12 H14 := fun b xs z => k1214 z (fun _ y => nomatch y)
  have ev14 : Ev31 C M Yy ws9 ths ps mvs ys H14 := ev12.keep kt14 fun b l e _ => k1214 e (fun _ y => nomatch y)
  have tv14 : ThAt H14 x0 v0 := tv12.keep kt14
  have eR14 : H14 a.t_l_ring = some (.tbl #[]) := kb14 _ _ (kb13 _ _ eR T.tne) T.tne
  have f14 : Feed H14 F L := let ⟨ms, n', sd, e1, e2, e3⟩ := f12.ex; ⟨ms, n', sd, k1214 e1 (fun _ y => nomatch y), k1214 e2 (fun _ y => nomatch y), e3⟩
  have ef14 := k1314 ef1 (fun _ y => nomatch y)
  have ec14 := k1314 ec1 (fun _ y => nomatch y)
  have hX : ∀ {Hx : Hp}, (∀ b φ, H14 b = some (.ext φ) → Hx b = some (.ext φ)) → ∀ b ∈ [f1, c1, f2, c2], ∃ φ, Hx b = some (.ext φ) := fun hx b hb => by
   simp only [List.mem_cons, List.not_mem_nil, or_false] at hb
   rcases hb with z | z | z | z <;> subst z
   ·exact ⟨_, hx _ _ ef14⟩
   ·exact ⟨_, hx _ _ ec14⟩
   ·exact ⟨_, hx _ _ ef2⟩
   ·exact ⟨_, hx _ _ ec2⟩
  have fns : ∀ (σ : St) (Hx : Hp) (base' : Heap), σ[5]? = some (some (.ref C)) → σ[6]? = some (some (.ref M)) → σ[8]? = some (some (.ref Yy)) → (∀ b φ, H14 b = some (.ext φ) → Hx b = some (.ext φ)) →
    Wide ((cxOf CX0 P w K mg base ["_law_script", "_law_feed_here", "_law_count", "_law_many", "_law_wide", "_law_things", "_law_moves", "_law_k", "_law_yes", "_law_first", "_law_onward", "_law_is_yes", "_law_came", "_law_due", "_law_found", "_law_less"] "law" (defScope s_law) a.f_law (.ref a.c_law) Ar outer s H E).nox) σ [f1, c1, f2, c2] Hx base' →
    FnAt P w K mg base' 1 f1 2 (spOn (repM P w) m (onT ths mvs) (fun x => x ∈ ths) (Ev31 C M Yy ws9 ths ps mvs ys)) ∧ FnAt P w K mg base' 1 f2 1 (spYs (repM P w) (yesT ths ys) (fun x => x ∈ ths) (Ev31 C M Yy ws9 ths ps mvs ys)) := by
   intro σ Hx base' g5 g6 g8 hx W
   refine ⟨?_, ?_⟩
   ·refine FnAt.defnC (k := 0) W (hx _ _ ef14) (by simp) (hx _ _ ec14) (by simp) (ps := ["_law_room", "_law_k"]) (frn := ["_law_things", "_law_moves"]) (ls := []) (fvs := [.ref C, .ref M]) ⟨rfl, rfl, rfl, by decide +kernel, by decide +kernel, by decide +kernel, by decide +kernel, by decide +kernel⟩
     (List.forall_mem_cons.mpr ⟨rfl, List.forall_mem_cons.mpr ⟨rfl, fun _ h => nomatch h⟩⟩) (.cons ⟨5, rfl, g5, rfl, rfl⟩ (.cons ⟨6, rfl, g6, rfl, rfl⟩ .nil)) (fun us hl => match us, hl with | [_, _], _ => rfl) (fun vs H Q E h => ?_) (fun A outer s H vs Q E hr h => ?_)
    ·obtain ⟨x, v, c, rfl, _⟩ := h
     rfl
    ·obtain ⟨x, v, c, rfl, rv, ok, hc, ev, kk⟩ := h
     obtain ⟨r, t, e1, e2, e3⟩ := R31.at ok hc
     obtain ⟨p, hp, hrow⟩ := paired_back ev.r e1
     obtain ⟨v', hv', tv'⟩ := paired_back ev.th e3
     refine ⟨_, pss_one (ps_ret (pe_ix (ix_listK K) (pv 2) (pe_ix (ix_listK K) (pe_ix (ix_listK K) (pv 3) (pe_bm PySem.F.plainAttrs_list PySem.F.slot_list_index PySem.F.type_list_index (mt_lindex K (hu8_of hr)) (pv 2) (pa_cons (pv 0) pa_nil)) (fun _ _ => rfl)) (pv 1) (fun _ _ => rfl)) (fun _ _ => rfl))), ?_⟩
     exact ⟨_, rfl, _, rfl, _, rfl, .inl ⟨rfl, _, .of ev.t⟩, _, rfl, C, _, ths, x, v, _, rfl, rfl, .of ev.t, ev.th, rv, idx_at ok, idx_no, M, _, _, .ref p, rfl, rfl, .of ev.m, atI_nat (by rw [List.getElem?_map, hp]; rfl), _, rfl, p, _, _, .int (t : Nat), rfl, rfl, .of hrow, atI_nat (by unfold castI; rw [List.getElem?_map, List.getElem?_map, e2]; rfl), C, _, _, v', rfl, rfl, .of ev.t, atI_nat hv', kk v' H (Same.refl H) tv'⟩
   ·refine FnAt.defnC (k := 0) W (hx _ _ ef2) (by simp) (hx _ _ ec2) (by simp) (ps := ["_law_room"]) (frn := ["_law_things", "_law_yes"]) (ls := []) (fvs := [.ref C, .ref Yy]) ⟨rfl, rfl, rfl, by decide +kernel, by decide +kernel, by decide +kernel, by decide +kernel, by decide +kernel⟩
     (List.forall_mem_cons.mpr ⟨rfl, List.forall_mem_cons.mpr ⟨rfl, fun _ h => nomatch h⟩⟩) (.cons ⟨5, rfl, g5, rfl, rfl⟩ (.cons ⟨8, rfl, g8, rfl, rfl⟩ .nil)) (fun us hl => match us, hl with | [_], _ => rfl) (fun vs H Q E h => ?_) (fun A outer s H vs Q E hr h => ?_)
    ·obtain ⟨x, v, rfl, _⟩ := h
     rfl
    ·obtain ⟨x, v, rfl, rv, ok, ev, kk⟩ := h
     have hy : ys[ths.idxOf x]? = some (yesT ths ys x) := item_at false (by have := List.idxOf_lt_length_of_mem ok; omega)
     refine ⟨_, pss_one (ps_ret (pe_ix (ix_listK K) (pv 2) (pe_bm PySem.F.plainAttrs_list PySem.F.slot_list_index PySem.F.type_list_index (mt_lindex K (hu8_of hr)) (pv 1) (pa_cons (pv 0) pa_nil)) (fun _ _ => rfl))), ?_⟩
     exact ⟨_, rfl, _, rfl, .inl ⟨rfl, _, .of ev.t⟩, _, rfl, C, _, ths, x, v, _, rfl, rfl, .of ev.t, ev.th, rv, idx_at ok, idx_no, Yy, _, _, .bl (yesT ths ys x), rfl, rfl, .of ev.y, atI_nat (by rw [List.getElem?_map, hy]; rfl), kk H (Same.refl H)⟩
  dsimp only
  subst hY
  refine hideS fun Y hY => ?_
  refine ⟨_, rfl, _, rfl, _, rfl, _, rfl, [f1, c1, f2, c2], hX (fun _ _ z => z), fun base' W => ?_⟩
  obtain ⟨F1, F2⟩ := fns _ _ _ rfl rfl rfl (fun _ _ z => z) W
  have hD14 := hX (Hx := H14) (fun _ _ z => z)
  have okS : ∀ x c, x ∈ ths → c < m → onT ths mvs x c ∈ ths := fun x c h hc => onT_in R31 h hc
  refine ⟨_, ok_l_grown (k := 1) T (repM P w) F1 okS (fun _ _ e s => e.same s), ?_⟩
  refine ⟨x0, v0, n, rfl, tv14.keep (fun b xs z => untr_get hD14 z (fun _ y => nomatch y)), mem0, ev14.untr hD14, n0, by omega, by omega, fun xs H15 s15 nd rc lt n15 => ?_, fun xs mv vs p Rr va ps' H15 s15 hRr hl hle gr ep eR rp eva tp n15 => ?_⟩
  ·exfalso
   have := most_in R31 mem0 nd rc
   omega
  have s16 := retr_same s15
  have o15 : ∀ {b : Addr} {o : HO}, H15 b = some o → retr [f1, c1, f2, c2] H14 H15 b = some o := fun {b o} e => by
   rw [retr_out fun z => ?_]
   ·exact e
   ·rw [n15 b z] at e; cases e
  have hRr14 : H14 Rr = none := by
   by_cases z : Rr ∈ [f1, c1, f2, c2]
   ·rw [n15 _ z] at eR; cases eR
   ·rw [untr_out z] at hRr; exact hRr
  have kt15 : KTu H15 (retr [f1, c1, f2, c2] H14 H15) := fun b xs z => o15 z
  have ep16 := o15 ep
  have eR16 := o15 eR
  have ev16 := o15 eva
  have tp16 := tp.keep kt15
  have rp16 : ThsAt (retr [f1, c1, f2, c2] H14 H15) vs xs := rp.keep kt15
  generalize retr [f1, c1, f2, c2] H14 H15 = H16 at s16 ep16 eR16 ev16 tp16 rp16 ⊢
  have lvs : vs.length = xs.length := Paired.length rp16
  have inx : ∀ x ∈ xs, x ∈ ths := fun x hx => by
   obtain ⟨w', hw, rfl⟩ := gr.reach x hx
   exact runT_in R31 w' mem0 hw
  refine ⟨p, _, rfl, .of ep16, rfl, _, _, rfl, _, _, rfl, rfl, ?_⟩
  dsimp only [gName]
  subst hY
  refine hideS fun Y hY => ?_
  refine ⟨_, rfl, _, rfl, Rr, rfl, ⟨_, .of eR16⟩, fun S hS => ?_⟩
  have ext16 : ∀ b φ, H14 b = some (.ext φ) → H16 b = some (.ext φ) := fun b φ z => s16 _ _ z
  refine comp_list (xs := vs) (fun i σ H' => ∃ v : Option V, σ = [v, some (.ref f2)] ∧ Same H16 H' ∧ H' S = some (.lst (((xs.take i).map (yesT ths ys)).map V.bl)))
   ⟨none, ?sg3, Same.new hS, upd_same⟩ (fun i σ H' _ ⟨_, _, s', _⟩ => .of (s' _ _ eR16)) ?_ ?_
  case sg3 => rfl
  ·rintro i y σ H17 hy ⟨v, rfl, s17, c17⟩
   obtain ⟨x, hx, tx⟩ := paired_get rp16 hy
   have hi := (List.getElem?_eq_some_iff.mp hx).1
   have hx17 : ∀ b φ, H14 b = some (.ext φ) → H17 b = some (.ext φ) := fun b φ z => s17 _ _ (ext16 b φ z)
   have hD17 := hX hx17
   refine ⟨f2, rfl, _, rfl, [f1, c1, f2, c2], hD17, 1, _, fun base' W => (fns _ _ _ rfl rfl rfl hx17 W).2, x, y, rfl, (tx.keep s17.kt).keep (fun b xs z => untr_get hD17 z (fun _ y => nomatch y)), inx x (List.mem_of_getElem? hx), ((ev14.same s16).same s17).untr hD17, fun H18 s18 n18 => ?_⟩
   have s19 := retr_same s18
   generalize retr [f1, c1, f2, c2] H17 H18 = H19 at s19 ⊢
   refine ⟨_, s19 _ _ c17, by rw [List.length_map, List.length_map, List.length_take]; omega, _, rfl, (s17.trans s19).kbn hS KB.write, ?_⟩
   rw [upd_same, take_snoc hx, List.map_append, List.map_append]; rfl
  rintro σ H17 ⟨v, rfl, s17, c17⟩
  rw [lvs, List.take_length] at c17
  refine ⟨S, _, rfl, .inl ⟨.of c17, fun Yt hYt => ?_⟩⟩
  have sY := Same.new (o := .tup ((xs.map (yesT ths ys)).map V.bl)) hYt
  refine ⟨_, rfl, by show 3 ≤ sizeLine; decide, fun Dp hDp => ?_⟩
  have sP := Same.new (o := .tup [.ref Rr, .ref Yt, .ref va]) hDp
  have sA := (s17.trans sY).trans sP
  have due18 : Got _ Dp Rr Yt va xs (xs.map (yesT ths ys)) mv := ⟨upd_same, ⟨vs, sA _ _ eR16, Paired.mapP rp16 fun _ _ z => z.keep sA.kt⟩, sP _ _ upd_same, ps', sA _ _ ev16, tp16.keep sA.kt⟩
  have s1418 := s16.trans sA
  dsimp only [gName]
  generalize upd (upd H17 Yt (.tup ((xs.map (yesT ths ys)).map V.bl))) Dp (.tup [.ref Rr, .ref Yt, .ref va]) = H18 at due18 s1418 ⊢
  have nRr := f14.neF hRr14
  let Z : Hp → Prop := fun Hx => Ev31 C M Yy ws9 ths ps mvs ys Hx ∧ ThAt Hx x0 v0 ∧ (∀ b φ, H14 b = some (.ext φ) → Hx b = some (.ext φ)) ∧ Got Hx Dp Rr Yt va xs (xs.map (yesT ths ys)) mv
  have carry : ∀ {Hx H' : Hp}, (∀ b o, Hx b = some o → b ≠ F → b ≠ L → (∀ q, o ≠ .tbl q) → H' b = some o) → Feed Hx F L → Z Hx → Z H' := fun {Hx H'} kk fx ⟨z1, z2, z3, z4⟩ => by
   obtain ⟨ms, n', sd, e1, e2, _⟩ := fx.ex
   have kt : KTu Hx H' := fun b xs e => kk _ _ e (ne_of e e1 (fun z => nomatch z)) (ne_of e e2 (fun z => nomatch z)) (fun _ y => nomatch y)
   refine ⟨z1.keep kt fun b l e hb => kk _ _ e (neY b hb).1 (neY b hb).2 (fun _ y => nomatch y), z2.keep kt, fun b φ e => ?_, z4.same kt fun l e => kk _ _ e nRr.1 nRr.2 (fun _ y => nomatch y)⟩
   have e' := z3 b φ e
   exact kk _ _ e' (ne_of e' e1 (fun z => nomatch z)) (ne_of e' e2 (fun z => nomatch z)) (fun _ y => nomatch y)
  have z18 : Z H18 := ⟨ev14.same s1418, tv14.keep s1418.kt, fun b φ z => s1418 _ _ z, due18⟩
  have f18 := f14.same s1418
  have eR18 := s1418 _ _ eR14
  have lx : xs.length ≤ 30 := by omega
  have lrow : ∀ r ∈ mv, r.length ≤ 30 := fun r hr => by
   obtain ⟨i, hi⟩ := List.getElem?_of_mem hr
   have := (gr.row i r hi).1
   omega
  have x1 : 0 < xs.length := (List.getElem?_eq_some_iff.mp gr.first).1
  have gcall : ∀ (σ : St) (Hx : Hp) (most : Nat) (base' : Heap), σ[5]? = some (some (.ref C)) → σ[6]? = some (some (.ref M)) → σ[8]? = some (some (.ref Yy)) → Z Hx → most ≤ 10000 → Wide ((cxOf CX0 P w K mg base ["_law_script", "_law_feed_here", "_law_count", "_law_many", "_law_wide", "_law_things", "_law_moves", "_law_k", "_law_yes", "_law_first", "_law_onward", "_law_is_yes", "_law_came", "_law_due", "_law_found", "_law_less"] "law" (defScope s_law) a.f_law (.ref a.c_law) Ar outer s H E).nox) σ [f1, c1, f2, c2] Hx base' →
    ∃ sp : Sp, FnOk P w K mg base' CX0 2 a.f_grown_from a.fd_grown_from ["first", "many", "onward", "is_yes", "most"] sp ∧ ∀ Kq : VK, (most < xs.length → ∀ H3, Same Hx (retr [f1, c1, f2, c2] Hx H3) → Kq .non H3) → (xs.length ≤ most → ∀ p R2 ya va2 H3, ((∀ b ∈ [f1, c1, f2, c2], H3 b = none) → Same Hx (retr [f1, c1, f2, c2] Hx H3) ∧ Hx R2 = none ∧ Got (retr [f1, c1, f2, c2] Hx H3) p R2 ya va2 xs (xs.map (yesT ths ys)) mv) → Kq (.ref p) H3) →
     sp [v0, .int (m : Nat), .ref f1, .ref f2, .int (most : Nat)] (untr [f1, c1, f2, c2] Hx) Kq E0 := by
   intro σ Hx most base' g5 g6 g8 ⟨z1, z2, z3, z4⟩ hmost W
   have hD := hX z3
   obtain ⟨F1, F2⟩ := fns _ _ _ g5 g6 g8 z3 W
   refine ⟨_, ok_grown_from (k := 1) T (repM P w) F1 F2 okS (fun _ _ e s => e.same s), fun Kq qn qs => ?_⟩
   refine ⟨x0, v0, most, rfl, z2.keep (fun b xs z => untr_get hD z (fun _ y => nomatch y)), mem0, z1.untr hD, hmost, by omega, fun xs' H3 s3 nd rc lt => ?_, fun xs' mv' vs' p R2 ya va2 ps2 H3 s3 hR2 hl' hlm gr' ep er rr ey ev tpI => ?_⟩
   ·have := grown_most gr hl nd rc
    exact qn (by omega) _ (retr_same s3)
   ·obtain ⟨rfl, rfl⟩ := grown_uniq gr' hl' gr hl
    refine qs hlm p R2 ya va2 H3 fun n3 => ?_
    have o3 : ∀ {b : Addr} {o : HO}, H3 b = some o → retr [f1, c1, f2, c2] Hx H3 b = some o := fun {b o} e => by
     rw [retr_out fun z => ?_]
     ·exact e
     ·rw [n3 b z] at e; cases e
    have kt3 : KTu H3 (retr [f1, c1, f2, c2] Hx H3) := fun b xs z => o3 z
    refine ⟨retr_same s3, ?_, o3 ep, ⟨vs', o3 er, rr.keep kt3⟩, o3 ey, ps2, o3 ev, tpI.keep kt3⟩
    by_cases z : R2 ∈ [f1, c1, f2, c2]
    ·rw [n3 _ z] at er; cases er
    ·rw [untr_out z] at hR2; exact hR2
  subst hY
  refine hideS fun Y hY => ?_
  refine ⟨_, rfl, _, rfl, _, rfl, _, rfl, [f1, c1, f2, c2], hX z18.2.2.1, fun base' W => ?_⟩
  obtain ⟨sp, G, hs⟩ := gcall _ _ 2000 base' rfl rfl rfl z18 (by decide) W
  refine ⟨sp, G, hs _ (fun z => by omega) fun _ p2 R2 ya2 va2 H3x hh n3x => ?_⟩
  obtain ⟨s20, hR2, got20⟩ := hh n3x
  generalize retr [f1, c1, f2, c2] H18 H3x = H20 at s20 got20 ⊢
  dsimp only [gName]
  subst hY
  refine hideS fun Y hY => ?_
  have alk : ∀ {Hx : Hp} {p R Y' M' : Addr}, Z Hx → Got Hx p R Y' M' xs (xs.map (yesT ths ys)) mv → Tr Hx 5 (.ref p) (.ref Dp) := fun z g => got_alike g z.2.2.2 lx (by rw [List.length_map]; exact lx) (by rw [hl]; exact lx) lrow
  have sameZ : ∀ {Hx H' : Hp}, Same Hx H' → Feed Hx F L → Z Hx → Z H' := fun sm fx z => carry (fun b o e _ _ _ => sm _ _ e) fx z
  have z20 := sameZ s20 f18 z18
  refine ⟨_, rfl, _, rfl, _, _, rfl, alk z20 got20, fun H21 s21 => ⟨true, rfl, iteF ?_⟩⟩
  have got21 := got20.same s21.kt fun l e => s21 _ _ e
  obtain ⟨vs2, eR2, th2⟩ := got21.rooms
  have lv2 := Paired.length th2
  subst hY
  dsimp only [tNext]
  refine hideS fun Y hY => ?_
  refine ⟨_, rfl, p2, _, _, .ref R2, rfl, rfl, .of got21.top, atI_nat (j := 0) rfl, .inl ⟨rfl, _, .of eR2⟩, _, rfl, R2, _, _, rfl, rfl, eR2, by omega, ?_⟩
  have s1822 : Same H18 (upd H21 R2 (.lst (vs2 ++ [v0]))) := (s20.trans s21).kbn hR2 KB.write
  generalize upd H21 R2 (.lst (vs2 ++ [v0])) = H22 at s1822 ⊢
  have z22 := sameZ s1822 f18 z18
  have f22 := f18.same s1822
  have eR22 := s1822 _ _ eR18
  clear got20 got21 z20 eR2 th2
  dsimp only
  subst hY
  refine hideS fun Y hY => ?_
  obtain ⟨vs3, eR3, th3⟩ := z22.2.2.2.rooms
  have lv3 := Paired.length th3
  refine ⟨_, rfl, _, rfl, _, rfl, _, rfl, _, rfl, _, xs.length, rfl, .inl ⟨_, .of eR3, lv3.symm⟩, ?_⟩
  refine ⟨[f1, c1, f2, c2], hX z22.2.2.1, fun base' W => ?_⟩
  obtain ⟨sp, G, hs⟩ := gcall _ _ xs.length base' rfl rfl rfl z22 (by omega) W
  refine ⟨sp, G, hs _ (fun z => by omega) fun _ p3 R3 ya3 va3 H3x hh n3x => ?_⟩
  obtain ⟨s23, hR3, got23⟩ := hh n3x
  generalize retr [f1, c1, f2, c2] H22 H3x = H23 at s23 got23 ⊢
  have z23 := sameZ s23 f22 z22
  refine ⟨_, rfl, _, _, rfl, alk z23 got23, fun H24 s24 => ⟨true, rfl, iteF ?_⟩⟩
  have z24 := sameZ s24 (f22.same s23) z23
  have f24 := (f22.same s23).same s24
  have eR24 := s24 _ _ (s23 _ _ eR22)
  clear got23 z23 z22 eR3 th3
  subst hY
  dsimp only [tNext]
  refine hideS fun Y hY => ?_
  have rest : ∀ Hx, Z Hx → Feed Hx F L → Y [some (.ref sa), some (.ref F), some (.int (n : Nat)), some (.int (m : Nat)), some (.int (wd : Nat)), some (.ref C), some (.ref M), vk, some (.ref Yy), some v0, some (.ref f1), some (.ref f2), some (.ref Rr), some (.ref Dp), some (.ref p2), none] Hx := by
   intro Hx zx fx
   subst hY
   refine hideS fun Y hY => ?_
   obtain ⟨vs4, eR4, th4⟩ := zx.2.2.2.rooms
   have lv4 := Paired.length th4
   refine ⟨_, rfl, _, xs.length, rfl, .inl ⟨_, .of eR4, lv4.symm⟩, _, _, rfl, rfl, _, rfl, _, rfl, _, xs.length, rfl, .inl ⟨_, .of eR4, lv4.symm⟩, F, L, xs.length, rfl, fx, x1, small _ (by omega), fun q Hq q1 kq fq => ⟨_, _, rfl, rfl, ?_⟩⟩
   have zq := carry (fun b o e x y _ => kq _ _ e x y) fx zx
   obtain ⟨less, hless⟩ : ∃ less : Nat, (xs.length : Int) - 1 - (q : Int) = (less : Int) := ⟨xs.length - 1 - q, by omega⟩
   dsimp only [gName]
   rw [hless]
   subst hY
   refine ⟨_, rfl, _, rfl, _, rfl, _, rfl, _, rfl, [f1, c1, f2, c2], hX zq.2.2.1, fun base' W => ?_⟩
   obtain ⟨sp, G, hs⟩ := gcall _ _ less base' rfl rfl rfl zq (by omega) W
   refine ⟨sp, G, hs _ (fun _ H3x s25 n3x => ?_) (fun z => by omega)⟩
   generalize retr [f1, c1, f2, c2] Hq H3x = H25 at s25 ⊢
   refine ⟨rfl, _, rfl, iteT ?_⟩
   have z25 := sameZ s25 fq zq
   refine ⟨_, rfl, _, rfl, _, rfl, _, rfl, [f1, c1, f2, c2], hX z25.2.2.1, fun base' W => ?_⟩
   obtain ⟨sp, G, hs⟩ := gcall _ _ 2000 base' rfl rfl rfl z25 (by decide) W
   refine ⟨sp, G, hs _ (fun z => by omega) fun _ p4 R4 ya4 va4 H3x hh n3x => ?_⟩
   obtain ⟨s26, hR4, got26⟩ := hh n3x
   generalize retr [f1, c1, f2, c2] H25 H3x = H26 at s26 got26 ⊢
   exact ⟨_, rfl, _, _, rfl, alk (sameZ s26 (fq.same s25) z25) got26, fun H27 _ => k H27⟩
  refine ⟨_, rfl, F, L, 4, rfl, f24, by decide, small _ (by decide), fun q H25 q1 k25 f25 => ⟨rfl, _, rfl, ?_⟩⟩
  have z25 := carry (fun b o e x y _ => k25 _ _ e x y) f24 z24
  have keepR : ∀ {Hx H' : Hp}, Feed Hx F L → KB2 F L Hx H' → Hx a.t_l_ring = some (.tbl #[]) → H' a.t_l_ring = some (.tbl #[]) := fun fx kx e => by
   obtain ⟨ms, n', sd, e1, e2, _⟩ := fx.ex
   exact kx _ _ e (ne_of e e1 (fun z => nomatch z)) (ne_of e e2 (fun z => nomatch z))
  have eR25 := keepR f24 k25 eR24
  refine ite2 (fun _ => ?_) (fun _ => ?_)
  ·refine ⟨_, rfl, F, L, 11, rfl, f25, by decide, small _ (by decide), fun r H26 r1 k26 f26 => ⟨_, _, rfl, rfl, 1995 + r, ?_, by omega, by omega, ?_, fun H27 kb27 tab27 => ⟨true, rfl, iteF ?_⟩⟩⟩
   ·show [V.int (1995 + (r : Int))] = [V.int ((1995 + r : Nat) : Int)]
    rw [Int.natCast_add]; rfl
   ·exact ⟨#[], keepR f25 k26 eR25, trivial, fun p _ => .inl rfl⟩
   ·have eR26 := keepR f25 k26 eR25
    have z26 := carry (fun b o e x y _ => k26 _ _ e x y) f25 z25
    have kk : ∀ b o, H26 b = some o → (∀ q, o ≠ .tbl q) → H27 b = some o := fun b o e hn => kb27 _ _ e fun z => by rw [z, eR26] at e; exact hn _ (Option.some.inj e).symm
    have f27 : Feed H27 F L := let ⟨ms, n', sd, e1, e2, e3⟩ := f26.ex; ⟨ms, n', sd, kk _ _ e1 (fun _ y => nomatch y), kk _ _ e2 (fun _ y => nomatch y), e3⟩
    exact rest _ (carry (fun b o e _ _ hn => kk _ _ e hn) f26 z26) f27
  ·exact iteF (rest _ z25 f25)
@[elab_as_elim] theorem ln1 {P : List Value → Prop} (us : List Value) (e : us.length = 1) (h : ∀ a, P [a]) : P us := by
 cases us with
 | nil => cases e
 | cons a us => cases us with
  | nil => exact h a
  | cons _ _ => cases e
@[elab_as_elim] theorem ln2 {P : List Value → Prop} (us : List Value) (e : us.length = 2) (h : ∀ a0 a1, P [a0, a1]) : P us := by
 cases us with
 | nil => cases e
 | cons a us => exact ln1 (P := fun z => P (a :: z)) us (Nat.succ.inj e) (h a)
@[elab_as_elim] theorem ln3 {P : List Value → Prop} (us : List Value) (e : us.length = 3) (h : ∀ a0 a1 a2, P [a0, a1, a2]) : P us := by
 cases us with
 | nil => cases e
 | cons a us => exact ln2 (P := fun z => P (a :: z)) us (Nat.succ.inj e) (h a)
@[elab_as_elim] theorem ln4 {P : List Value → Prop} (us : List Value) (e : us.length = 4) (h : ∀ a0 a1 a2 a3, P [a0, a1, a2, a3]) : P us := by
 cases us with
 | nil => cases e
 | cons a us => exact ln3 (P := fun z => P (a :: z)) us (Nat.succ.inj e) (h a)
@[elab_as_elim] theorem ln5 {P : List Value → Prop} (us : List Value) (e : us.length = 5) (h : ∀ a0 a1 a2 a3 a4, P [a0, a1, a2, a3, a4]) : P us := by
 cases us with
 | nil => cases e
 | cons a us => exact ln4 (P := fun z => P (a :: z)) us (Nat.succ.inj e) (h a)
@[elab_as_elim] theorem ln6 {P : List Value → Prop} (us : List Value) (e : us.length = 6) (h : ∀ a0 a1 a2 a3 a4 a5, P [a0, a1, a2, a3, a4, a5]) : P us := by
 cases us with
 | nil => cases e
 | cons a us => exact ln5 (P := fun z => P (a :: z)) us (Nat.succ.inj e) (h a)
theorem all_mk {l : PySem.W.OpenLaw} {w : World} {K : PySem.W.Frag} {h : Heap} {mg : Str → Option Value} {fa : Addr} (X : K.In h) (G : h.Ns mainGlobals mg) (hfa : mg "law" = some (.ref fa))
  {f0 : Addr} {od0 an0 : Option Addr} {sl0 : Array (Option Value)} {oc0 kV0 dc0 pm0 ct0 : Value} {cA0 : Addr}
  {dT0 dn0 : Nat} {dcl0 : Value} {dod0 : Option Addr} {dtk0 : Tok} {dsl0 : Array (Option Value)}
  {f1 : Addr} {od1 an1 : Option Addr} {sl1 : Array (Option Value)} {oc1 kV1 dc1 pm1 ct1 : Value} {cd1 : Value}
  {f2 : Addr} {od2 an2 : Option Addr} {sl2 : Array (Option Value)} {oc2 kV2 dc2 pm2 ct2 : Value} {cd2 : Value}
  {f3 : Addr} {od3 an3 : Option Addr} {sl3 : Array (Option Value)} {oc3 kV3 dc3 pm3 ct3 : Value} {cd3 : Value}
  {f4 : Addr} {od4 an4 : Option Addr} {sl4 : Array (Option Value)} {oc4 kV4 dc4 pm4 ct4 : Value} {cd4 : Value}
  {f5 : Addr} {od5 an5 : Option Addr} {sl5 : Array (Option Value)} {oc5 kV5 dc5 pm5 ct5 : Value} {cA5 : Addr}
  {tA5 : Addr} {cod5 : Option Addr} {cvs5 : Array Value} {csl5 : Array (Option Value)}
  {f6 : Addr} {od6 an6 : Option Addr} {sl6 : Array (Option Value)} {oc6 kV6 dc6 pm6 ct6 : Value} {cA6 : Addr}
  {tA6 : Addr} {cod6 : Option Addr} {cvs6 : Array Value} {csl6 : Array (Option Value)}
  (a0 : PySem.W.nsIn K mainGlobals "grown_from" = some (some (.ref f0))) (l0 : K.lookup f0 = some ⟨oc0, od0, .func (PySem.W.fnOf "grown_from" "grown_from" (defArgs s_grown_from) (defBody s_grown_from) (defScope s_grown_from) (.ref dT0) kV0 dc0 pm0 an0 (.ref cA0) ct0), sl0⟩) (c0 : PySem.W.codeIn K (.ref cA0) "grown_from" = true) (k0 : PySem.W.keepIn K (.ref f0) = true)
  (ld0 : K.lookup dT0 = some ⟨dcl0, dod0, .seq #[(.int 2000 dtk0)] dn0, dsl0⟩)
  (a1 : PySem.W.nsIn K mainGlobals "_law_feed" = some (some (.ref f1))) (l1 : K.lookup f1 = some ⟨oc1, od1, .func (PySem.W.fnOf "_law_feed" "_law_feed" (defArgs s_l_feed) (defBody s_l_feed) (defScope s_l_feed) .none kV1 dc1 pm1 an1 cd1 ct1), sl1⟩) (c1 : PySem.W.codeIn K cd1 "_law_feed" = true) (k1 : PySem.W.keepIn K (.ref f1) = true)
  (a2 : PySem.W.nsIn K mainGlobals "_law_draw" = some (some (.ref f2))) (l2 : K.lookup f2 = some ⟨oc2, od2, .func (PySem.W.fnOf "_law_draw" "_law_draw" (defArgs s_l_draw) (defBody s_l_draw) (defScope s_l_draw) .none kV2 dc2 pm2 an2 cd2 ct2), sl2⟩) (c2 : PySem.W.codeIn K cd2 "_law_draw" = true) (k2 : PySem.W.keepIn K (.ref f2) = true)
  (a3 : PySem.W.nsIn K mainGlobals "_law_grown" = some (some (.ref f3))) (l3 : K.lookup f3 = some ⟨oc3, od3, .func (PySem.W.fnOf "_law_grown" "_law_grown" (defArgs s_l_grown) (defBody s_l_grown) (defScope s_l_grown) .none kV3 dc3 pm3 an3 cd3 ct3), sl3⟩) (c3 : PySem.W.codeIn K cd3 "_law_grown" = true) (k3 : PySem.W.keepIn K (.ref f3) = true)
  (a4 : PySem.W.nsIn K mainGlobals "_law_alike" = some (some (.ref f4))) (l4 : K.lookup f4 = some ⟨oc4, od4, .func (PySem.W.fnOf "_law_alike" "_law_alike" (defArgs s_l_alike) (defBody s_l_alike) (defScope s_l_alike) .none kV4 dc4 pm4 an4 cd4 ct4), sl4⟩) (c4 : PySem.W.codeIn K cd4 "_law_alike" = true) (k4 : PySem.W.keepIn K (.ref f4) = true)
  (a5 : PySem.W.nsIn K mainGlobals "_law_ring" = some (some (.ref f5))) (l5 : K.lookup f5 = some ⟨oc5, od5, .func (PySem.W.fnOf "_law_ring" "_law_ring" (defArgs s_l_ring) (defBody s_l_ring) (defScope s_l_ring) .none kV5 dc5 pm5 an5 (.ref cA5) ct5), sl5⟩) (c5 : PySem.W.codeIn K (.ref cA5) "_law_ring" = true) (k5 : PySem.W.keepIn K (.ref f5) = true)
  (lc5 : K.lookup cA5 = some ⟨.type "code", cod5, .fields cvs5, csl5⟩) (lv5 : cvs5[11]? = some (.ref tA5))
  (le5 : ((match (cvs5[11]? : Option Value) with | some (.ref P') => P' == tA5 | _ => false) && (match cvs5.getD 18 .none with | .str _ _ => true | _ => false) && (match cvs5.getD 7 .none with | .int _ _ => true | _ => false) && (match cvs5.getD 9 .none with | .bool _ => true | _ => false) && (match cvs5.getD 10 .none with | .int _ _ => true | _ => false) && cA5 != tA5) = true)
  (lz5 : K.lookup tA5 = none) (lt5 : h.get? tA5 = some (PySem.W.tabObj #[]))
  (a6 : PySem.W.nsIn K mainGlobals "law" = some (some (.ref f6))) (l6 : K.lookup f6 = some ⟨oc6, od6, .func (PySem.W.fnOf "law" "law" (defArgs s_law) (defBody s_law) (defScope s_law) .none kV6 dc6 pm6 an6 (.ref cA6) ct6), sl6⟩) (c6 : PySem.W.codeIn K (.ref cA6) "law" = true) (k6 : PySem.W.keepIn K (.ref f6) = true)
  (lc6 : K.lookup cA6 = some ⟨.type "code", cod6, .fields cvs6, csl6⟩) (lv6 : cvs6[11]? = some (.ref tA6))
  (le6 : ((match (cvs6[11]? : Option Value) with | some (.ref P') => P' == tA6 | _ => false) && (match cvs6.getD 18 .none with | .str _ _ => true | _ => false) && (match cvs6.getD 7 .none with | .int _ _ => true | _ => false) && (match cvs6.getD 9 .none with | .bool _ => true | _ => false) && (match cvs6.getD 10 .none with | .int _ _ => true | _ => false) && cA6 != tA6) = true)
  (lz6 : K.lookup tA6 = none) (lt6 : h.get? tA6 = some (PySem.W.tabObj #[]))
  (z0 : PySem.W.nsIn K mainGlobals "tuple" = some none)
  (z1 : PySem.W.nsIn K mainGlobals "range" = some none)
  (z2 : PySem.W.nsIn K mainGlobals "len" = some none)
  (z3 : PySem.W.nsIn K mainGlobals "abs" = some none)
  (z4 : PySem.W.nsIn K mainGlobals "isinstance" = some none)
  (z5 : PySem.W.nsIn K mainGlobals "list" = some none)
  (z6 : PySem.W.nsIn K mainGlobals "bool" = some none)
  (z7 : PySem.W.nsIn K mainGlobals "all" = some none)
  (z8 : PySem.W.nsIn K mainGlobals "int" = some none)
  (z9 : PySem.W.nsIn K mainGlobals "str" = some none)
  (z10 : PySem.W.nsIn K mainGlobals "zip" = some none)
  (tne : tA5 ≠ tA6)
  : ∃ (fd : FuncData) (ts : List Addr), (∀ T ∈ ts, (∃ c, PySem.W.CodeHd h c T) ∧ h.get? T = some (PySem.W.tabObj #[]) ∧ K.lookup T = none) ∧ (∀ (s : Shared) (v : Value), BindsTo s fd ⟨[v], []⟩ [("_law_script", v)]) ∧ ∀ base : Heap, K.In base → base.Ns mainGlobals mg → BltAt mg base → FnOk l.prog w K mg base CX0 7 fa fd ["_law_script"] (spLaw K ts) := by
 have e := hfa.symm.trans (PySem.W.mg_of X G a6)
 cases e
 have F0 := func_mk (st := s_grown_from) l0 c0 k0
 have b0 : Binds K (PySem.W.fnOf "grown_from" "grown_from" (defArgs s_grown_from) (defBody s_grown_from) (defScope s_grown_from) (.ref dT0) kV0 dc0 pm0 an0 (.ref cA0) ct0) ["first", "many", "onward", "is_yes", "most"] [] := fun s us hK hl => ln5 us (by rw [List.append_nil] at hl; exact hl) fun _ _ _ _ _ => BindsTo.of_defaults (T := dT0) rfl (hK _ _ ld0) rfl rfl rfl
 have d0 : ∃ t, Binds K (PySem.W.fnOf "grown_from" "grown_from" (defArgs s_grown_from) (defBody s_grown_from) (defScope s_grown_from) (.ref dT0) kV0 dc0 pm0 an0 (.ref cA0) ct0) ["first", "many", "onward", "is_yes", "most"] [.int 2000 t] := ⟨dtk0, fun s us hK hl => have h3 : us.length = 4 := (by simpa using hl); ln4 us h3 fun _ _ _ _ => BindsTo.of_defaults (T := dT0) rfl (hK _ _ ld0) rfl rfl rfl⟩
 have F1 := fun_mk (st := s_l_feed) l1 c1 k1
 have b1 := F1.binds (ps := ["_law_script"]) fun _ _ _ _ _ _ us hl => ln1 us hl fun _ => rfl
 have F2 := fun_mk (st := s_l_draw) l2 c2 k2
 have b2 := F2.binds (ps := ["_law_feed_here", "_law_many"]) fun _ _ _ _ _ _ us hl => ln2 us hl fun _ _ => rfl
 have F3 := fun_mk (st := s_l_grown) l3 c3 k3
 have b3 := F3.binds (ps := ["_law_first", "_law_many", "_law_onward", "_law_most"]) fun _ _ _ _ _ _ us hl => ln4 us hl fun _ _ _ _ => rfl
 have F4 := fun_mk (st := s_l_alike) l4 c4 k4
 have b4 := F4.binds (ps := ["_law_found", "_law_due"]) fun _ _ _ _ _ _ us hl => ln2 us hl fun _ _ => rfl
 have F5 := func_mk (st := s_l_ring) l5 c5 k5
 have H5 := codeHd_in lc5 le5
 have b5 : Binds K (PySem.W.fnOf "_law_ring" "_law_ring" (defArgs s_l_ring) (defBody s_l_ring) (defScope s_l_ring) .none kV5 dc5 pm5 an5 (.ref cA5) ct5) ["_law_many"] [] := .all fun us hl => ln1 us hl fun _ => rfl
 have F6 := func_mk (st := s_law) l6 c6 k6
 have H6 := codeHd_in lc6 le6
 have b6 : Binds K (PySem.W.fnOf "law" "law" (defArgs s_law) (defBody s_law) (defScope s_law) .none kV6 dc6 pm6 an6 (.ref cA6) ct6) ["_law_script"] [] := .all fun us hl => ln1 us hl fun _ => rfl
 have T : Txt K mg ⟨f0, _, cA0, f1, _, f2, _, f3, _, f4, _, f5, _, cA5, tA5, fa, _, cA6, tA6⟩ := ⟨F0, PySem.W.mg_of X G a0, k0, b0, d0, F1, PySem.W.mg_of X G a1, k1, b1, F2, PySem.W.mg_of X G a2, k2, b2, F3, PySem.W.mg_of X G a3, k3, b3, F4, PySem.W.mg_of X G a4, k4, b4, F5, H5, PySem.W.mg_of X G a5, k5, b5, F6, H6, PySem.W.mg_of X G a6, PySem.W.mg_none_of X G z0, PySem.W.mg_none_of X G z1, PySem.W.mg_none_of X G z2, PySem.W.mg_none_of X G z3, PySem.W.mg_none_of X G z4, PySem.W.mg_none_of X G z5, PySem.W.mg_none_of X G z6, PySem.W.mg_none_of X G z7, PySem.W.mg_none_of X G z8, PySem.W.mg_none_of X G z9, PySem.W.mg_none_of X G z10, tne⟩
 exact ⟨PySem.W.fnOf "law" "law" (defArgs s_law) (defBody s_law) (defScope s_law) .none kV6 dc6 pm6 an6 (.ref cA6) ct6, [tA5, tA6], (List.forall_mem_cons.mpr ⟨⟨⟨_, PySem.W.codeHd_of_K X H5⟩, lt5, lz5⟩, (List.forall_mem_cons.mpr ⟨⟨⟨_, PySem.W.codeHd_of_K X H6⟩, lt6, lz6⟩, (fun _ h => nomatch h)⟩)⟩), fun s v => .of_eq rfl, fun base _ _ hB => ok_law T hB⟩
theorem walk {l : PySem.W.OpenLaw} {q : Program} {loose : List Str} {XP : (Str → Option Value) → Heap → Prop} {YP : World → Heap → Prop} {d : DefRec} {K : Params → PySem.W.Frag} (hn : l.most = some 63) (hdf : d.params.defaults = [])
  (hY : ∀ (w : World) (h : Heap), YP w h → (K w.params).In h)
  (F : ∀ (w : World) (mg : Str → Option Value) (fa : Addr) (h : Heap), (K w.params).In h → h.Ns mainGlobals mg → mg d.name = some (.ref fa) → YP w h →
   ∃ (fd : FuncData) (ts : List Addr), (∀ T ∈ ts, (∃ c, PySem.W.CodeHd h c T) ∧ h.get? T = some (PySem.W.tabObj #[]) ∧ (K w.params).lookup T = none) ∧ (∀ (s : Shared) (u : Value), BindsTo s fd ⟨[u], []⟩ [("_law_script", u)]) ∧
    ∀ base : Heap, (K w.params).In base → base.Ns mainGlobals mg → BltAt mg base → FnOk l.prog w (K w.params) mg base CX0 7 fa fd ["_law_script"] (spLaw (K w.params) ts)) :
  PySem.W.WalkO q loose XP YP l.row.toRowW d [] (fun f vs => PySem.call f vs) :=
 L2.walk_ofT (n := 63) (k := 7) (x := "_law_script") (sp := fun w ts => spLaw (K w.params) ts) hn (by decide) hdf ⟨rfl, by decide, by decide, rfl⟩ hY F (fun _ _ a ns _ hl hO hS => ⟨a, ns, rfl, hS, hl, hO, fun _ => rfl⟩)
end
end My
open PySem PySem.W PyProof.Rows
set_option maxRecDepth 100000 in
set_option maxHeartbeats 0 in
theorem PySem.Challenge.cw_figurejudge_k31_rooms_as_they_come_up_holds : PySem.Challenge.rw_figurejudge_k31_rooms_as_they_come_up.Holds := by
 w_on; o_law; k_head; (case hw => w_witness2)
 k_fill
 refine My.walk (l := PySem.Challenge.rw_figurejudge_k31_rooms_as_they_come_up) rfl rfl (fun w h Y => PySem.W.km_in_of Y) ?F
 case F =>
  intro w mg fa h KX G hmg Y
  refine' My.all_mk KX G hmg ?a0 ?l0 ?c0 ?k0 ?ld0 ?a1 ?l1 ?c1 ?k1 ?a2 ?l2 ?c2 ?k2 ?a3 ?l3 ?c3 ?k3 ?a4 ?l4 ?c4 ?k4 ?a5 ?l5 ?c5 ?k5 ?lc5 ?lv5 ?le5 ?lz5 ?lt5 ?a6 ?l6 ?c6 ?k6 ?lc6 ?lv6 ?le6 ?lz6 ?lt6 ?z0 ?z1 ?z2 ?z3 ?z4 ?z5 ?z6 ?z7 ?z8 ?z9 ?z10 ?tne
  (case a0 => k_is)
  (case l0 => k_is)
  (case c0 => k_is)
  (case k0 => k_is)
  (case ld0 => k_is)
  (case a1 => k_is)
  (case l1 => k_is)
  (case c1 => k_is)
  (case k1 => k_is)
  (case a2 => k_is)
  (case l2 => k_is)
  (case c2 => k_is)
  (case k2 => k_is)
  (case a3 => k_is)
  (case l3 => k_is)
  (case c3 => k_is)
  (case k3 => k_is)
  (case a4 => k_is)
  (case l4 => k_is)
  (case c4 => k_is)
  (case k4 => k_is)
  (case a5 => k_is)
  (case l5 => k_is)
  (case c5 => k_is)
  (case k5 => k_is)
  (case lc5 => k_is)
  (case lv5 => rfl)
  (case le5 => rfl)
  (case lz5 => kernel_rfl)
  (case lt5 => exact PySem.W.km_tabs_of Y _ (by decide))
  (case a6 => k_is)
  (case l6 => k_is)
  (case c6 => k_is)
  (case k6 => k_is)
  (case lc6 => k_is)
  (case lv6 => rfl)
  (case le6 => rfl)
  (case lz6 => kernel_rfl)
  (case lt6 => exact PySem.W.km_tabs_of Y _ (by decide))
  (case z0 => k_is)
  (case z1 => k_is)
  (case z2 => k_is)
  (case z3 => k_is)
  (case z4 => k_is)
  (case z5 => k_is)
  (case z6 => k_is)
  (case z7 => k_is)
  (case z8 => k_is)
  (case z9 => k_is)
  (case z10 => k_is)
  (case tne => decide)
#print axioms PySem.Challenge.cw_figurejudge_k31_rooms_as_they_come_up_holds
