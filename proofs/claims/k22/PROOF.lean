import PyProof.Rows.All
import Wide.All
import OpenK.AllK
import Wide.FinOn
import Lean
import PyProof.EqAt
import PyProof.EqKinds
import PyProof.TupleCall
import PyProof.NeKinds
import PyProof.ListRange
import PyProof.Draws
import PyProof.Rows.SortStr
import KE.KDictSum
import KE.KEqDict
import KE.KDictOf
import KE.KRevSl
import PyProof.StrWalks
import PyProof.StrBlock2
import PyProof.SetKind
import PyProof.SetRoads
import PyProof.Rows.SetFrom
import PyProof.ReprRoads
import PyProof.ReprLen
import PyProof.NsDelKeeps
import PyProof.ListMulRoad
import PyProof.FactsAll.tuple_2
import KE.KLam
import KE.KNestM
import PyProof.AttrMissHeap
import PyProof.Rows.SortShell
import PySem.Challenge.RW_figurejudge_k22_sayings_that_fit
set_option Elab.async false
set_option linter.all false
set_option maxRecDepth 100000
set_option maxHeartbeats 4000000
namespace L2
open PySem PySem.Spec PyProof.Rows
abbrev Key := Sum Int Str
def keyIs : Key → Value → Bool
 | .inl k, v => Value.isInt k v
 | .inr x, v => Value.isStrOf x v
def keyH (w : World) : Key → Int
 | .inl k => hashInt k
 | .inr x => hashStr w x
theorem keyIs_shape : ∀ {k : Key} {v : Value}, keyIs k v = true → (∃ i t, k = Sum.inl i ∧ v = Value.int i t) ∨ (∃ x t, k = Sum.inr x ∧ v = Value.str x t)
 | .inl i, v, h => by
  obtain ⟨t, e⟩ := Value.isInt_shape (k := i) (v := v) h
  exact .inl ⟨i, t, rfl, e⟩
 | .inr x, v, h => by
  obtain ⟨t, e⟩ := Value.isStrOf_shape (x := x) (v := v) h
  exact .inr ⟨x, t, rfl, e⟩
theorem keyIs_int (i : Int) (t : Tok) : keyIs (.inl i) (.int i t) = true := by simp [keyIs, Value.isInt]
theorem keyIs_str (x : Str) (t : Tok) : keyIs (.inr x) (.str x t) = true := by simp [keyIs, Value.isStrOf]
theorem key_ll (a b : Int) : decide ((Sum.inl a : Key) = Sum.inl b) = (a == b) := by
 by_cases e : a = b
 ·subst e; simp
 ·have h : ¬ (Sum.inl a : Key) = Sum.inl b := fun q => e (Sum.inl.inj q)
  rw [decide_eq_false h]
  exact (beq_eq_false_iff_ne.mpr e).symm
theorem key_rr (a b : Str) : decide ((Sum.inr a : Key) = Sum.inr b) = decide (a = b) := by
 by_cases e : a = b
 ·subst e; simp
 ·have h : ¬ (Sum.inr a : Key) = Sum.inr b := fun q => e (Sum.inr.inj q)
  rw [decide_eq_false h, decide_eq_false e]
theorem key_lr (a : Int) (b : Str) : decide ((Sum.inl a : Key) = Sum.inr b) = false := decide_eq_false (fun q => nomatch q)
theorem key_rl (a : Str) (b : Int) : decide ((Sum.inr a : Key) = Sum.inl b) = false := decide_eq_false (fun q => nomatch q)
def mixKind (prog : Program) (w : World) : PySem.KeyKind prog w Key where
 is := keyIs
 hash := keyH w
 inj := fun v a b ha hb => by
  rcases keyIs_shape ha with ⟨i, t, rfl, rfl⟩ | ⟨x, t, rfl, rfl⟩
  ·rcases keyIs_shape hb with ⟨j, u, rfl, e⟩ | ⟨y, u, rfl, e⟩
   ·injection e with e1 _; rw [e1]
   ·exact nomatch e
  ·rcases keyIs_shape hb with ⟨j, u, rfl, e⟩ | ⟨y, u, rfl, e⟩
   ·exact nomatch e
   ·injection e with e1 _; rw [e1]
 byValue := fun k v h => by
  rcases keyIs_shape h with ⟨i, t, rfl, rfl⟩ | ⟨x, t, rfl, rfl⟩ <;> rfl
 pyHash := fun hv h => by
  rcases keyIs_shape hv with ⟨i, t, rfl, rfl⟩ | ⟨x, t, rfl, rfl⟩
  ·exact wpAny_pyHash_int h
  ·exact wpAny_pyHash_str h
 eqBool := fun hu hv h => by
  rcases keyIs_shape hu with ⟨i, t, rfl, rfl⟩ | ⟨x, t, rfl, rfl⟩
  ·rcases keyIs_shape hv with ⟨j, u, rfl, rfl⟩ | ⟨y, u, rfl, rfl⟩
   ·rw [key_ll] at h; exact wpAny_eqBool_int h
   ·rw [key_lr] at h; exact SeqAt.EqAt.int_str i t y u _ _ _ _ h
  ·rcases keyIs_shape hv with ⟨j, u, rfl, rfl⟩ | ⟨y, u, rfl, rfl⟩
   ·rw [key_rl] at h; exact SeqAt.EqAt.str_int x t j u _ _ _ _ h
   ·rw [key_rr] at h; exact wpAny_eqBool_str h
 «strs» := fun k x t v h => by
  rcases keyIs_shape h with ⟨i, u, rfl, e⟩ | ⟨y, u, rfl, e⟩
  ·exact nomatch e
  ·injection e with e1 _
   subst e1
   cases v <;> rfl
theorem mixKind_is (prog : Program) (w : World) (k : Key) (v : Value) : (mixKind prog w).is k v = keyIs k v := rfl
theorem mixKind_int (prog : Program) (w : World) (i : Int) (t : Tok) : (mixKind prog w).is (.inl i) (.int i t) = true := keyIs_int i t
theorem mixKind_str (prog : Program) (w : World) (x : Str) (t : Tok) : (mixKind prog w).is (.inr x) (.str x t) = true := keyIs_str x t
inductive V where
 | non | bl (b : Bool) | int (i : Int) | str (x : Str) | byt (b : Array UInt8) | flt (b : UInt64) | ref (a : Addr) | ty (n : String)
 deriving DecidableEq
def RelV : V → Value → Prop
 | .non, u => u = Value.none
 | .bl b, u => u = Value.bool b
 | .int i, u => ∃ t, u = Value.int i t
 | .str x, u => ∃ t, u = Value.str x t
 | .byt b, u => ∃ t, u = Value.bytes b t
 | .flt b, u => ∃ t, u = Value.float b t
 | .ref a, u => u = Value.ref a
 | .ty n, u => u = Value.type n
abbrev Vals : List V → List Value → Prop := Paired RelV
theorem Vals.length {xs : List V} {us : List Value} (r : Vals xs us) : xs.length = us.length := Paired.length r
theorem Vals.get : ∀ {xs : List V} {us : List Value} {i : Nat} {x : V}, Vals xs us → xs[i]? = some x → ∃ u, us[i]? = some u ∧ RelV x u
 | _, _, _, _, .nil, e => by simp at e
 | _, _, 0, _, .cons r _, e => by simp at e; subst e; exact ⟨_, rfl, r⟩
 | _, _, i + 1, x, .cons _ t, e => by
  obtain ⟨u, h1, h2⟩ := Vals.get (i := i) (x := x) t (by simpa using e)
  exact ⟨u, by simpa using h1, h2⟩
theorem Vals.set {x : V} {u : Value} (r : RelV x u) : ∀ {xs : List V} {us : List Value} (i : Nat), Vals xs us → Vals (xs.set i x) (us.set i u)
 | _, _, _, .nil => .nil
 | _, _, 0, .cons _ t => .cons r t
 | _, _, i + 1, .cons q t => .cons q (Vals.set r i t)
theorem Vals.append : ∀ {xs ys : List V} {us ws : List Value}, Vals xs us → Vals ys ws → Vals (xs ++ ys) (us ++ ws)
 | _, _, _, _, .nil, s => s
 | _, _, _, _, .cons r t, s => .cons r (Vals.append t s)
theorem Vals.take : ∀ {xs : List V} {us : List Value} (n : Nat), Vals xs us → Vals (xs.take n) (us.take n)
 | _, _, 0, _ => .nil
 | _, _, _ + 1, .nil => .nil
 | _, _, n + 1, .cons r t => .cons r (Vals.take n t)
theorem Vals.drop : ∀ {xs : List V} {us : List Value} (n : Nat), Vals xs us → Vals (xs.drop n) (us.drop n)
 | _, _, 0, r => r
 | _, _, _ + 1, .nil => .nil
 | _, _, n + 1, .cons _ t => Vals.drop n t
def RelO : Option V → Option Value → Prop
 | some v, some u => RelV v u
 | none, none => True
 | _, _ => False
def KV {κ : Type} : List (κ × V) → List (κ × Value) → Prop := Paired fun (p : κ × V) (q : κ × Value) => p.1 = q.1 ∧ RelV p.2 q.2
def kV : Key → V
 | .inl i => .int i
 | .inr x => .str x
inductive HO where
 | lst (xs : List V)
 | tup (xs : List V)
 | dK (kvs : List (Key × V)) | dT (kvs : List (List Key × V))
 | set (S : Int → Bool) (n : Nat)
 | ins (C dx : Addr) (fs : List (Str × V))
 | own (x : Addr)
 | xd (fs : List (Str × V))
 | met (f x : Addr)
 | rng (lo hi : Int)
 | frz (o : Obj) (u : HO)
 | tbl (ps : Array Value)
 | ext (φ : Heap → Prop)
abbrev Hp := Addr → Option HO
def upd (H : Hp) (a : Addr) (o : HO) : Hp := fun b => if b = a then some o else H b
theorem upd_same {H : Hp} {a : Addr} {o : HO} : upd H a o a = some o := by unfold upd; rw [if_pos rfl]
theorem upd_ne {H : Hp} {a b : Addr} {o : HO} (h : b ≠ a) : upd H a o b = H b := by unfold upd; rw [if_neg h]
theorem ne_of {H : Hp} {a b : Addr} {o u : HO} (h : H a = some o) (h' : H b = some u) (d : o ≠ u) : a ≠ b := by
 intro e; subst e; rw [h] at h'; exact d (Option.some.inj h')
theorem ne_of_none {H : Hp} {a b : Addr} {o : HO} (h : H a = some o) (h' : H b = none) : a ≠ b := by
 intro e; subst e; rw [h] at h'; cases h'
section
variable (P : Program) (w : World)
def ObjOk (H : Hp) (h : Heap) (a : Addr) : HO → Prop
 | .lst xs => xs.length ≤ sizeLine ∧ ∃ (its : List Value) (n : Nat), Vals xs its ∧ h.get? a = some { cls := .type "list", data := .seq its.toArray n }
 | .tup xs => (xs.length ≤ sizeLine ∧ ∃ o, h.get? a = some o ∧ o.dict = none) ∧ ∃ its : List Value, Vals xs its ∧ IsTup h a its.toArray
 | .dK kvs => kvs.length ≤ sizeLine ∧ (a == sysModules) = false ∧ ∃ vs, KV kvs vs ∧ h.DictOf (mixKind P w) a vs
 | .dT kvs => kvs.length ≤ sizeLine ∧ (a == sysModules) = false ∧ ∃ xs : List (List Key × Addr × Value),
   Paired (fun (p : List Key × V) (q : List Key × Addr × Value) => p.1 = q.1 ∧ H q.2.1 = some (.tup (p.1.map kV)) ∧ RelV p.2 q.2.2) kvs xs ∧
   ∃ o es ep, h.get? a = some o ∧ o.ExactDict ∧ o.data = .dict es ep ∧ es.toList = xs.map (entryOfKey (tupleKind (mixKind P w))) ∧ (xs.map (·.1)).Nodup
 | .set S n => h.SetOf (intKind P w) a S n
 | .ins C dx fs => H dx = some (.own a) ∧ fs.length ≤ 1000 ∧ dx ≠ a ∧ h.get? a = some (PySem.W.instObj C dx) ∧
   ∃ mA, h.Ns1 dx mA ∧ (∀ f, RelO (fs.lookup f) (mA f)) ∧ PySem.Within mA (fs.map (·.1))
 | .own _ => ∃ o, h.get? a = some o
 | .xd fs => ∃ mA, h.Ns1 a mA ∧ ∀ f, RelO (fs.lookup f) (mA f)
 | .rng lo hi => ∃ t u v, h.get? a = some { cls := .type "range", data := .fields #[.int lo t, .int hi u, .int 1 v] }
 | .frz o u => h.get? a = some o ∧ ObjOk H h a u
 | .tbl ps => h.get? a = some { cls := .none, data := .fields ps }
 | .met f x => h.get? a = some (PySem.W.methodObj (.ref f) (.ref x))
 | .ext φ => φ h ∧ (∃ o, h.get? a = some o) ∧ ∀ h1 h2 : Heap, φ h1 → (∀ o, h1.get? a = some o → h2.get? a = some o) → φ h2
def HOk (H : Hp) (h : Heap) : Prop := ∀ a o, H a = some o → ObjOk P w H h a o
end
section
variable {P : Program} {w : World} {H H' : Hp} {h h' : Heap} {a : Addr} {o : HO}
theorem ObjOk.lt (x : ObjOk P w H h a o) : a < h.objs.size := by
 cases o with
 | lst xs => obtain ⟨_, _, _, _, e⟩ := x; exact Heap.lt_size e
 | tup xs => obtain ⟨_, _, _, p⟩ := x; exact p.lt
 | dK kvs => obtain ⟨_, _, _, _, o, _, _, e, _⟩ := x; exact Heap.lt_size e
 | dT kvs => obtain ⟨_, _, _, _, o, _, _, e, _⟩ := x; exact Heap.lt_size e
 | set S n => obtain ⟨o, _, _, _, e, _⟩ := x; exact Heap.lt_size e
 | ins C dx fs => obtain ⟨_, _, _, e, _⟩ := x; exact Heap.lt_size e
 | own y => obtain ⟨_, e⟩ := x; exact Heap.lt_size e
 | xd fs => obtain ⟨_, ⟨_, _, _, e, _⟩, _⟩ := x; exact Heap.lt_size e
 | rng lo hi => obtain ⟨_, _, _, e⟩ := x; exact Heap.lt_size e
 | frz ob u => obtain ⟨e, _⟩ := x; exact Heap.lt_size e
 | tbl ps => exact Heap.lt_size (show h.get? a = some _ from x)
 | met f y => exact Heap.lt_size (show h.get? a = some _ from x)
 | ext φ => obtain ⟨_, ⟨_, e⟩, _⟩ := x; exact Heap.lt_size e
theorem Paired.mapP {α β : Type} {F G : α → β → Prop} : ∀ {l₁ : List α} {l₂ : List β}, Paired F l₁ l₂ → (∀ a b, F a b → G a b) → Paired G l₁ l₂
 | _, _, .nil, _ => .nil
 | _, _, .cons r t, f => .cons (f _ _ r) (Paired.mapP t f)
theorem ObjOk.stay (x : ObjOk P w H h a o) (k : ∀ b u, (b = a ∨ H b = some (.own a)) → h.get? b = some u → h'.get? b = some u)
  (ho : ∀ b, H b = some (.own a) → H' b = some (.own a)) (ht : ∀ b xs, H b = some (.tup xs) → H' b = some (.tup xs)) : ObjOk P w H' h' a o := by
 induction o with
 | lst xs => obtain ⟨z, its, n, r, e⟩ := x; exact ⟨z, its, n, r, k _ _ (.inl rfl) e⟩
 | tup xs => obtain ⟨⟨z, o2, e2, d2⟩, its, r, ob, e, c⟩ := x; exact ⟨⟨z, o2, k _ _ (.inl rfl) e2, d2⟩, its, r, ob, k _ _ (.inl rfl) e, c⟩
 | dK kvs => obtain ⟨z, y, vs, r, ob, es, ep, e, c⟩ := x; exact ⟨z, y, vs, r, ob, es, ep, k _ _ (.inl rfl) e, c⟩
 | dT kvs =>
  obtain ⟨z, y, xs, r, ob, es, ep, e, c⟩ := x
  exact ⟨z, y, xs, Paired.mapP r fun p q z => ⟨z.1, ht _ _ z.2.1, z.2.2⟩, ob, es, ep, k _ _ (.inl rfl) e, c⟩
 | set S n => obtain ⟨ob, es, ep, t, e, c⟩ := x; exact ⟨ob, es, ep, t, k _ _ (.inl rfl) e, c⟩
 | ins C dx fs =>
  obtain ⟨d, z, ne, e, mA, ⟨od, es, ep, e2, c⟩, r⟩ := x
  exact ⟨ho _ d, z, ne, k _ _ (.inl rfl) e, mA, ⟨od, es, ep, k _ _ (.inr d) e2, c⟩, r⟩
 | own y => obtain ⟨ob, e⟩ := x; exact ⟨ob, k _ _ (.inl rfl) e⟩
 | xd fs => obtain ⟨mA, ⟨od, es, ep, e, c⟩, r⟩ := x; exact ⟨mA, ⟨od, es, ep, k _ _ (.inl rfl) e, c⟩, r⟩
 | rng lo hi => obtain ⟨t, u, v, e⟩ := x; exact ⟨t, u, v, k _ _ (.inl rfl) e⟩
 | frz ob u ih => obtain ⟨e, q⟩ := x; exact ⟨k _ _ (.inl rfl) e, ih q⟩
 | tbl ps =>
  have e : h.get? a = some { cls := .none, data := .fields ps } := x
  show h'.get? a = some { cls := .none, data := .fields ps }
  exact k a _ (.inl rfl) e
 | met f y =>
  have e : h.get? a = some (PySem.W.methodObj (.ref f) (.ref y)) := x
  show h'.get? a = some (PySem.W.methodObj (.ref f) (.ref y))
  exact k a _ (.inl rfl) e
 | ext φ => obtain ⟨p, ⟨o, e⟩, st⟩ := x; exact ⟨st _ _ p fun o q => k _ _ (.inl rfl) q, ⟨o, k _ _ (.inl rfl) e⟩, st⟩
theorem HOk.lt (x : HOk P w H h) (e : H a = some o) : a < h.objs.size := (x a o e).lt
theorem HOk.fresh (x : HOk P w H h) (e : h.objs.size ≤ a) : H a = none := by
 cases q : H a with
 | none => rfl
 | some u => exact absurd (Nat.lt_of_lt_of_le (x.lt q) e) (Nat.lt_irrefl _)
theorem HOk.kept (x : HOk P w H h) (k : ∀ b u, h.get? b = some u → h'.get? b = some u) : HOk P w H h' := fun a o e =>
 (x a o e).stay (fun b u _ q => k b u q) (fun _ q => q) fun _ _ q => q
theorem HOk.laid (x : HOk P w H h) (k : ∀ b u, h.get? b = some u → h'.get? b = some u) (hp : h.objs.size ≤ a) (new : ObjOk P w (upd H a o) h' a o) : HOk P w (upd H a o) h' := fun b u e => by
 have hn := x.fresh hp
 by_cases hb : b = a
 ·subst hb; rw [upd_same] at e; cases e; exact new
 ·rw [upd_ne hb] at e
  exact (x b u e).stay (fun c v _ q => k c v q) (fun c q => by rw [upd_ne (ne_of_none q hn)]; exact q) fun c xs q => by rw [upd_ne (ne_of_none q hn)]; exact q
end
def Rd (H : Hp) (a : Addr) (u : HO) : Prop := H a = some u ∨ ∃ o, H a = some (.frz o u)
theorem Rd.ok {P : Program} {w : World} {H : Hp} {h : Heap} {a : Addr} {u : HO} (r : Rd H a u) (x : HOk P w H h) : ObjOk P w H h a u := by
 rcases r with r | ⟨o, r⟩
 ·exact x a u r
 ·obtain ⟨_, q⟩ := x a _ r
  exact q
def Mut : Option HO → Prop
 | some (.lst _) => True
 | some (.dK _) => True
 | some (.dT _) => True
 | some (.set _ _) => True
 | some (.ins _ _ _) => True
 | some (.ext _) => True
 | _ => False
section
variable {P : Program} {w : World} {H : Hp} {h h' : Heap} {x e : Addr} {o' : HO}
theorem HOk.write (ok : HOk P w H h) (mu : Mut (H x)) (he : e = x ∨ H e = some (.own x)) (k : ∀ b u, b ≠ e → h.get? b = some u → h'.get? b = some u) (heo : ∃ u, h'.get? e = some u)
  (new : ObjOk P w (upd H x o') h' x o') : HOk P w (upd H x o') h' := fun b u q => by
 have nown : ∀ c y, H c = some (.own y) → c ≠ x := fun c y r z => by subst z; rw [r] at mu; exact mu
 have ntup : ∀ c xs, H c = some (.tup xs) → c ≠ x := fun c xs r z => by subst z; rw [r] at mu; exact mu
 by_cases hb : b = x
 ·subst hb; rw [upd_same] at q; cases q; exact new
 ·rw [upd_ne hb] at q
  by_cases hbe : b = e
  ·have q' : H b = some (.own x) := by
    rcases he with z | z
    ·exact absurd (hbe.trans z) hb
    ·rw [hbe]; exact z
   rw [q] at q'; cases q'
   obtain ⟨v, hv⟩ := heo
   exact ⟨v, by rw [hbe]; exact hv⟩
  ·refine (ok b u q).stay (fun c v hc r => k c v ?_ r) (fun c r => by rw [upd_ne (nown c b r)]; exact r) fun c xs r => by rw [upd_ne (ntup c xs r)]; exact r
   rcases hc with rfl | hc
   ·exact hbe
   ·rintro rfl
    rcases he with z | z
    ·exact nown c b hc z
    ·rw [hc] at z; cases z; exact hb rfl
end
structure Un (fs ex : List Addr) (H H' : Hp) (h h' : Heap) : Prop where
 keep : ∀ b o, h.get? b = some o → H b = none → b ∉ fs → b ∉ ex → h'.get? b = some o
 slot : ∀ b o, h.get? b = some o → H b = none → b ∈ fs → b ∉ ex → ∃ sl, h'.get? b = some { o with slots := sl }
 free : ∀ b o, h.get? b = some o → H b = none → b ∉ ex → H' b = none
 there : ∀ b o, h.get? b = some o → b ∉ ex → ∃ o', h'.get? b = some o'
 tups : ∀ b xs, H b = some (.tup xs) → H' b = some (.tup xs)
 frzs : ∀ b o u, H b = some (.frz o u) → H' b = some (.frz o u)
 tbls : ∀ b ps, H b = some (.tbl ps) → ∃ more, H' b = some (.tbl (ps ++ more))
section
variable {fs fs' ex ex' : List Addr} {H H1 H2 : Hp} {h h1 h2 h' : Heap} {a x e : Addr} {o : HO}
theorem Un.any (u : Un fs ex H H1 h h1) {b : Addr} {ob : Obj} (q : h.get? b = some ob) (n : H b = none) (hx : b ∉ ex) : ∃ sl, h1.get? b = some { ob with slots := sl } := by
 by_cases hb : b ∈ fs
 ·exact u.slot b ob q n hb hx
 ·exact ⟨ob.slots, u.keep b ob q n hb hx⟩
theorem Un.kept (k : ∀ b u, h.get? b = some u → h'.get? b = some u) : Un fs ex H H h h' :=
 ⟨fun b ob q _ _ _ => k b ob q, fun b ob q _ _ _ => ⟨ob.slots, k b ob q⟩, fun _ _ _ n _ => n, fun b ob q _ => ⟨ob, k b ob q⟩, fun _ _ q => q, fun _ _ _ q => q, fun _ ps q => ⟨#[], by rw [q]; simp⟩⟩
theorem Un.refl : Un fs ex H H h h := Un.kept fun _ _ q => q
theorem Un.laid (k : ∀ b u, h.get? b = some u → h'.get? b = some u) (hp : h.objs.size ≤ a) (hn : H a = none) : Un fs ex H (upd H a o) h h' where
 keep := fun b u q _ _ _ => k b u q
 slot := fun b u q _ _ _ => ⟨u.slots, k b u q⟩
 free := fun b u q n _ => by rw [upd_ne (Nat.ne_of_lt (Nat.lt_of_lt_of_le (Heap.lt_size q) hp))]; exact n
 there := fun b u q _ => ⟨u, k b u q⟩
 tups := fun b xs q => by rw [upd_ne (ne_of_none q hn)]; exact q
 frzs := fun b u xs q => by rw [upd_ne (ne_of_none q hn)]; exact q
 tbls := fun b ps q => ⟨#[], by rw [upd_ne (ne_of_none q hn), q]; simp⟩
theorem Un.write (mu : Mut (H x)) (he : e = x ∨ H e = some (.own x)) (k : ∀ b u, b ≠ e → h.get? b = some u → h'.get? b = some u) (heo : ∃ u, h'.get? e = some u) : Un fs ex H (upd H x o) h h' := by
 have hx : ∀ b, H b = none → b ≠ x := fun b n z => by subst z; rw [n] at mu; exact mu
 have hb : ∀ b, H b = none → b ≠ e := fun b n z => by
  subst z
  rcases he with r | r
  ·exact hx b n r
  ·rw [n] at r; cases r
 have hm : ∀ b u, H b = some u → ¬ Mut (some u) → b ≠ x := fun b u q nm z => by subst z; rw [q] at mu; exact nm mu
 refine ⟨fun b u q n _ _ => k b u (hb b n) q, fun b u q n _ _ => ⟨u.slots, k b u (hb b n) q⟩, fun b u q n _ => by rw [upd_ne (hx b n)]; exact n, fun b u q _ => ?_,
  fun b xs q => by rw [upd_ne (hm b _ q fun z => z)]; exact q, fun b u xs q => by rw [upd_ne (hm b _ q fun z => z)]; exact q, fun b ps q => ⟨#[], by rw [upd_ne (hm b _ q fun z => z), q]; simp⟩⟩
 by_cases hbe : b = e
 ·subst hbe; exact heo
 ·exact ⟨u, k b u hbe q⟩
end
def trk (h : Heap) (H : Hp) : List Addr := (List.range h.objs.size).filter fun a => (H a).isSome
def hidT (h : Heap) (H : Hp) : Heap := PySem.W.hideAll h (trk h H)
theorem hidT_size (h : Heap) (H : Hp) : (hidT h H).objs.size = h.objs.size := PySem.W.hideAll_size _ _
theorem hidT_get {h : Heap} {H : Hp} {b : Addr} {o : Obj} (e : h.get? b = some o) (n : H b = none) : (hidT h H).get? b = some o :=
 PySem.W.hideAll_get _ e fun hm => by
  have q : (H b).isSome = true := (List.mem_filter.mp hm).2
  rw [n] at q; simp at q
theorem of_hidT {h : Heap} {H : Hp} {b : Addr} {o : Obj} (e : (hidT h H).get? b = some o) : h.get? b = some o ∧ H b = none := by
 have e' : h.get? b = some o := PySem.W.of_hideAll (trk h H) e
 refine ⟨e', ?_⟩
 cases q : H b with
 | none => rfl
 | some x =>
  have hm : b ∈ trk h H := List.mem_filter.mpr ⟨List.mem_range.mpr (Heap.lt_size e'), by simp [q]⟩
  have z : (hidT h H).get? b = none := PySem.W.hideAll_none (trk h H) hm
  rw [z] at e; cases e
structure Mod (K : PySem.W.Frag) (mg : Str → Option Value) (base : Heap) : Prop where
 kin : K.In base
 glob : base.Ns mainGlobals mg
 blt : ∃ mb, base.Ns builtinsNs mb ∧ ∀ x : Str, x ≠ "__name__" → mb x = bootBuiltins x
 nolimit : base.NoLimit
structure Cx where
 prog : Program
 w : World
 K : PySem.W.Frag
 mg : Str → Option Value
 base : Heap
 A : Around
 N : List Str
 s₀ : Shared
 H₀ : Hp
 env : Env
 outer : List Env
 stack : List Env
 ex : List Addr
 fn : Str → Bool
 calm : Bool
 pn : List (Addr × Obj)
 xe : Value → Shared → Prop
def frs (l : List Env) : List Addr := l.filterMap (·.frame)
abbrev Cx.fs (X : Cx) : List Addr := frs X.outer
def Vis (sc : Scope) (x : Str) : Prop := sc.names.lookup x = some .local ∨ sc.names.lookup x = some .cell ∨ sc.names.lookup x = some .free
def Loc (sc : Scope) (x : Str) : Prop := sc.names.lookup x = some .local ∨ sc.names.lookup x = some .cell
def Look (env : Env) (h : Heap) (m : Str → Option Value) (x : Str) (u : Value) : Prop :=
 (env.kindOf x = some .local ∧ m x = some u) ∨ ((env.kindOf x = some .cell ∨ env.kindOf x = some .free) ∧ ∃ c, env.cells.lookup x = some c ∧ h.IsCell c (some u))
structure Cx.Ok (X : Cx) : Prop where
 mod : Mod X.K X.mg X.base
 kind : X.env.scope.kind = .function
 glob : X.env.globals = mainGlobals
 blt : X.env.builtins = builtinsNs
 above : X.s₀.heap.objs.size ≤ X.env.locals
 inj : ∀ x y c, X.env.cells.lookup x = some c → X.env.cells.lookup y = some c → x = y
 has : ∀ x, (X.env.kindOf x = some .cell ∨ X.env.kindOf x = some .free) → ∃ c, X.env.cells.lookup x = some c
 cab : ∀ x c, X.fn x = true → X.env.cells.lookup x = some c → X.s₀.heap.objs.size ≤ c
 hd : X.calm = true → X.A.handled = none
 frames : X.A.frames = some X.stack
 stk : X.stack = X.outer ∨ (X.stack = X.env :: X.outer ∧ X.env.frame = some X.env.locals)
 exf : ∀ b ∈ X.ex, b ≠ X.env.locals ∧ ∀ x c, X.env.cells.lookup x = some c → c ≠ b
 bs : ∀ b o, X.base.get? b = some o → X.s₀.heap.get? b = some o ∧ X.H₀ b = none
 bsz : X.base.objs.size ≤ X.s₀.heap.objs.size
 noex : ∀ b o, X.base.get? b = some o → b ∉ X.ex
 exfs : ∀ b ∈ X.ex, b ∉ X.fs
 funs : X.s₀.heap.FunFrames X.base X.outer
 frf : ∀ b ∈ X.fs, X.H₀ b = none
structure Inv (X : Cx) (pins : List (Addr × Obj)) (σ : List (Option V)) (H : Hp) (s : Shared) : Prop where
 ok : X.Ok
 os : s.os = X.s₀.os
 bare : AllBare s.gens
 base : Un X.fs X.ex X.H₀ H X.s₀.heap s.heap
 loc : ∃ m, s.heap.Ns X.env.locals m ∧ ∀ (i : Nat) (x : Str) (v : V), X.N[i]? = some x → σ[i]? = some (some v) → Vis X.env.scope x → ∃ u, RelV v u ∧ Look X.env s.heap m x u
 cell : ∀ x c, X.env.cells.lookup x = some c → ∃ v, s.heap.IsCell c v
 free : H X.env.locals = none
 freeC : ∀ x c, X.env.cells.lookup x = some c → H c = none
 pin : ∀ p ∈ X.pn ++ pins, s.heap.get? p.1 = some p.2 ∧ H p.1 = none ∧ p.1 ≠ X.env.locals ∧ p.1 ∉ X.fs ∧ ∀ v, p.2.data ≠ .cell v
 hok : HOk X.prog X.w H s.heap
 len : σ.length = X.N.length
section
variable {X : Cx} {pins : List (Addr × Obj)} {σ : List (Option V)} {H H' : Hp} {s : Shared} {h' : Heap}
theorem Cx.Ok.nofr (ok : X.Ok) {b : Addr} {o : Obj} (e : X.base.get? b = some o) : b ∉ X.fs := fun hb => by
 have := (ok.funs.mem hb).1
 rw [e] at this; cases this
theorem Inv.bs (I : Inv X pins σ H s) : ∀ b o, X.base.get? b = some o → s.heap.get? b = some o ∧ H b = none := fun b o e =>
 ⟨I.base.keep b o (I.ok.bs b o e).1 (I.ok.bs b o e).2 (I.ok.nofr e) (I.ok.noex b o e), I.base.free b o (I.ok.bs b o e).1 (I.ok.bs b o e).2 (I.ok.noex b o e)⟩
theorem Inv.bk (I : Inv X pins σ H s) : ∀ b o, X.base.get? b = some o → s.heap.get? b = some o := fun b o e => (I.bs b o e).1
theorem Inv.mod (I : Inv X pins σ H s) : Mod X.K X.mg X.base := I.ok.mod
theorem Inv.kIn (I : Inv X pins σ H s) : X.K.In s.heap := I.ok.mod.kin.keeps I.bk
theorem Inv.lt (I : Inv X pins σ H s) : X.env.locals < s.heap.objs.size := let ⟨_, hn, _⟩ := I.loc; hn.lt
theorem Inv.sz (I : Inv X pins σ H s) : X.s₀.heap.objs.size ≤ s.heap.objs.size := Nat.le_trans I.ok.above (Nat.le_of_lt I.lt)
theorem Inv.nofs (I : Inv X pins σ H s) {a : Addr} (h : s.heap.objs.size ≤ a) : a ∉ X.fs := fun hb => by
 obtain ⟨_, o, ho, _⟩ := I.ok.funs.mem hb
 exact absurd (Nat.lt_of_lt_of_le (Heap.lt_size ho) (Nat.le_trans I.sz h)) (Nat.lt_irrefl _)
theorem Inv.cne (I : Inv X pins σ H s) : ∀ x c, X.env.cells.lookup x = some c → c ≠ X.env.locals := fun x c e z => by
 obtain ⟨v, o, ho, hd⟩ := I.cell x c e
 obtain ⟨m, ⟨o', es, ep, ho', hd', _⟩, _⟩ := I.loc
 rw [z, ho'] at ho; cases ho; rw [hd'] at hd; cases hd
theorem Inv.funs (I : Inv X pins σ H s) : s.heap.FunFrames X.base X.outer := by
 have all : ∀ (l : List Env), (∀ b ∈ frs l, b ∈ X.fs) → X.s₀.heap.FunFrames X.base l → s.heap.FunFrames X.base l := by
  intro l
  induction l with
  | nil => intro _ _; trivial
  | cons env r ih =>
   intro hs hl
   obtain ⟨hk, ⟨L, o, hf, hn, ho, hd⟩, hr⟩ := hl
   have hL : L ∈ X.fs := hs L (by unfold frs; rw [List.filterMap_cons, hf]; exact List.mem_cons_self)
   obtain ⟨sl, e⟩ := I.base.slot L o ho (I.ok.frf L hL) hL fun z => I.ok.exfs L z hL
   exact ⟨hk, ⟨L, _, hf, hn, e, hd⟩, ih (fun b hb => hs b (by unfold frs; rw [List.filterMap_cons, hf]; exact List.mem_cons_of_mem _ hb)) hr⟩
 exact all X.outer (fun _ hb => hb) I.ok.funs
theorem Inv.stack (I : Inv X pins σ H s) : s.heap.FunFrames X.base X.stack := by
 rcases I.ok.stk with e | ⟨e, hf⟩
 ·rw [e]; exact I.funs
 ·rw [e]
  obtain ⟨m, hn, _⟩ := I.loc
  refine .cons (by rw [I.ok.kind]; decide) hf hn ?_ I.funs
  exact Heap.get?_none_of_le (Nat.le_trans I.ok.bsz I.ok.above)
theorem Inv.stkSub (I : Inv X pins σ H s) : ∀ b ∈ frs X.stack, b ∈ X.env.locals :: X.fs := fun b hb => by
 rcases I.ok.stk with e | ⟨e, hf⟩
 ·rw [e] at hb; exact List.mem_cons_of_mem _ hb
 ·rw [e] at hb
  unfold frs at hb
  rw [List.filterMap_cons, hf] at hb
  exact hb
theorem Inv.stkFree (I : Inv X pins σ H s) : ∀ b ∈ frs X.stack, H b = none := fun b hb => by
 rcases List.mem_cons.mp (I.stkSub b hb) with e | hb
 ·rw [e]; exact I.free
 ·obtain ⟨_, o, ho, _⟩ := I.ok.funs.mem hb
  exact I.base.free b o ho (I.ok.frf b hb) fun z => I.ok.exfs b z hb
theorem Inv.step {g' : Array GenState} {t' : Nat} {d' : Drawn} {ch : List Addr} (I : Inv X pins σ H s)
  (hch : ∀ b ∈ ch, (b ∈ X.ex ∨ X.s₀.heap.objs.size ≤ b) ∧ b ≠ X.env.locals ∧ (∀ x c, X.env.cells.lookup x = some c → c ≠ b) ∧ ∀ p ∈ X.pn ++ pins, p.1 ≠ b)
  (keep : ∀ b o, b ≠ X.env.locals → b ∉ X.fs → b ∉ ch → s.heap.get? b = some o → H b = none → h'.get? b = some o)
  (slot : ∀ b o, b ≠ X.env.locals → b ∈ X.fs → b ∉ ch → s.heap.get? b = some o → H b = none → ∃ sl, h'.get? b = some { o with slots := sl }) (free : ∀ b o, b ∉ ch → s.heap.get? b = some o → H b = none → H' b = none)
  (there : ∀ b o, b ∉ ch → s.heap.get? b = some o → ∃ o', h'.get? b = some o')
  (tups : ∀ b xs, H b = some (.tup xs) → H' b = some (.tup xs)) (frzs : ∀ b o u, H b = some (.frz o u) → H' b = some (.frz o u)) (tbls : ∀ b ps, H b = some (.tbl ps) → ∃ more, H' b = some (.tbl (ps ++ more)))
  (ns : ∀ m, s.heap.Ns X.env.locals m → h'.Ns X.env.locals m) (hok : HOk X.prog X.w H' h') (hg : AllBare g') :
  Inv X pins σ H' { s with heap := h', gens := g', drawn := d', toks := t' } := by
 have neL : ∀ b o, X.s₀.heap.get? b = some o → b ≠ X.env.locals := fun b o e => Nat.ne_of_lt (Nat.lt_of_lt_of_le (Heap.lt_size e) I.ok.above)
 have neC : ∀ b o, X.s₀.heap.get? b = some o → b ∉ X.ex → b ∉ ch := fun b o e hx hb => by
  rcases (hch b hb).1 with z | z
  ·exact hx z
  ·exact absurd (Nat.lt_of_lt_of_le (Heap.lt_size e) z) (Nat.lt_irrefl _)
 have cellK : ∀ x c, X.env.cells.lookup x = some c → ∀ v, s.heap.IsCell c v → h'.IsCell c v := fun x c e v ⟨o, ho, hd⟩ => by
  have nch : c ∉ ch := fun z => (hch c z).2.2.1 x c e rfl
  by_cases hc : c ∈ X.fs
  ·obtain ⟨sl, q⟩ := slot c o (I.cne x c e) hc nch ho (I.freeC x c e)
   exact ⟨_, q, hd⟩
  ·exact ⟨o, keep c o (I.cne x c e) hc nch ho (I.freeC x c e), hd⟩
 refine ⟨I.ok, I.os, hg, ⟨fun b o e n hb hx => ?_, fun b o e n hb hx => ?_, fun b o e n hx => ?_, fun b o e hx => ?_, fun b xs e => tups b xs (I.base.tups b xs e), fun b o xs e => frzs b o xs (I.base.frzs b o xs e), fun b ps e => ?_⟩, ?_, fun x c e => ?_, ?_, fun x c e => ?_, fun p hp => ?_, hok, I.len⟩
 ·exact keep b o (neL b o e) hb (neC b o e hx) (I.base.keep b o e n hb hx) (I.base.free b o e n hx)
 ·obtain ⟨sl, e1⟩ := I.base.slot b o e n hb hx
  obtain ⟨sl', e2⟩ := slot b _ (neL b o e) hb (neC b o e hx) e1 (I.base.free b o e n hx)
  exact ⟨sl', e2⟩
 ·obtain ⟨o', e1⟩ := I.base.there b o e hx
  exact free b o' (neC b o e hx) e1 (I.base.free b o e n hx)
 ·obtain ⟨o', e1⟩ := I.base.there b o e hx
  exact there b o' (neC b o e hx) e1
 ·obtain ⟨m1, e1⟩ := I.base.tbls b ps e
  obtain ⟨m2, e2⟩ := tbls b _ e1
  exact ⟨m1 ++ m2, by rw [e2, Array.append_assoc]⟩
 ·obtain ⟨m, hn, hl⟩ := I.loc
  refine ⟨m, ns m hn, fun i x v e1 e2 e3 => ?_⟩
  obtain ⟨u, r, l⟩ := hl i x v e1 e2 e3
  refine ⟨u, r, ?_⟩
  rcases l with l | ⟨k, c, e, z⟩
  ·exact .inl l
  ·exact .inr ⟨k, c, e, cellK x c e _ z⟩
 ·obtain ⟨v, z⟩ := I.cell x c e
  exact ⟨v, cellK x c e v z⟩
 ·obtain ⟨m, ⟨o, _, _, ho, _⟩, _⟩ := I.loc
  exact free _ o (fun z => (hch _ z).2.1 rfl) ho I.free
 ·obtain ⟨v, o, ho, hd⟩ := I.cell x c e
  exact free c o (fun z => (hch c z).2.2.1 x c e rfl) ho (I.freeC x c e)
 ·obtain ⟨e, n, ne, nf, d⟩ := I.pin p hp
  have nch : p.1 ∉ ch := fun z => (hch p.1 z).2.2.2 p hp rfl
  exact ⟨keep p.1 p.2 ne nf nch e n, free p.1 p.2 nch e n, ne, nf, d⟩
theorem Inv.un {t' : Nat} (I : Inv X pins σ H s) (u : Un X.fs [] H H' s.heap h') (hok : HOk X.prog X.w H' h') : Inv X pins σ H' { s with heap := h', toks := t' } := by
 obtain ⟨m, ⟨o, es, ep, ho, r⟩, _⟩ := id I.loc
 obtain ⟨sl, hL⟩ := u.any ho I.free (by simp)
 exact I.step (g' := s.gens) (d' := s.drawn) (ch := []) (fun _ z => nomatch z) (fun b o _ hb _ e n => u.keep b o e n hb (by simp)) (fun b o _ hb _ e n => u.slot b o e n hb (by simp)) (fun b o _ e n => u.free b o e n (by simp)) (fun b o _ e => u.there b o e (by simp)) u.tups u.frzs u.tbls (fun m' hm => by
  obtain ⟨o', es', ep', ho', r'⟩ := hm
  rw [ho] at ho'; cases ho'
  exact ⟨_, es', ep', hL, r'⟩) hok I.bare
theorem Inv.call {g' : Array GenState} {t' : Nat} {d' : Drawn} {ch : List Addr} (I : Inv X pins σ H s) (u : Un (frs X.stack) ch H H' s.heap h') (hok : HOk X.prog X.w H' h') (hg : AllBare g')
  (hch : ∀ b ∈ ch, (b ∈ X.ex ∨ X.s₀.heap.objs.size ≤ b) ∧ b ≠ X.env.locals ∧ (∀ x c, X.env.cells.lookup x = some c → c ≠ b) ∧ ∀ p ∈ X.pn ++ pins, p.1 ≠ b) :
  Inv X pins σ H' { s with heap := h', gens := g', drawn := d', toks := t' } := by
 obtain ⟨m, ⟨o, es, ep, ho, r⟩, _⟩ := id I.loc
 obtain ⟨sl, hL⟩ := u.any ho I.free fun z => (hch _ z).2.1 rfl
 exact I.step (ch := ch) hch (fun b o hL hb hc e n => u.keep b o e n (fun z => (List.mem_cons.mp (I.stkSub b z)).elim hL hb) hc) (fun b o _ _ hc e n => u.any e n hc) (fun b o hc e n => u.free b o e n hc) (fun b o hc e => u.there b o e hc) u.tups u.frzs u.tbls (fun m' hm => by
  obtain ⟨o', es', ep', ho', r'⟩ := hm
  rw [ho] at ho'; cases ho'
  exact ⟨_, es', ep', hL, r'⟩) hok hg
theorem Inv.turned {t' : Nat} {it : Addr} (I : Inv X pins σ H s) (k : ∀ b o, b ≠ it → s.heap.get? b = some o → h'.get? b = some o) (hn : H it = none) (hL : it ≠ X.env.locals)
  (h1 : it ∈ X.ex ∨ X.s₀.heap.objs.size ≤ it) (h2 : ∀ x c, X.env.cells.lookup x = some c → c ≠ it) (h3 : ∀ p ∈ X.pn ++ pins, p.1 ≠ it) : Inv X pins σ H { s with heap := h', toks := t' } := by
 have nit : ∀ b u, H b = some u → b ≠ it := fun b u e z => by rw [z, hn] at e; cases e
 refine I.step (g' := s.gens) (d' := s.drawn) (ch := [it]) (fun b hb => ?_) (fun b o _ _ hc e _ => k b o (fun z => hc (by simp [z])) e) (fun b o _ _ hc e _ => ⟨o.slots, k b o (fun z => hc (by simp [z])) e⟩) (fun _ _ _ _ n => n)
  (fun b o hc e => ⟨o, k b o (fun z => hc (by simp [z])) e⟩) (fun _ _ e => e) (fun _ _ _ e => e) (fun b ps e => ⟨#[], by rw [e]; simp⟩) (fun m hm => ?_) (fun b u e => ?_) I.bare
 ·have e : b = it := by simpa using hb
  subst e
  exact ⟨h1, hL, h2, h3⟩
 ·obtain ⟨o, es, ep, ho, r⟩ := hm
  exact ⟨o, es, ep, k _ o (Ne.symm hL) ho, r⟩
 ·refine (I.hok b u e).stay (fun c v hc q => k c v ?_ q) (fun _ q => q) fun _ _ q => q
  rcases hc with z | z
  ·rw [z]; exact nit b u e
  ·exact nit c _ z
theorem Inv.tok (I : Inv X pins σ H s) (t : Nat) : Inv X pins σ H { s with toks := t } := I.un (h' := s.heap) (t' := t) Un.refl I.hok
theorem Inv.kept {t' : Nat} (I : Inv X pins σ H s) (k : ∀ b u, s.heap.get? b = some u → h'.get? b = some u) : Inv X pins σ H { s with heap := h', toks := t' } := I.un (Un.kept k) (I.hok.kept k)
theorem Inv.laid {a : Addr} {o : HO} {t' : Nat} (I : Inv X pins σ H s) (k : ∀ b u, s.heap.get? b = some u → h'.get? b = some u) (hp : s.heap.objs.size ≤ a) (new : ObjOk X.prog X.w (upd H a o) h' a o) :
  Inv X pins σ (upd H a o) { s with heap := h', toks := t' } := I.un (Un.laid k hp (I.hok.fresh hp)) (I.hok.laid k hp new)
theorem Inv.write {x e : Addr} {o : HO} {t' : Nat} (I : Inv X pins σ H s) (mu : Mut (H x)) (he : e = x ∨ H e = some (.own x)) (k : ∀ b u, b ≠ e → s.heap.get? b = some u → h'.get? b = some u) (heo : ∃ u, h'.get? e = some u)
  (new : ObjOk X.prog X.w (upd H x o) h' x o) : Inv X pins σ (upd H x o) { s with heap := h', toks := t' } := I.un (Un.write mu he k heo) (I.hok.write mu he k heo new)
theorem Inv.pins_of {pins' : List (Addr × Obj)} (I : Inv X pins σ H s) (h : ∀ p ∈ pins', s.heap.get? p.1 = some p.2 ∧ H p.1 = none ∧ p.1 ≠ X.env.locals ∧ p.1 ∉ X.fs ∧ ∀ v, p.2.data ≠ .cell v) : Inv X pins' σ H s :=
 ⟨I.ok, I.os, I.bare, I.base, I.loc, I.cell, I.free, I.freeC, fun p hp => (List.mem_append.mp hp).elim (fun z => I.pin p (List.mem_append_left _ z)) (h p), I.hok, I.len⟩
theorem nodup_ix {N : List Str} (hN : N.Nodup) {i j : Nat} {x : Str} (a : N[i]? = some x) (b : N[j]? = some x) : i = j := by
 obtain ⟨h1, e1⟩ := List.getElem?_eq_some_iff.mp a
 obtain ⟨h2, e2⟩ := List.getElem?_eq_some_iff.mp b
 exact (List.getElem_inj hN).mp (e1.trans e2.symm)
theorem store_ok2 {M : Model} {A : Around} {E : Value → Shared → Prop} {i : Nat} {x : Str} {v : V} {u : Value} {Q : Unit → Shared → Prop} (I : Inv X pins σ H s) (hN : X.N.Nodup) (hi : X.N[i]? = some x) (hx : Loc X.env.scope x) (r : RelV v u)
  (h : ∀ s', Inv X pins (σ.set i (some v)) H s' → (∃ a, Heap.SameBut a s.heap s'.heap ∧ (a = X.env.locals ∨ X.env.cells.lookup x = some a)) → Q () s') (hf : X.fn x = true ∨ X.env.scope.names.lookup x = some .local := by first | exact .inl rfl | exact .inr rfl | assumption) : wpAny M A (storeName X.env x u) Q E s := by
 obtain ⟨m, hn, hl⟩ := id I.loc
 have hcls : (X.env.scope.kind == .class || (X.env.scope.kind == .module && X.env.locals != X.env.globals)) = false := by rw [I.ok.kind]; rfl
 have hiσ : i < σ.length := by rw [I.len]; exact (List.getElem?_eq_some_iff.mp hi).1
 have cne := I.cne
 have tracked : ∀ {a : Addr} {h' : Heap}, (∃ o, s.heap.get? a = some o ∧ H a = none) → Heap.SameBut a s.heap h' → HOk X.prog X.w H h' := fun {a h'} ha hs b ob e => by
  obtain ⟨_, _, hfree⟩ := ha
  refine (I.hok b ob e).stay (fun c w' hc q => (hs.2 c ?_).trans q) (fun _ q => q) fun _ _ q => q
  rintro rfl
  rcases hc with rfl | hc
  ·rw [hfree] at e; cases e
  ·rw [hfree] at hc; cases hc
 rcases hx with hk | hk
 ·refine wpAny_storeName_local hk hn (fun h' hn' hs => ?_) hcls
  obtain ⟨oL, _, _, hoL, _⟩ := id hn
  refine h _ ⟨I.ok, I.os, I.bare, ⟨fun b o e n hb hx => ?_, fun b o e n hb hx => ?_, I.base.free, fun b o e hx => ?_, I.base.tups, I.base.frzs, I.base.tbls⟩, ⟨_, hn', fun j y v' e1 e2 e3 => ?_⟩, fun y c e => ?_, I.free, I.freeC, fun p hp => ?_, tracked ⟨oL, hoL, I.free⟩ hs, by simpa using I.len⟩ ⟨_, hs, .inl rfl⟩
  ·exact (hs.2 b (Nat.ne_of_lt (Nat.lt_of_lt_of_le (Heap.lt_size e) I.ok.above))).trans (I.base.keep b o e n hb hx)
  ·obtain ⟨sl, e1⟩ := I.base.slot b o e n hb hx
   exact ⟨sl, (hs.2 b (Nat.ne_of_lt (Nat.lt_of_lt_of_le (Heap.lt_size e) I.ok.above))).trans e1⟩
  ·obtain ⟨o', e1⟩ := I.base.there b o e hx
   exact ⟨o', (hs.2 b (Nat.ne_of_lt (Nat.lt_of_lt_of_le (Heap.lt_size e) I.ok.above))).trans e1⟩
  ·by_cases hj : j = i
   ·subst hj
    rw [hi] at e1; cases e1
    rw [List.getElem?_set_self hiσ] at e2
    cases e2
    exact ⟨u, r, .inl ⟨hk, by simp⟩⟩
   ·rw [List.getElem?_set_ne (Ne.symm hj)] at e2
    obtain ⟨u', r', q⟩ := hl j y v' e1 e2 e3
    refine ⟨u', r', ?_⟩
    rcases q with ⟨k, e⟩ | ⟨k, c, e, z⟩
    ·refine .inl ⟨k, ?_⟩
     have : y ≠ x := fun e => hj (nodup_ix hN e1 (e ▸ hi))
     simp [this, e]
    ·exact .inr ⟨k, c, e, z.sameBut hs (cne y c e)⟩
  ·obtain ⟨w', z⟩ := I.cell y c e
   exact ⟨w', z.sameBut hs (cne y c e)⟩
  ·obtain ⟨e, n, ne, nf, d⟩ := I.pin p hp
   exact ⟨(hs.2 p.1 ne).trans e, n, ne, nf, d⟩
 ·have hfn : X.fn x = true := by
   rcases hf with z | z
   ·exact z
   ·rw [z] at hk; cases hk
  obtain ⟨c, hc⟩ := I.ok.has x (.inl hk)
  obtain ⟨w', z⟩ := I.cell x c hc
  refine wpAny_storeName_cell I.ok.kind hk hc z (fun h' hc' hs => ?_)
  obtain ⟨oc, hoc, hocd⟩ := id z
  refine h { s with heap := h' } ⟨I.ok, I.os, I.bare, ⟨fun b o e n hb hx => ?_, fun b o e n hb hx => ?_, I.base.free, fun b o e hx => ?_, I.base.tups, I.base.frzs, I.base.tbls⟩, ⟨m, hn.sameBut hs (Ne.symm (cne x c hc)), fun j y v' e1 e2 e3 => ?_⟩, fun y c' e => ?_, I.free, I.freeC, fun p hp => ?_, tracked ⟨oc, hoc, I.freeC x c hc⟩ hs, by simpa using I.len⟩ ⟨c, hs, .inr hc⟩
  ·exact (hs.2 b (Nat.ne_of_lt (Nat.lt_of_lt_of_le (Heap.lt_size e) (I.ok.cab x c hfn hc)))).trans (I.base.keep b o e n hb hx)
  ·obtain ⟨sl, e1⟩ := I.base.slot b o e n hb hx
   exact ⟨sl, (hs.2 b (Nat.ne_of_lt (Nat.lt_of_lt_of_le (Heap.lt_size e) (I.ok.cab x c hfn hc)))).trans e1⟩
  ·obtain ⟨o', e1⟩ := I.base.there b o e hx
   exact ⟨o', (hs.2 b (Nat.ne_of_lt (Nat.lt_of_lt_of_le (Heap.lt_size e) (I.ok.cab x c hfn hc)))).trans e1⟩
  ·by_cases hj : j = i
   ·subst hj
    rw [hi] at e1; cases e1
    rw [List.getElem?_set_self hiσ] at e2
    cases e2
    exact ⟨u, r, .inr ⟨.inl hk, c, hc, hc'⟩⟩
   ·rw [List.getElem?_set_ne (Ne.symm hj)] at e2
    obtain ⟨u', r', q⟩ := hl j y v' e1 e2 e3
    refine ⟨u', r', ?_⟩
    rcases q with q | ⟨k, c', e, z'⟩
    ·exact .inl q
    ·refine .inr ⟨k, c', e, z'.sameBut hs ?_⟩
     rintro rfl
     exact hj (nodup_ix hN e1 (I.ok.inj _ _ _ e hc ▸ hi))
  ·by_cases hcc : c' = c
   ·subst hcc; exact ⟨_, hc'⟩
   ·obtain ⟨w2, z2⟩ := I.cell y c' e
    exact ⟨w2, z2.sameBut hs hcc⟩
  ·obtain ⟨e, n, ne, nf, d⟩ := I.pin p hp
   refine ⟨(hs.2 p.1 ?_).trans e, n, ne, nf, d⟩
   intro q
   rw [q, hoc] at e
   have q' : oc = p.2 := Option.some.inj e
   exact d w' (by rw [← q']; exact hocd)
theorem store_ok {M : Model} {A : Around} {E : Value → Shared → Prop} {i : Nat} {x : Str} {v : V} {u : Value} {Q : Unit → Shared → Prop} (I : Inv X pins σ H s) (hN : X.N.Nodup) (hi : X.N[i]? = some x) (hx : Loc X.env.scope x) (r : RelV v u)
  (h : ∀ s', Inv X pins (σ.set i (some v)) H s' → Q () s') (hf : X.fn x = true ∨ X.env.scope.names.lookup x = some .local := by first | exact .inl rfl | exact .inr rfl | assumption) : wpAny M A (storeName X.env x u) Q E s :=
 store_ok2 I hN hi hx r (fun s' I' _ => h s' I') hf
theorem Inv.call' {s' : Shared} {ch : List Addr} (I : Inv X pins σ H s) (ho : s'.os = s.os) (u : Un (frs X.stack) ch H H' s.heap s'.heap) (hok : HOk X.prog X.w H' s'.heap) (hg : AllBare s'.gens)
  (hch : ∀ b ∈ ch, (b ∈ X.ex ∨ X.s₀.heap.objs.size ≤ b) ∧ b ≠ X.env.locals ∧ (∀ x c, X.env.cells.lookup x = some c → c ≠ b) ∧ ∀ p ∈ X.pn ++ pins, p.1 ≠ b) : Inv X pins σ H' s' := by
 obtain ⟨h', g', d', t', o'⟩ := s'
 have e : o' = s.os := ho
 subst e
 exact I.call (g' := g') (t' := t') (d' := d') u hok hg hch
end
abbrev XK := Value → Option Addr → Hp → Prop
abbrev St := List (Option V)
abbrev VK := V → Hp → Prop
abbrev TE := St → Hp → VK → Prop
abbrev TT := St → Hp → (Bool → Hp → Prop) → Prop
abbrev TA := St → Hp → (List V → Hp → Prop) → Prop
structure Ends where
 nx : St → Hp → Prop
 rt : VK
 bk : St → Hp → Prop := fun _ _ => False
 ct : St → Hp → Prop := fun _ _ => False
abbrev TS := Ends → St → Hp → Prop
def EP (X : Cx) (pins : List (Addr × Obj)) (σ : St) (Q : VK) (u : Value) (s' : Shared) : Prop := ∃ v H', Inv X pins σ H' s' ∧ RelV v u ∧ Q v H'
def TP (X : Cx) (pins : List (Addr × Obj)) (σ : St) (Q : Bool → Hp → Prop) (b : Bool) (s' : Shared) : Prop := ∃ H', Inv X pins σ H' s' ∧ Q b H'
def AP (X : Cx) (pins : List (Addr × Obj)) (σ : St) (Q : List V → Hp → Prop) (us : List Value) (s' : Shared) : Prop := ∃ vs H', Inv X pins σ H' s' ∧ Vals vs us ∧ Q vs H'
def SP (X : Cx) (pins : List (Addr × Obj)) (D : Ends) (f : Flow) (s' : Shared) : Prop :=
 match f with
 | .next => ∃ σ' H', Inv X pins σ' H' s' ∧ D.nx σ' H'
 | .brk => ∃ σ' H', Inv X pins σ' H' s' ∧ D.bk σ' H'
 | .cont => ∃ σ' H', Inv X pins σ' H' s' ∧ D.ct σ' H'
 | .ret u => ∃ v σ' H', Inv X pins σ' H' s' ∧ RelV v u ∧ D.rt v H'
def PE (X : Cx) (e : Expr) (t : TE) : Prop :=
 ∀ (pins : List (Addr × Obj)) (s : Shared) (σ : St) (H : Hp) (Q : VK), Inv X pins σ H s → t σ H Q → wpAny (model X.prog X.w) X.A (eval e X.env) (EP X pins σ Q) X.xe s
def PT (X : Cx) (e : Expr) (t : TT) : Prop :=
 ∀ (pins : List (Addr × Obj)) (s : Shared) (σ : St) (H : Hp) (Q : Bool → Hp → Prop), Inv X pins σ H s → t σ H Q → wpAny (model X.prog X.w) X.A (isTrue e X.env (eval e X.env)) (TP X pins σ Q) X.xe s
def PW (X : Cx) (e : Expr) (t : TT) : Prop :=
 ∀ (whole : Sem Value) (pins : List (Addr × Obj)) (s : Shared) (σ : St) (H : Hp) (Q : Bool → Hp → Prop), Inv X pins σ H s → t σ H Q → wpAny (model X.prog X.w) X.A (isTrue e X.env whole) (TP X pins σ Q) X.xe s
theorem PW.pt {X : Cx} {e : Expr} {t : TT} (h : PW X e t) : PT X e t := h _
def PA (X : Cx) (es : List Expr) (t : TA) : Prop :=
 ∀ (pos : Pos) (pins : List (Addr × Obj)) (s : Shared) (σ : St) (H : Hp) (Q : List V → Hp → Prop), Inv X pins σ H s → t σ H Q → wpAny (model X.prog X.w) X.A (spliced (backTo pos (starEach es X.env))) (AP X pins σ Q) X.xe s
def PS (X : Cx) (st : Stmt) (t : TS) : Prop :=
 ∀ (pins : List (Addr × Obj)) (s : Shared) (σ : St) (H : Hp) (D : Ends), Inv X pins σ H s → t D σ H → wpAny (model X.prog X.w) X.A (exec st X.env) (SP X pins D) X.xe s
def PSs (X : Cx) (st : List Stmt) (t : TS) : Prop :=
 ∀ (pins : List (Addr × Obj)) (s : Shared) (σ : St) (H : Hp) (D : Ends), Inv X pins σ H s → t D σ H → wpAny (model X.prog X.w) X.A (execs st X.env) (SP X pins D) X.xe s
theorem thn {α : Type} {t : Sem α} {Q Q' : α → Shared → Prop} {M : Model} {A : Around} {E : Value → Shared → Prop} {s : Shared} (h : wpAny M A t Q E s) (hQ : ∀ a s, Q a s → Q' a s) : wpAny M A t Q' E s := wpAny_mono h hQ fun _ _ x => x
section
variable {X : Cx}
def tVar (i : Nat) : TE := fun σ H Q => ∃ v, σ[i]? = some (some v) ∧ Q v H
def tC (v : V) : TE := fun _ H Q => Q v H
theorem pe_var {i : Nat} {x : Str} {pos : Pos} (hN : X.N[i]? = some x) (hv : Vis X.env.scope x) (hd : (x == ("__debug__" : Str)) = false := by decide) (hcd : (x == ("__classdict__" : Str)) = false := by decide) : PE X (.Name x pos) (tVar i) := by
 intro pins s σ H Q I h
 obtain ⟨v, e, h⟩ := h
 obtain ⟨m, hn, hl⟩ := I.loc
 obtain ⟨u, r, l⟩ := hl i x v hN e hv
 have fin : EP X pins σ Q u s := ⟨v, H, I, r, h⟩
 rcases l with ⟨hk, hm⟩ | ⟨hk, c, hc, hcell⟩
 ·exact wpAny_Name (wpAny_loadName_local I.ok.kind hk hn hm fin) hd
 ·rcases hk with hk | hk
  ·exact wpAny_Name (wpAny_loadName_cell I.ok.kind hk hc hcell fin) hd
  ·exact wpAny_Name (wpAny_loadName_free I.ok.kind hk hc hcell fin hcd) hd
theorem pe_int {i j pos} : PE X (.Constant (.int i) j pos) (tC (.int i)) := fun _ _ _ H _ I h => wpAny_Constant_int ⟨.int i, H, I.tok _, ⟨_, rfl⟩, h⟩
theorem pe_bl {b j pos} : PE X (.Constant (.bool b) j pos) (tC (.bl b)) := fun _ _ _ H _ I h => Constant_bool ⟨.bl b, H, I, rfl, h⟩
theorem pe_non {j pos} : PE X (.Constant .none j pos) (tC .non) := fun _ _ _ H _ I h => Constant_none ⟨.non, H, I, rfl, h⟩
theorem pe_str {x j pos} : PE X (.Constant (.str x) j pos) (tC (.str x)) := fun _ _ _ H _ I h => Calls.Constant_str ⟨.str x, H, I.tok _, ⟨_, rfl⟩, h⟩
def Gl (X : Cx) (x : Str) : Prop := X.env.kindOf x = some .globalImplicit
theorem ld_glob {E : Value → Shared → Prop} {pins : List (Addr × Obj)} {s : Shared} {σ : St} {H : Hp} {x : Str} {u : Value} {pos : Pos} {Q : Value → Shared → Prop} (I : Inv X pins σ H s) (hg : Gl X x) (hm : X.mg x = some u) (h : Q u s)
  (hd : (x == ("__debug__" : Str)) = false := by decide) : wpAny (model X.prog X.w) X.A (eval (.Name x pos) X.env) Q E s :=
 Calls.Name_function_global I.ok.kind hg (Calls.loadGlobal_global (by rw [I.ok.glob]; exact I.mod.glob.keeps I.bk) hm h) hd
theorem ld_blt {E : Value → Shared → Prop} {pins : List (Addr × Obj)} {s : Shared} {σ : St} {H : Hp} {x : Str} {u : Value} {pos : Pos} {Q : Value → Shared → Prop} (I : Inv X pins σ H s) (hg : Gl X x) (hm : X.mg x = none) (hv : bootBuiltins x = some u) (h : Q u s)
  (hn : x ≠ "__name__" := by decide) (hd : (x == ("__debug__" : Str)) = false := by decide) : wpAny (model X.prog X.w) X.A (eval (.Name x pos) X.env) Q E s := by
 obtain ⟨mb, h1, h2⟩ := I.mod.blt
 exact Calls.Name_function_global I.ok.kind hg (Calls.loadGlobal_builtin (by rw [I.ok.glob]; exact I.mod.glob.keeps I.bk) hm (by rw [I.ok.blt]; exact h1.keeps I.bk) ((h2 x hn).trans hv) h) hd
theorem pe_glob {x : Str} {v : V} {u : Value} {pos : Pos} (hg : Gl X x) (hm : X.mg x = some u) (r : RelV v u) (hd : (x == ("__debug__" : Str)) = false := by decide) : PE X (.Name x pos) (tC v) :=
 fun _ _ _ H _ I h => ld_glob I hg hm ⟨v, H, I, r, h⟩ hd
theorem pe_bltn {x : Str} {v : V} {u : Value} {pos : Pos} (hg : Gl X x) (hm : X.mg x = none) (hv : bootBuiltins x = some u) (r : RelV v u) (hn : x ≠ "__name__" := by decide) (hd : (x == ("__debug__" : Str)) = false := by decide) : PE X (.Name x pos) (tC v) :=
 fun _ _ _ H _ I h => ld_blt I hg hm hv ⟨v, H, I, r, h⟩ hn hd
variable {a b : Expr} {ta tb : TE} {pos : Pos}
def PC (X : Cx) (op : CmpOp) (a b : Expr) (t : TE) : Prop :=
 ∀ (pins : List (Addr × Obj)) (s : Shared) (σ : St) (H : Hp) (Q : VK), Inv X pins σ H s → t σ H Q →
  wpAny (model X.prog X.w) X.A (eval a X.env) (fun v s₁ => wpAny (model X.prog X.w) X.A (eval b X.env) (fun u s₂ => wpAny (model X.prog X.w) X.A (compareOp op v u) (EP X pins σ Q) X.xe s₂) X.xe s₁) X.xe s
def tB (t : TE) : TT := fun σ H Q => t σ H fun x H1 => ∃ c, x = .bl c ∧ Q c H1
theorem pt_cmp {op : CmpOp} {t : TE} (h : PC X op a b t) (h1 : behindInMarks op b = false := by first | exact nobehind _ (by decide) (by decide) | rfl) : PT X (.Compare a [op] [b] pos) (tB t) := by
 intro pins s σ H Q I hw
 refine wpAny_isTrue_Compare1 (thn (h pins s σ H _ I hw) fun v s1 h1 => thn h1 fun u s2 h2 => thn h2 fun c s3 ⟨x, H1, I1, r1, q1⟩ => ?_) h1
 obtain ⟨d, rfl, q⟩ := q1
 cases r1
 exact wpAny_truthy_bool ⟨H1, I1, q⟩
variable {tA tB' : TT} {rest : List Expr}
def tAnd (t u : TT) : TT := fun σ H Q => t σ H fun c H1 => if c = true then u σ H1 Q else Q false H1
def tOr (t u : TT) : TT := fun σ H Q => t σ H fun c H1 => if c = true then Q true H1 else u σ H1 Q
def tNot (t : TT) : TT := fun σ H Q => t σ H fun c H1 => Q (!c) H1
theorem pw_and1 (ha : PT X a tA) : PW X (.BoolOp .And [a] pos) tA := by
 intro wh pins s σ H Q I h
 refine isTrue_and (thn (ha pins s σ H Q I h) fun c s1 e => ?_)
 cases c with
 | true => exact isTrue_and_nil e
 | false => exact e
theorem pw_or1 (ha : PT X a tA) : PW X (.BoolOp .Or [a] pos) tA := by
 intro wh pins s σ H Q I h
 refine isTrue_or (thn (ha pins s σ H Q I h) fun c s1 e => ?_)
 cases c with
 | false => exact isTrue_or_nil e
 | true => exact e
theorem pw_and (ha : PT X a tA) (hb : PW X (.BoolOp .And (b :: rest) pos) tB') : PW X (.BoolOp .And (a :: b :: rest) pos) (tAnd tA tB') := by
 intro wh pins s σ H Q I h
 refine isTrue_and (thn (ha pins s σ H _ I h) fun c s1 ⟨H1, I1, q1⟩ => ?_)
 cases c with
 | true => exact hb wh pins s1 σ H1 Q I1 q1
 | false => exact ⟨H1, I1, q1⟩
theorem pw_or (ha : PT X a tA) (hb : PW X (.BoolOp .Or (b :: rest) pos) tB') : PW X (.BoolOp .Or (a :: b :: rest) pos) (tOr tA tB') := by
 intro wh pins s σ H Q I h
 refine isTrue_or (thn (ha pins s σ H _ I h) fun c s1 ⟨H1, I1, q1⟩ => ?_)
 cases c with
 | true => exact ⟨H1, I1, q1⟩
 | false => exact hb wh pins s1 σ H1 Q I1 q1
theorem pt_not (ha : PT X a tA) : PT X (.UnaryOp .Not a pos) (tNot tA) := by
 intro pins s σ H Q I h
 exact isTrue_not (ha pins s σ H (fun c H1 => Q (!c) H1) I h)
def tAndV (ta tb : TE) : TE := fun σ H Q => ta σ H fun x H1 => ∃ c, x = .bl c ∧ if c = true then tb σ H1 Q else Q (.bl false) H1
def tNotV (ta : TE) : TE := fun σ H Q => ta σ H fun x H1 => ∃ c, x = .bl c ∧ Q (.bl (!c)) H1
theorem pe_one {op} {t : TE} (h : PE X a t) : PE X (.BoolOp op [a] pos) t := fun pins s σ H Q I hw => BoolOp_one (h pins s σ H Q I hw)
theorem pe_and (ha : PE X a ta) (hb : PE X (.BoolOp .And (b :: rest) pos) tb) : PE X (.BoolOp .And (a :: b :: rest) pos) (tAndV ta tb) := by
 intro pins s σ H Q I h
 refine BoolOp_and (thn (ha pins s σ H _ I h) fun v s1 ⟨x, H1, I1, r1, q1⟩ => ?_)
 obtain ⟨c, rfl, q1⟩ := q1
 cases r1
 refine wpAny_truthy_bool ?_
 cases c with
 | true => exact hb pins s1 σ H1 Q I1 q1
 | false => exact ⟨.bl false, H1, I1, rfl, q1⟩
theorem pe_not (ha : PE X a ta) : PE X (.UnaryOp .Not a pos) (tNotV ta) := by
 intro pins s σ H Q I h
 refine UnaryOp_ (thn (ha pins s σ H _ I h) fun v s1 ⟨x, H1, I1, r1, q1⟩ => ?_)
 obtain ⟨c, rfl, q1⟩ := q1
 cases r1
 exact not_of (wpAny_truthy_bool ⟨.bl (!c), H1, I1, rfl, q1⟩)
end
def SqL (K : PySem.W.Frag) (H : Hp) (a : Addr) (xs : List V) : Prop :=
 Rd H a (.lst xs) ∨
  ∃ (o : Obj) (its : Array Value) (n : Nat), K.lookup a = some o ∧ o.cls = .type "list" ∧ o.dict = none ∧ o.data = .seq its n ∧ its.size ≤ sizeLine ∧ Vals xs its.toList
def SqT (K : PySem.W.Frag) (H : Hp) (a : Addr) (xs : List V) : Prop :=
 Rd H a (.tup xs) ∨
  ∃ (o : Obj) (its : Array Value) (n : Nat), K.lookup a = some o ∧ o.cls = .type "tuple" ∧ o.data = .seq its n ∧ its.size ≤ sizeLine ∧ Vals xs its.toList
def absV : Value → Option V
 | .none => some .non
 | .bool b => some (.bl b)
 | .int i _ => some (.int i)
 | .str x _ => some (.str x)
 | .bytes b _ => some (.byt b)
 | .float b _ => some (.flt b)
 | .ref a => some (.ref a)
 | .type n => some (.ty n)
 | _ => none
theorem RelV.abs {x : V} {u : Value} (r : RelV x u) : absV u = some x := by
 cases x with
 | non => cases r; rfl
 | bl _ => cases r; rfl
 | int _ => obtain ⟨t, rfl⟩ := r; rfl
 | str _ => obtain ⟨t, rfl⟩ := r; rfl
 | byt _ => obtain ⟨t, rfl⟩ := r; rfl
 | flt _ => obtain ⟨t, rfl⟩ := r; rfl
 | ref _ => cases r; rfl
 | ty _ => cases r; rfl
theorem RelV.inj {x y : V} {u : Value} (r : RelV x u) (q : RelV y u) : x = y := Option.some.inj (r.abs.symm.trans q.abs)
theorem Vals.inj : ∀ {xs ys : List V} {us : List Value}, Vals xs us → Vals ys us → xs = ys
 | _, _, _, .nil, .nil => rfl
 | _, _, _, .cons r t, .cons r' t' => by rw [r.inj r', Vals.inj t t']
section
variable {X : Cx} {pins : List (Addr × Obj)} {σ : St} {H : Hp} {s : Shared} {a : Addr} {xs ys : List V}
theorem SqL.of {K : PySem.W.Frag} (h : H a = some (.lst xs)) : SqL K H a xs := .inl (.inl h)
theorem SqT.of {K : PySem.W.Frag} (h : H a = some (.tup xs)) : SqT K H a xs := .inl (.inl h)
theorem Inv.list (I : Inv X pins σ H s) (h : SqL X.K H a xs) : ∃ its : List Value, Vals xs its ∧ PlainL s.heap a its.toArray ∧ xs.length ≤ sizeLine := by
 rcases h with h | ⟨o, its, n, hk, hc, hd, hs, hz, r⟩
 ·obtain ⟨z, its, n, r, e⟩ := h.ok I.hok
  exact ⟨its, r, ⟨_, n, e, rfl, rfl, rfl⟩, z⟩
 ·refine ⟨its.toList, r, ⟨o, n, I.kIn a o hk, hc, hd, by simpa using hs⟩, ?_⟩
  have e := r.length
  simp only [Array.length_toList] at e
  omega
theorem Inv.tuple (I : Inv X pins σ H s) (h : SqT X.K H a xs) : ∃ its : List Value, Vals xs its ∧ IsTup s.heap a its.toArray ∧ xs.length ≤ sizeLine := by
 rcases h with h | ⟨o, its, n, hk, hc, hs, hz, r⟩
 ·obtain ⟨z, its, r, p⟩ := h.ok I.hok
  exact ⟨its, r, p, z.1⟩
 ·refine ⟨its.toList, r, ⟨o, I.kIn a o hk, hc, n, by simpa using hs⟩, ?_⟩
  have e := r.length
  simp only [Array.length_toList] at e
  omega
theorem Inv.list_inj (I : Inv X pins σ H s) (h : SqL X.K H a xs) (h' : SqL X.K H a ys) : xs = ys := by
 obtain ⟨its, r, ⟨o, n, e, _, _, d⟩, _⟩ := I.list h
 obtain ⟨its', r', ⟨o', n', e', _, _, d'⟩, _⟩ := I.list h'
 rw [e] at e'; cases e'
 rw [d] at d'
 injection d' with d1 _
 have : its = its' := by simpa using congrArg Array.toList d1
 subst this
 exact r.inj r'
theorem Inv.tuple_inj (I : Inv X pins σ H s) (h : SqT X.K H a xs) (h' : SqT X.K H a ys) : xs = ys := by
 obtain ⟨its, r, ⟨o, e, _, n, d⟩, _⟩ := I.tuple h
 obtain ⟨its', r', ⟨o', e', _, n', d'⟩, _⟩ := I.tuple h'
 rw [e] at e'; cases e'
 rw [d] at d'
 injection d' with d1 _
 have : its = its' := by simpa using congrArg Array.toList d1
 subst this
 exact r.inj r'
end
abbrev Cx.wish (X : Cx) (E : Value → Shared → Prop) : Cx := { X with xe := E }
abbrev Cx.nox (X : Cx) : Cx := X.wish fun _ _ => False
theorem Cx.Ok.wish {X : Cx} (ok : X.Ok) (E : Value → Shared → Prop) : (X.wish E).Ok :=
 ⟨ok.mod, ok.kind, ok.glob, ok.blt, ok.above, ok.inj, ok.has, ok.cab, ok.hd, ok.frames, ok.stk, ok.exf, ok.bs, ok.bsz, ok.noex, ok.exfs, ok.funs, ok.frf⟩
theorem Cx.Ok.unwish {X : Cx} {E : Value → Shared → Prop} (ok : (X.wish E).Ok) : X.Ok :=
 ⟨ok.mod, ok.kind, ok.glob, ok.blt, ok.above, ok.inj, ok.has, ok.cab, ok.hd, ok.frames, ok.stk, ok.exf, ok.bs, ok.bsz, ok.noex, ok.exfs, ok.funs, ok.frf⟩
section
variable {X : Cx} {pins : List (Addr × Obj)} {σ : St} {H : Hp} {s : Shared} {E : Value → Shared → Prop}
theorem Inv.wish (I : Inv X pins σ H s) (E : Value → Shared → Prop) : Inv (X.wish E) pins σ H s := ⟨I.ok.wish E, I.os, I.bare, I.base, I.loc, I.cell, I.free, I.freeC, I.pin, I.hok, I.len⟩
theorem Inv.unwish (I : Inv (X.wish E) pins σ H s) : Inv X pins σ H s := ⟨I.ok.unwish, I.os, I.bare, I.base, I.loc, I.cell, I.free, I.freeC, I.pin, I.hok, I.len⟩
theorem SP.unwish {D : Ends} {f : Flow} {s' : Shared} (h : SP (X.wish E) pins D f s') : SP X pins D f s' := by
 cases f with
 | next => obtain ⟨σ', H', I, q⟩ := h; exact ⟨σ', H', I.unwish, q⟩
 | brk => obtain ⟨σ', H', I, q⟩ := h; exact ⟨σ', H', I.unwish, q⟩
 | cont => obtain ⟨σ', H', I, q⟩ := h; exact ⟨σ', H', I.unwish, q⟩
 | ret u => obtain ⟨v, σ', H', I, r, q⟩ := h; exact ⟨v, σ', H', I.unwish, r, q⟩
theorem PSs.nox {st : List Stmt} {t : TS} (h : PSs X.nox st t) : PSs X st t := fun pins s σ H D I hw =>
 wpAny_mono (h pins s σ H D (I.wish _) hw) (fun _ _ q => q.unwish) fun _ _ z => False.elim z
end
section
variable {X : Cx} {st : Stmt} {rest : List Stmt} {t u : TS} {e : Expr} {te : TE} {pos : Pos}
def tNext : TS := fun D σ H => D.nx σ H
def tSeq (t u : TS) : TS := fun D σ H => t { D with nx := u D } σ H
theorem pss_nil : PSs X [] tNext := fun _ _ σ H _ I h => wpAny_execs_nil ⟨σ, H, I, h⟩
theorem pss_cons (h1 : PS X st t) (h2 : PSs X rest u) : PSs X (st :: rest) (tSeq t u) := by
 intro pins s σ H D I h
 refine wpAny_execs_cons (thn (h1 pins s σ H { D with nx := u D } I h) fun f s1 q => ?_)
 cases f with
 | next =>
  obtain ⟨σ', H', I', q⟩ := q
  exact h2 pins s1 σ' H' D I' q
 | ret v => exact q
 | brk => exact q
 | cont => exact q
theorem pss_one (h1 : PS X st t) : PSs X [st] t := by
 intro pins s σ H D I h
 refine wpAny_execs_cons (thn (h1 pins s σ H D I h) fun f s1 q => ?_)
 cases f with
 | next => exact wpAny_execs_nil q
 | ret v => exact q
 | brk => exact q
 | cont => exact q
theorem Inv.quiet {pins : List (Addr × Obj)} {σ : St} {H : Hp} {s : Shared} (I : Inv X pins σ H s) : interactive X.env = false := by simp [interactive, I.ok.kind]
def tDrop (te : TE) : TS := fun D σ H => te σ H fun _ H1 => D.nx σ H1
theorem ps_expr (he : PE X e te) (hs : swapsWith e none pos.line X.env = pure false := by rfl) : PS X (.Expr e pos) (tDrop te) := by
 intro pins s σ H D I h
 exact wpAny_Expr_any (thn (he pins s σ H _ I h) fun v s1 ⟨x, H1, I1, r1, q1⟩ => ⟨σ, H1, I1, q1⟩) I.quiet hs
def tRet (te : TE) : TS := fun D σ H => te σ H D.rt
theorem ps_ret (he : PE X e te) : PS X (.Return (some e) pos) (tRet te) := by
 intro pins s σ H D I h
 exact wpAny_Return_some (thn (he pins s σ H _ I h) fun v s1 ⟨x, H1, I1, r1, q1⟩ => ⟨x, σ, H1, I1, r1, q1⟩)
def tIfS (c : TT) (t u : TS) : TS := fun D σ H => c σ H fun b H1 => if b = true then t D σ H1 else u D σ H1
theorem ps_if {c : Expr} {a b : List Stmt} {tc : TT} (hc : PT X c tc) (ha : PSs X a t) (hb : PSs X b u) : PS X (.If c a b pos) (tIfS tc t u) := by
 intro pins s σ H D I h
 refine wpAny_If (thn (hc pins s σ H _ I h) fun d s1 ⟨H1, I1, q1⟩ => ?_)
 cases d with
 | true => exact ha pins s1 σ H1 D I1 q1
 | false => exact hb pins s1 σ H1 D I1 q1
end
abbrev TG := V → St → Hp → (St → Hp → Prop) → Prop
abbrev TGs := List V → St → Hp → (St → Hp → Prop) → Prop
def PG (X : Cx) (target : Expr) (t : TG) : Prop :=
 ∀ (pins : List (Addr × Obj)) (s : Shared) (σ : St) (H : Hp) (v : V) (u : Value) (Q : St → Hp → Prop), Inv X pins σ H s → RelV v u → t v σ H Q →
  wpAny (model X.prog X.w) X.A (assign target X.env u) (fun _ s' => ∃ σ' H', Inv X pins σ' H' s' ∧ Q σ' H') X.xe s
def PGs (X : Cx) (ts : List Expr) (t : TGs) : Prop :=
 ∀ (pins : List (Addr × Obj)) (s : Shared) (σ : St) (H : Hp) (vs : List V) (us : List Value) (Q : St → Hp → Prop), Inv X pins σ H s → Vals vs us → t vs σ H Q →
  wpAny (model X.prog X.w) X.A (assignInOrder ((assignEach ts X.env).map (·.2)) us) (fun _ s' => ∃ σ' H', Inv X pins σ' H' s' ∧ Q σ' H') X.xe s
abbrev TSet := V → V → V → Hp → (Hp → Prop) → Prop
def PSet (X : Cx) (t : TSet) : Prop :=
 ∀ (pins : List (Addr × Obj)) (s : Shared) (σ : St) (H : Hp) (o i v : V) (ov iv u : Value) (Q : Hp → Prop), Inv X pins σ H s → RelV o ov → RelV i iv → RelV v u → t o i v H Q →
  wpAny (model X.prog X.w) X.A (setItem ov iv u) (fun _ s' => ∃ H', Inv X pins σ H' s' ∧ Q H') X.xe s
section
variable {X : Cx} {pos : Pos}
def gName (i : Nat) : TG := fun v σ H Q => Q (σ.set i (some v)) H
theorem pg_name {i : Nat} {x : Str} (hN : X.N.Nodup) (hi : X.N[i]? = some x) (hx : Loc X.env.scope x) (hf : X.fn x = true ∨ X.env.scope.names.lookup x = some .local := by first | exact .inl rfl | exact .inr rfl | assumption) : PG X (.Name x pos) (gName i) := by
 intro pins s σ H v u Q I r h
 exact wpAny_assign_Name (store_ok I hN hi hx r (fun s' I' => ⟨_, H, I', h⟩) hf)
def gNil : TGs := fun vs σ H Q => vs = [] ∧ Q σ H
def gCons (t : TG) (u : TGs) : TGs := fun vs σ H Q => ∃ v r, vs = v :: r ∧ t v σ H fun σ' H' => u r σ' H' Q
theorem pgs_nil : PGs X [] gNil := by
 intro pins s σ H vs us Q I r h
 obtain ⟨e, h⟩ := h
 subst e
 cases r
 exact assignInOrder_nil ⟨σ, H, I, h⟩
theorem pgs_cons {e : Expr} {es : List Expr} {t : TG} {u : TGs} (h1 : PG X e t) (h2 : PGs X es u)
  (hs : (assignEach (e :: es) X.env).map (·.2) = assign e X.env :: (assignEach es X.env).map (·.2) := by rfl) : PGs X (e :: es) (gCons t u) := by
 intro pins s σ H vs us Q I r h
 obtain ⟨v, vr, e1, h⟩ := h
 subst e1
 cases r with
 | cons r rr =>
  rw [hs]
  refine assignInOrder_cons (thn (h1 pins s σ H _ _ _ I r h) fun _ s1 ⟨σ1, H1, I1, q1⟩ => ?_)
  exact h2 pins s1 σ1 H1 _ _ Q I1 rr q1
def gTup (K : PySem.W.Frag) (n : Nat) (t : TGs) : TG := fun v σ H Q => ∃ a xs, v = .ref a ∧ SqT K H a xs ∧ xs.length = n ∧ t xs σ H Q
theorem pg_tup {es : List Expr} {k : Nat} {t : TGs} {n : Nat} (hc : X.calm = true) (h : PGs X es t)
  (hn : (assignEach es X.env).length = n := by rfl) (hst : (assignEach es X.env).findIdx? (·.1) = none := by rfl) : PG X (.Tuple es k pos) (gTup X.K n t) := by
 intro pins s σ H v u Q I r hw
 obtain ⟨a, xs, e1, hq, hl, hw⟩ := hw
 subst e1
 cases r
 obtain ⟨its, rv, ht, hz⟩ := I.tuple hq
 refine assign_Tuple_tuple (I.ok.hd hc) ht (by simp [hn, ← hl, rv.length]) hst fun h' hx => ?_
 have I1 : Inv X pins σ H { s with heap := h' } := I.kept (t' := s.toks) fun b o e => hx b o (Nat.ne_of_lt (Heap.lt_size e)) e
 exact h pins _ σ H xs _ Q I1 (by simpa using rv) hw
def gSub (to ti : TE) (t : TSet) : TG := fun v σ H Q => to σ H fun o H1 => ti σ H1 fun i H2 => t o i v H2 fun H3 => Q σ H3
theorem pg_sub {o i : Expr} {to ti : TE} {t : TSet} (ho : PE X o to) (hi : PE X i ti) (hs : PSet X t)
  (ha : ∀ v, assign (.Subscript o i pos) X.env v = (do
   let ov ← holding [v] (eval o X.env)
   let iv ← holding [v, ov] (eval i X.env)
   standAt pos
   holding [v, ov, iv] (setItem ov iv v)
   release [v, ov, iv] []) := by intro _; rfl) : PG X (.Subscript o i pos) (gSub to ti t) := by
 intro pins s σ H v u Q I r h
 rw [ha]
 refine wpAny_bind (wpAny_holding (thn (ho pins s σ H _ I h) fun ov s1 ⟨x, H1, I1, r1, q1⟩ => ?_))
 refine wpAny_bind (wpAny_holding (thn (hi pins s1 σ H1 _ I1 q1) fun iv s2 ⟨y, H2, I2, r2, q2⟩ => ?_))
 refine wpAny_bind (wpAny_standAt (wpAny_bind (wpAny_holding (thn (hs pins s2 σ H2 x y v ov iv u _ I2 r1 r2 r q2) fun _ s3 ⟨H3, I3, q3⟩ => ?_))))
 exact wpAny_release ⟨σ, H3, I3, q3⟩
def tAsg (te : TE) (g : TG) : TS := fun D σ H => te σ H fun x H1 => g x σ H1 D.nx
theorem ps_asg {tg e : Expr} {te : TE} {g : TG} (he : PE X e te) (hg : PG X tg g) (hs : swapsWithSole [tg] e pos.line X.env = pure false := by rfl) (hw : swappedStores [tg] e X.env = pure none := by rfl)
  (h1 : (assignEach [tg] X.env).map (·.2) = [assign tg X.env] := by rfl) : PS X (.Assign [tg] e pos) (tAsg te g) := by
 intro pins s σ H D I h
 refine wpAny_Assign_stores (thn (he pins s σ H _ I h) fun v s1 ⟨x, H1, I1, r1, q1⟩ => ?_) hs hw
 rw [h1]
 exact thn (hg pins s1 σ H1 x v _ I1 r1 q1) fun _ s2 q => q
theorem ps_set {i : Nat} {x : Str} {e : Expr} {te : TE} {pos' : Pos} (hN : X.N.Nodup) (hi : X.N[i]? = some x) (hx : Loc X.env.scope x) (he : PE X e te) (hs : swapsWith e (some (.Name x pos')) pos.line X.env = pure false := by rfl) (hf : X.fn x = true ∨ X.env.scope.names.lookup x = some .local := by first | exact .inl rfl | exact .inr rfl | assumption) :
  PS X (.Assign [.Name x pos'] e pos) (tAsg te (gName i)) := by
 intro pins s σ H D I h
 refine wpAny_Assign_Name (thn (he pins s σ H _ I h) fun v s1 ⟨y, H1, I1, r1, q1⟩ => ?_) hs
 exact store_ok I1 hN hi hx r1 (fun s2 I2 => ⟨_, H1, I2, q1⟩) hf
def tWhile (c : TT) (tb : TS) : TS := fun D σ H => ∃ W : Nat → St → Hp → Prop, (∃ m, W m σ H) ∧ ∀ m σ H, W m σ H →
 c σ H fun b H1 => if b = true then ∃ N : St → Hp → Prop, (∀ σ' H', N σ' H' → ∃ m', m' < m ∧ W m' σ' H') ∧ tb { D with nx := N, ct := N, bk := D.nx } σ H1 else D.nx σ H1
theorem ps_while {c : Expr} {body : List Stmt} {tc : TT} {tb : TS} (hp : PassesOwn (model X.prog X.w) X.A X.env X.xe) (hc : PT X c tc) (hb : PSs X body tb) : PS X (.While c body [] pos) (tWhile tc tb) := by
 intro pins s σ H D I h
 obtain ⟨W, ⟨m0, w0⟩, turn⟩ := h
 refine wpAny_While (codeAny_whileLoop (fun n s' => ∃ σ' H', Inv X pins σ' H' s' ∧ W n σ' H') ?_ m0 ⟨σ, H, I, w0⟩)
 rintro n s1 ⟨σ1, H1, I1, w1⟩
 refine wpAny_passesOwn hp (thn (hc pins s1 σ1 H1 _ I1 (turn n σ1 H1 w1)) fun b s2 ⟨H2, I2, q2⟩ => ?_)
 cases b with
 | true =>
  obtain ⟨N, hN, q2⟩ := q2
  rw [if_pos rfl]
  refine wpAny_passesOwn hp (thn (hb pins s2 σ1 H2 _ I2 q2) fun f s3 q3 => ?_)
  cases f with
  | next =>
   obtain ⟨σ3, H3, I3, n3⟩ := q3
   obtain ⟨m', hm, w3⟩ := hN σ3 H3 n3
   exact ⟨m', hm, σ3, H3, I3, w3⟩
  | cont =>
   obtain ⟨σ3, H3, I3, n3⟩ := q3
   obtain ⟨m', hm, w3⟩ := hN σ3 H3 n3
   exact ⟨m', hm, σ3, H3, I3, w3⟩
  | brk => exact q3
  | ret v => exact q3
 | false =>
  rw [if_neg Bool.false_ne_true]
  exact wpAny_execs_nil ⟨σ1, H2, I2, q2⟩
end
structure It where
 go : Nat → Hp → Prop
 yld : Nat → Hp → V → Hp → Prop
 stop : Nat → Hp → Prop
def FpOk (X : Cx) (pins : List (Addr × Obj)) (H : Hp) (b : Addr) : Prop :=
 H b = none ∧ b ≠ X.env.locals ∧ b ∉ X.fs ∧ (b ∈ X.ex ∨ X.s₀.heap.objs.size ≤ b) ∧ (∀ x c, X.env.cells.lookup x = some c → c ≠ b) ∧ ∀ p ∈ X.pn ++ pins, p.1 ≠ b
theorem Inv.fpOk {X : Cx} {pins : List (Addr × Obj)} {σ : St} {H H' : Hp} {s : Shared} {b : Addr} (I : Inv X pins σ H s) (hb : s.heap.objs.size ≤ b) (hn : H' b = none) : FpOk X pins H' b := by
 refine ⟨hn, Nat.ne_of_gt (Nat.lt_of_lt_of_le I.lt hb), I.nofs hb, .inr (Nat.le_trans I.sz hb), fun x c e z => ?_, fun p hp z => ?_⟩
 ·obtain ⟨v, q⟩ := I.cell x c e
  exact absurd (Nat.lt_of_lt_of_le q.lt (by rw [z]; exact hb)) (Nat.lt_irrefl _)
 ·exact absurd (Nat.lt_of_lt_of_le (Heap.lt_size (I.pin p hp).1) (by rw [z]; exact hb)) (Nat.lt_irrefl _)
structure Turn (P : Program) (w : World) (K : PySem.W.Frag) (tg : Expr) (J : It) (fp : List Addr) (it : Addr) (tn : Nat → Heap → Prop) : Prop where
 mem : it ∈ fp
 obj : ∀ i h, tn i h → ∀ b ∈ fp, ∃ o, h.get? b = some o ∧ ∀ v, o.data ≠ .cell v
 keep : ∀ i h h', tn i h → (∀ b ∈ fp, ∀ o, h.get? b = some o → h'.get? b = some o) → tn i h'
 item : ∀ (X : Cx), X.prog = P → X.w = w → X.K = K → X.calm = true → ∀ (i : Nat) (pins : List (Addr × Obj)) (s : Shared) (σ : St) (H : Hp) (E : Value → Shared → Prop), Inv X pins σ H s → (∀ b ∈ fp, FpOk X pins H b) → tn i s.heap → J.go i H →
  wpAny (model P w) X.A (pyNext (.ref it)) (fun r s1 => ∃ u, r = some u ∧
   wpAny (model P w) X.A (letOwnedTupleGo tg (.ref it) u) (fun _ s2 => ∃ x H', Inv X pins σ H' s2 ∧ RelV x u ∧ J.yld i H x H' ∧ tn (i + 1) s2.heap ∧ ∀ b ∈ fp, H' b = none) E s1) E s
 done : ∀ (X : Cx), X.prog = P → X.w = w → X.K = K → X.calm = true → ∀ (i : Nat) (pins : List (Addr × Obj)) (s : Shared) (σ : St) (H : Hp) (E : Value → Shared → Prop), Inv X pins σ H s → (∀ b ∈ fp, FpOk X pins H b) → tn i s.heap → J.stop i H →
  wpAny (model P w) X.A (pyNext (.ref it)) (fun r s1 => r = none ∧ Inv X pins σ H s1) E s
 self : ∀ (A : Around) (i : Nat) (s : Shared) (Q : Value → Shared → Prop) (E : Value → Shared → Prop), tn i s.heap → Q (.ref it) s → wpAny (model P w) A (pyIter (.ref it)) Q E s
abbrev TI := St → Hp → (It → Hp → Prop) → Prop
def PIE (X : Cx) (pins : List (Addr × Obj)) (σ : St) (tg : Expr) (R : It → Hp → Prop) (itv : Value) (s2 : Shared) : Prop :=
 ∃ (it : Addr) (fp : List Addr) (tn : Nat → Heap → Prop) (J : It) (H' : Hp), itv = .ref it ∧ Inv X pins σ H' s2 ∧ Turn X.prog X.w X.K tg J fp it tn ∧ tn 0 s2.heap ∧ (∀ b ∈ fp, FpOk X pins H' b) ∧ R J H'
def PI (X : Cx) (tg iter : Expr) (wi : TI) : Prop :=
 ∀ (pins : List (Addr × Obj)) (s : Shared) (σ : St) (H : Hp) (R : It → Hp → Prop), Inv X pins σ H s → wi σ H R →
  wpAny (model X.prog X.w) X.A (eval iter X.env) (fun v s1 => wpAny (model X.prog X.w) X.A (pyIter v) (PIE X pins σ tg R) X.xe s1) X.xe s
theorem go_of {M : Model} {A : Around} {E : Value → Shared → Prop} {s : Shared} {tg : Expr} {it : Addr} {u : Value} {o : Obj} {n : String} {vs : Array Value} {Q : Unit → Shared → Prop} (ho : s.heap.get? it = some o) (hc : o.cls = .type n) (hd : o.data = .fields vs)
  (hn : ["enumerate", "zip", "dict_itemiterator", "dict_reverseitemiterator", "odict_iterator", "itertools.zip_longest", "itertools.pairwise"].contains n = false) (hQ : Q () s) : wpAny M A (letOwnedTupleGo tg (.ref it) u) Q E s := by
 unfold letOwnedTupleGo
 cases tg <;> first
  | exact wpAny_pure hQ
  | (cases u <;> first
    | exact wpAny_pure hQ
    | (refine wpAny_bind (wpAny_load ho ?_)
       rw [hc, hd]
       show wpAny M A (if (["enumerate", "zip", "dict_itemiterator", "dict_reverseitemiterator", "odict_iterator", "itertools.zip_longest", "itertools.pairwise"].contains n && vs[0]? == some (rawInt _)) = true then _ else _) Q E s
       rw [if_neg (by intro h; rw [hn, Bool.false_and] at h; cases h)]
       exact wpAny_pure hQ))
def Itl (K : PySem.W.Frag) (a : Addr) : It :=
 ⟨fun i H => ∃ xs x, SqL K H a xs ∧ xs[i]? = some x, fun i H x H' => H' = H ∧ ∀ xs, SqL K H a xs → xs[i]? = some x, fun i H => ∃ xs, SqL K H a xs ∧ xs.length ≤ i⟩
def Itt (K : PySem.W.Frag) (a : Addr) : It :=
 ⟨fun i H => ∃ xs x, SqT K H a xs ∧ xs[i]? = some x, fun i H x H' => H' = H ∧ ∀ xs, SqT K H a xs → xs[i]? = some x, fun i H => ∃ xs, SqT K H a xs ∧ xs.length ≤ i⟩
def Itr (lo : Int) (n : Nat) : It := ⟨fun i _ => i < n, fun i H x H' => H' = H ∧ x = .int (lo + i), fun i _ => n ≤ i⟩
theorem turn_list {P : Program} {w : World} {K : PySem.W.Frag} {tg : Expr} (a it : Addr) : Turn P w K tg (Itl K a) [it] it (fun i h => h.IsListIter it a i) where
 mem := by simp
 obj := fun i h st b hb => by
  have e : b = it := by simpa using hb
  subst e
  obtain ⟨o, e, c, d⟩ := st
  exact ⟨o, e, fun v z => by rw [d] at z; cases z⟩
 keep := fun i h h' st k => st.at fun o e => k it (by simp) o e
 item := by
  intro X hP hw hK hc i pins s σ H E I hf st hg
  subst hP hw hK
  obtain ⟨xs, x, hq, hx⟩ := hg
  obtain ⟨its, rv, p, hz⟩ := I.list hq
  obtain ⟨u, hu, ru⟩ := rv.get hx
  obtain ⟨f0, f1, f2, f3, f4, f5⟩ := hf it (by simp)
  refine wpAny_pyNext_list_item st p.isList (x := u) (by simpa using hu) fun h' st' sb => ?_
  have I1 : Inv X pins σ H { s with heap := h' } := I.turned (t' := s.toks) (fun b o hb e => (sb.2 b hb).trans e) f0 f1 f3 f4 f5
  obtain ⟨o, e, c, d⟩ := id st'
  exact ⟨u, rfl, go_of (s := { s with heap := h' }) e c d (by decide) ⟨x, H, I1, ru, ⟨rfl, fun ys hy => by rw [I.list_inj hy hq]; exact hx⟩, st', fun b hb => (hf b hb).1⟩⟩
 done := by
  intro X hP hw hK hc i pins s σ H E I hf st hg
  subst hP hw hK
  obtain ⟨xs, hq, hx⟩ := hg
  obtain ⟨its, rv, p, hz⟩ := I.list hq
  obtain ⟨f0, f1, f2, f3, f4, f5⟩ := hf it (by simp)
  have hl := rv.length
  exact wpAny_pyNext_list_end (I.ok.hd hc) st p.isList (by simp; omega) fun h' eb => ⟨rfl, I.turned (t' := s.toks) (fun b o hb e => eb b o hb e) f0 f1 f3 f4 f5⟩
 self := fun _ _ _ _ _ st h => wpAny_pyIter_listiter st h
theorem turn_tuple {P : Program} {w : World} {K : PySem.W.Frag} {tg : Expr} (a it : Addr) : Turn P w K tg (Itt K a) [it] it (fun i h => h.IsTupleIter it a i) where
 mem := by simp
 obj := fun i h st b hb => by
  have e : b = it := by simpa using hb
  subst e
  obtain ⟨o, e, c, d⟩ := st
  exact ⟨o, e, fun v z => by rw [d] at z; cases z⟩
 keep := fun i h h' st k => st.at fun o e => k it (by simp) o e
 item := by
  intro X hP hw hK hc i pins s σ H E I hf st hg
  subst hP hw hK
  obtain ⟨xs, x, hq, hx⟩ := hg
  obtain ⟨its, rv, p, hz⟩ := I.tuple hq
  obtain ⟨u, hu, ru⟩ := rv.get hx
  obtain ⟨f0, f1, f2, f3, f4, f5⟩ := hf it (by simp)
  refine wpAny_pyNext_tuple_item st (show s.heap.IsTuple a its.toArray from p) (x := u) (by simpa using hu) fun h' st' sb => ?_
  have I1 : Inv X pins σ H { s with heap := h' } := I.turned (t' := s.toks) (fun b o hb e => (sb.2 b hb).trans e) f0 f1 f3 f4 f5
  obtain ⟨o, e, c, d⟩ := id st'
  exact ⟨u, rfl, go_of (s := { s with heap := h' }) e c d (by decide) ⟨x, H, I1, ru, ⟨rfl, fun ys hy => by rw [I.tuple_inj hy hq]; exact hx⟩, st', fun b hb => (hf b hb).1⟩⟩
 done := by
  intro X hP hw hK hc i pins s σ H E I hf st hg
  subst hP hw hK
  obtain ⟨xs, hq, hx⟩ := hg
  obtain ⟨its, rv, p, hz⟩ := I.tuple hq
  obtain ⟨f0, f1, f2, f3, f4, f5⟩ := hf it (by simp)
  have hl := rv.length
  exact wpAny_pyNext_tuple_end (I.ok.hd hc) st (show s.heap.IsTuple a its.toArray from p) (by simp; omega) fun h' eb => ⟨rfl, I.turned (t' := s.toks) (fun b o hb e => eb b o hb e) f0 f1 f3 f4 f5⟩
 self := fun _ _ _ _ _ st h => wpAny_pyIter_tupleiter st h
theorem turn_range {P : Program} {w : World} {K : PySem.W.Frag} {tg : Expr} (it : Addr) (lo : Int) (n : Nat) : Turn P w K tg (Itr lo n) [it] it (fun i h => IsRangeIter h it (lo + (i : Nat) * 1) ((n : Int) - (i : Nat)) 1) where
 mem := by simp
 obj := fun i h st b hb => by
  have e : b = it := by simpa using hb
  subst e
  exact ⟨_, st, fun v z => by
   have z' : Data.fields _ = Data.cell v := z
   cases z'⟩
 keep := fun i h h' st k => k it (by simp) _ st
 item := by
  intro X hP hw hK hc i pins s σ H E I hf st hg
  subst hP hw hK
  obtain ⟨f0, f1, f2, f3, f4, f5⟩ := hf it (by simp)
  have W := Walks.range (prog := X.prog) (w := X.w) (I.ok.hd hc) it lo 1 n
  refine W.item i s _ _ hg st fun v h' tk hv st' kk => ?_
  obtain ⟨t, rfl⟩ := hv
  have I1 : Inv X pins σ H { s with heap := h', toks := tk } := I.turned (fun b o hb e => kk b o (by simpa using hb) e) f0 f1 f3 f4 f5
  refine ⟨_, rfl, go_of (s := { s with heap := h', toks := tk }) (n := "range_iterator") st' rfl rfl (by decide) ⟨.int (lo + i), H, I1, ⟨t, ?_⟩, ⟨rfl, rfl⟩, st', fun b hb => (hf b hb).1⟩⟩
  rw [Int.mul_one]
 done := by
  intro X hP hw hK hc i pins s σ H E I hf st hg
  subst hP hw hK
  obtain ⟨f0, f1, f2, f3, f4, f5⟩ := hf it (by simp)
  exact wpAny_pyNext_range_end (I.ok.hd hc) st (by have : n ≤ i := hg; omega) fun h' eb => ⟨rfl, I.turned (t' := s.toks) (fun b o hb e => eb b o hb e) f0 f1 f3 f4 f5⟩
 self := fun _ _ _ _ _ st h => wpAny_pyIter_rangeiter st h
section
variable {X : Cx} {tg : Expr}
def iList (K : PySem.W.Frag) (tl : TE) : TI := fun σ H R => tl σ H fun x H1 => ∃ a, x = .ref a ∧ (∃ xs, SqL K H1 a xs) ∧ R (Itl K a) H1
def iTup (K : PySem.W.Frag) (tl : TE) : TI := fun σ H R => tl σ H fun x H1 => ∃ a, x = .ref a ∧ (∃ xs, SqT K H1 a xs) ∧ R (Itt K a) H1
theorem pi_list {l : Expr} {tl : TE} (hl : PE X l tl) : PI X tg l (iList X.K tl) := by
 intro pins s σ H R I h
 refine thn (hl pins s σ H _ I h) fun v s1 ⟨x, H1, I1, r1, q1⟩ => ?_
 obtain ⟨a, e, ⟨xs, hq⟩, q⟩ := q1
 subst e
 cases r1
 obtain ⟨its, rv, p, hz⟩ := I1.list hq
 refine wpAny_pyIter_list p.isList ?_
 refine ⟨s1.heap.objs.size, [s1.heap.objs.size], _, _, H1, rfl, I1.kept (t' := s1.toks) fun b o e => Heap.get?_push_of_some _ e, turn_list a _, ⟨_, Heap.get?_push_size _ rfl, rfl, rfl⟩, fun b hb => ?_, q⟩
 have e : b = s1.heap.objs.size := by simpa using hb
 subst e
 exact I1.fpOk (Nat.le_refl _) (I1.hok.fresh (Nat.le_refl _))
theorem pi_tup {l : Expr} {tl : TE} (hl : PE X l tl) : PI X tg l (iTup X.K tl) := by
 intro pins s σ H R I h
 refine thn (hl pins s σ H _ I h) fun v s1 ⟨x, H1, I1, r1, q1⟩ => ?_
 obtain ⟨a, e, ⟨xs, hq⟩, q⟩ := q1
 subst e
 cases r1
 obtain ⟨its, rv, p, hz⟩ := I1.tuple hq
 refine wpAny_pyIter_tuple (show s1.heap.IsTuple a its.toArray from p) ?_
 refine ⟨s1.heap.objs.size, [s1.heap.objs.size], _, _, H1, rfl, I1.kept (t' := s1.toks) fun b o e => Heap.get?_push_of_some _ e, turn_tuple a _, ⟨_, Heap.get?_push_size _ rfl, rfl, rfl⟩, fun b hb => ?_, q⟩
 have e : b = s1.heap.objs.size := by simpa using hb
 subst e
 exact I1.fpOk (Nat.le_refl _) (I1.hok.fresh (Nat.le_refl _))
theorem range_it {pins : List (Addr × Obj)} {σ : St} {H : Hp} {s : Shared} {R : It → Hp → Prop} {E : Value → Shared → Prop} {lo hi : Int} {t u v : Tok} {tk : Nat} (I : Inv X pins σ H s) (h1 : -(2 ^ 62) ≤ lo) (h2 : lo < 2 ^ 62) (h3 : -(2 ^ 62) ≤ hi) (h4 : hi < 2 ^ 62)
  (q : R (Itr lo (hi - lo).toNat) H) : wpAny (model X.prog X.w) X.A (pyIter (.ref s.heap.objs.size)) (PIE X pins σ tg R) E { s with heap := s.heap.push { cls := .type "range", data := .fields #[.int lo t, .int hi u, .int 1 v] }, toks := tk } := by
 refine wpAny_pyIter_range (IsRange.new ..) (small_one h1 h2 h3 h4) ?_
 have I1 : Inv X pins σ H { s with heap := s.heap.push { cls := .type "range", data := .fields #[.int lo t, .int hi u, .int 1 v] }, toks := tk } := I.kept fun b o e => Heap.get?_push_of_some _ e
 refine ⟨(s.heap.push { cls := .type "range", data := .fields #[.int lo t, .int hi u, .int 1 v] }).objs.size, [(s.heap.push { cls := .type "range", data := .fields #[.int lo t, .int hi u, .int 1 v] }).objs.size], _, _, H, rfl,
  I1.kept (t' := tk) fun b o e => Heap.get?_push_of_some _ e, turn_range _ lo (hi - lo).toNat, ?_, fun b hb => ?_, q⟩
 ·have e1 : lo + ((0 : Nat) : Int) * 1 = lo := by simp
  have e2 : (((hi - lo).toNat : Nat) : Int) - ((0 : Nat) : Int) = Builtin.Range.rangeSize lo hi 1 := by rw [rangeSize_one]; split <;> omega
  show IsRangeIter _ _ (lo + ((0 : Nat) : Int) * 1) ((((hi - lo).toNat : Nat) : Int) - ((0 : Nat) : Int)) 1
  rw [e1, e2]
  exact Heap.get?_push_size _ rfl
 ·have e : b = (s.heap.push { cls := .type "range", data := .fields #[.int lo t, .int hi u, .int 1 v] }).objs.size := by simpa using hb
  subst e
  exact I1.fpOk (Nat.le_refl _) (I1.hok.fresh (Nat.le_refl _))
def iRng1 (ta : TA) : TI := fun σ H R => ta σ H fun vs H1 => ∃ j : Int, vs = [.int j] ∧ -(2 ^ 62) ≤ j ∧ j < 2 ^ 62 ∧ R (Itr 0 j.toNat) H1
def iRng2 (ta : TA) : TI := fun σ H R => ta σ H fun vs H1 => ∃ i j : Int, vs = [.int i, .int j] ∧ (-(2 ^ 62) ≤ i ∧ i < 2 ^ 62 ∧ -(2 ^ 62) ≤ j ∧ j < 2 ^ 62) ∧ R (Itr i (j - i).toNat) H1
theorem pi_range1 {a : Expr} {ta : TA} {p pos : Pos} (hg : Gl X "range") (hm : X.mg "range" = none) (ha : PA X [a] ta) (hs : starEach [a] X.env = [(false, eval a X.env)] := by rfl) : PI X tg (.Call (.Name "range" p) [a] [] pos) (iRng1 ta) := by
 intro pins s σ H R I h
 refine Call_ (ld_blt I hg hm boot_range (PyProof.Rows.callWith_type1 (thn (ha pos pins s σ H _ I h) fun us s1 ⟨vs, H1, I1, r1, q1⟩ => ?_) hs rfl))
 obtain ⟨j, e, q1, q2, q⟩ := q1
 subst e
 cases r1 with
 | cons r rr =>
  cases rr
  obtain ⟨t, rfl⟩ := r
  exact call_range_1 (range_it I1 (by omega) (by omega) q1 q2 (by simpa using q))
theorem pi_range2 {a b : Expr} {ta : TA} {p pos : Pos} (hg : Gl X "range") (hm : X.mg "range" = none) (ha : PA X [a, b] ta) (hs : starEach [a, b] X.env = [(false, eval a X.env), (false, eval b X.env)] := by rfl) (hs2 : starEach [b] X.env = [(false, eval b X.env)] := by rfl) :
  PI X tg (.Call (.Name "range" p) [a, b] [] pos) (iRng2 ta) := by
 intro pins s σ H R I h
 refine Call_ (ld_blt I hg hm boot_range (PyProof.Rows.callWith_type1 (thn (ha pos pins s σ H _ I h) fun us s1 ⟨vs, H1, I1, r1, q1⟩ => ?_) (by rw [hs, hs2]) (by rw [hs2]; rfl)))
 obtain ⟨i, j, e, ⟨q1, q2, q3, q4⟩, q⟩ := q1
 subst e
 cases r1 with
 | cons r rr =>
  cases rr with
  | cons r' rr =>
   cases rr
   obtain ⟨t, rfl⟩ := r
   obtain ⟨t', rfl⟩ := r'
   exact call_range_2 (range_it I1 q1 q2 q3 q4 q)
def tFor (wi : TI) (g : TG) (tb : TS) : TS := fun D σ H => wi σ H fun J H1 => ∃ W : Nat → Nat → St → Hp → Prop, (∃ m, W 0 m σ H1) ∧ ∀ i m σ H, W i m σ H →
 (J.stop i H ∧ D.nx σ H) ∨ (J.go i H ∧ ∃ N : St → Hp → Prop, (∀ σ' H', N σ' H' → ∃ m', m' < m ∧ W (i + 1) m' σ' H') ∧ ∀ x H', J.yld i H x H' → g x σ H' fun σ2 H2 => tb { D with nx := N, ct := N, bk := D.nx } σ2 H2)
def pinsAt (fp : List Addr) (h : Heap) : List (Addr × Obj) := fp.filterMap fun b => (h.get? b).map fun o => (b, o)
theorem mem_pinsAt {fp : List Addr} {h : Heap} {b : Addr} {o : Obj} (hb : b ∈ fp) (e : h.get? b = some o) : (b, o) ∈ pinsAt fp h := List.mem_filterMap.mpr ⟨b, hb, by rw [e]; rfl⟩
theorem of_pinsAt {fp : List Addr} {h : Heap} {p : Addr × Obj} (hp : p ∈ pinsAt fp h) : p.1 ∈ fp ∧ h.get? p.1 = some p.2 := by
 obtain ⟨b, hb, e⟩ := List.mem_filterMap.mp hp
 cases q : h.get? b with
 | none => rw [q] at e; cases e
 | some o =>
  rw [q] at e
  have e' : (b, o) = p := Option.some.inj e
  subst e'
  exact ⟨hb, q⟩
theorem Inv.pinned {pins : List (Addr × Obj)} {σ : St} {H : Hp} {s : Shared} {fp : List Addr} (I : Inv X pins σ H s) (hf : ∀ b ∈ fp, FpOk X pins H b) (ho : ∀ b ∈ fp, ∃ o, s.heap.get? b = some o ∧ ∀ v, o.data ≠ .cell v) : Inv X (pins ++ pinsAt fp s.heap) σ H s :=
 I.pins_of fun p hp => (List.mem_append.mp hp).elim (fun z => I.pin p (List.mem_append_right _ z)) fun z => by
  obtain ⟨hb, e⟩ := of_pinsAt z
  obtain ⟨f0, f1, f2, _⟩ := hf p.1 hb
  obtain ⟨o, e', d⟩ := ho p.1 hb
  rw [e] at e'; cases e'
  exact ⟨e, f0, f1, f2, d⟩
theorem Inv.unpinned {pins pl : List (Addr × Obj)} {σ : St} {H : Hp} {s : Shared} (I : Inv X (pins ++ pl) σ H s) : Inv X pins σ H s := I.pins_of fun p hp => I.pin p (List.mem_append_right _ (List.mem_append_left _ hp))
theorem ps_for {iter : Expr} {body : List Stmt} {wi : TI} {g : TG} {tb : TS} {pos : Pos} (hp : PassesOwn (model X.prog X.w) X.A X.env X.xe) (hc : X.calm = true) (hi : PI X tg iter wi) (hg : PG X tg g) (hb : PSs X body tb)
  (hs : ∀ x, foldedSetIterable iter X.env x = pure x := by intro _; rfl) : PS X (.For tg iter body [] pos) (tFor wi g tb) := by
 intro pins s σ H D I h
 refine wpAny_For (thn (hi pins s σ H _ I h) fun v s1 h1 => thn h1 fun itv s2 h2 => ?_) hs
 obtain ⟨it, fp, tn, J, H2, e, I2, T, st2, f2, W, ⟨m0, w0⟩, turn⟩ := h2
 subst e
 have stat : ∀ {H' : Hp}, (∀ b ∈ fp, H' b = none) → ∀ b ∈ fp, FpOk X pins H' b := fun hn b hb => ⟨hn b hb, (f2 b hb).2⟩
 refine codeAny_forLoop_any (fun n s' => ∃ i σ' H', Inv X pins σ' H' s' ∧ tn i s'.heap ∧ (∀ b ∈ fp, H' b = none) ∧ W i n σ' H') ?_ m0 ⟨0, σ, H2, I2, st2, fun b hb => (f2 b hb).1, w0⟩
 rintro n s3 ⟨i, σ3, H3, I3, st3, fr3, w3⟩
 rcases turn i n σ3 H3 w3 with ⟨stop, qn⟩ | ⟨go, N, hN, step⟩
 ·refine wpAny_passesOwn hp (thn (T.done X rfl rfl rfl hc i pins s3 σ3 H3 X.xe I3 (stat fr3) st3 stop) fun r s4 ⟨hr, I4⟩ => ?_)
  subst hr
  exact wpAny_execs_nil ⟨σ3, H3, I4, qn⟩
 ·refine wpAny_passesOwn hp (thn (T.item X rfl rfl rfl hc i pins s3 σ3 H3 X.xe I3 (stat fr3) st3 go) fun r s4 ⟨u, hr, h4⟩ => ?_)
  subst hr
  refine wpAny_passesOwn hp (thn h4 fun _ s5 ⟨x, H5, I5, r5, y5, st5, fr5⟩ => ?_)
  have I5' := I5.pinned (stat fr5) (T.obj _ _ st5)
  refine wpAny_passesOwn hp (thn (hg _ s5 σ3 H5 x u _ I5' r5 (step x H5 y5)) fun _ s6 ⟨σ6, H6, I6, q6⟩ => ?_)
  refine wpAny_passesOwn hp (thn (hb _ s6 σ6 H6 _ I6 q6) fun f s7 q7 => ?_)
  have again : ∀ {σ7 : St} {H7 : Hp}, Inv X (pins ++ pinsAt fp s5.heap) σ7 H7 s7 → N σ7 H7 → ∃ m, m < n ∧ ∃ i σ' H', Inv X pins σ' H' s7 ∧ tn i s7.heap ∧ (∀ b ∈ fp, H' b = none) ∧ W i m σ' H' := fun {σ7 H7} I7 n7 => by
   obtain ⟨m', hm, w7⟩ := hN σ7 H7 n7
   refine ⟨m', hm, i + 1, σ7, H7, I7.unpinned, T.keep _ _ _ st5 fun b hb o e => (I7.pin (b, o) (List.mem_append_right _ (List.mem_append_right _ (mem_pinsAt hb e)))).1, fun b hb => ?_, w7⟩
   obtain ⟨o, e, d⟩ := T.obj _ _ st5 b hb
   exact (I7.pin (b, o) (List.mem_append_right _ (List.mem_append_right _ (mem_pinsAt hb e)))).2.1
  cases f with
  | next => obtain ⟨σ7, H7, I7, n7⟩ := q7; exact again I7 n7
  | cont => obtain ⟨σ7, H7, I7, n7⟩ := q7; exact again I7 n7
  | brk => obtain ⟨σ7, H7, I7, q7⟩ := q7; exact ⟨σ7, H7, I7.unpinned, q7⟩
  | ret v => obtain ⟨x7, σ7, H7, I7, r7, q7⟩ := q7; exact ⟨x7, σ7, H7, I7.unpinned, r7, q7⟩
end
theorem for_list {K : PySem.W.Frag} {a : Addr} {xs : List V} {g : TG} {tb : TS} {D : Ends} {σ : St} {H : Hp} (Pv : Nat → St → Hp → Prop) (h0 : Pv 0 σ H) (hl : ∀ i σ H, i ≤ xs.length → Pv i σ H → SqL K H a xs)
  (hs : ∀ i x σ H, xs[i]? = some x → Pv i σ H → g x σ H fun σ2 H2 => tb { D with nx := Pv (i + 1), ct := Pv (i + 1), bk := D.nx } σ2 H2) (hd : ∀ σ H, Pv xs.length σ H → D.nx σ H) :
  ∃ W : Nat → Nat → St → Hp → Prop, (∃ m, W 0 m σ H) ∧ ∀ i m σ H, W i m σ H →
   ((Itl K a).stop i H ∧ D.nx σ H) ∨ ((Itl K a).go i H ∧ ∃ N : St → Hp → Prop, (∀ σ' H', N σ' H' → ∃ m', m' < m ∧ W (i + 1) m' σ' H') ∧ ∀ x H', (Itl K a).yld i H x H' → g x σ H' fun σ2 H2 => tb { D with nx := N, ct := N, bk := D.nx } σ2 H2) := by
 refine ⟨fun i m σ H => m = xs.length - i ∧ i ≤ xs.length ∧ Pv i σ H, ⟨xs.length, by simp, Nat.zero_le _, h0⟩, ?_⟩
 rintro i m σ H ⟨rfl, hi, p⟩
 have q := hl i σ H hi p
 by_cases hlt : i < xs.length
 ·refine .inr ⟨⟨xs, xs[i], q, by simp [hlt]⟩, Pv (i + 1), fun σ' H' p' => ⟨xs.length - (i + 1), by omega, rfl, hlt, p'⟩, fun x H' y => ?_⟩
  obtain ⟨e, y⟩ := y
  subst e
  exact hs i x σ _ (y xs q) p
 ·have e : i = xs.length := by omega
  subst e
  exact .inl ⟨⟨xs, q, Nat.le_refl _⟩, hd σ H p⟩
theorem for_tup {K : PySem.W.Frag} {a : Addr} {xs : List V} {g : TG} {tb : TS} {D : Ends} {σ : St} {H : Hp} (Pv : Nat → St → Hp → Prop) (h0 : Pv 0 σ H) (hl : ∀ i σ H, i ≤ xs.length → Pv i σ H → SqT K H a xs)
  (hs : ∀ i x σ H, xs[i]? = some x → Pv i σ H → g x σ H fun σ2 H2 => tb { D with nx := Pv (i + 1), ct := Pv (i + 1), bk := D.nx } σ2 H2) (hd : ∀ σ H, Pv xs.length σ H → D.nx σ H) :
  ∃ W : Nat → Nat → St → Hp → Prop, (∃ m, W 0 m σ H) ∧ ∀ i m σ H, W i m σ H →
   ((Itt K a).stop i H ∧ D.nx σ H) ∨ ((Itt K a).go i H ∧ ∃ N : St → Hp → Prop, (∀ σ' H', N σ' H' → ∃ m', m' < m ∧ W (i + 1) m' σ' H') ∧ ∀ x H', (Itt K a).yld i H x H' → g x σ H' fun σ2 H2 => tb { D with nx := N, ct := N, bk := D.nx } σ2 H2) := by
 refine ⟨fun i m σ H => m = xs.length - i ∧ i ≤ xs.length ∧ Pv i σ H, ⟨xs.length, by simp, Nat.zero_le _, h0⟩, ?_⟩
 rintro i m σ H ⟨rfl, hi, p⟩
 have q := hl i σ H hi p
 by_cases hlt : i < xs.length
 ·refine .inr ⟨⟨xs, xs[i], q, by simp [hlt]⟩, Pv (i + 1), fun σ' H' p' => ⟨xs.length - (i + 1), by omega, rfl, hlt, p'⟩, fun x H' y => ?_⟩
  obtain ⟨e, y⟩ := y
  subst e
  exact hs i x σ _ (y xs q) p
 ·have e : i = xs.length := by omega
  subst e
  exact .inl ⟨⟨xs, q, Nat.le_refl _⟩, hd σ H p⟩
theorem for_range {lo : Int} {n : Nat} {g : TG} {tb : TS} {D : Ends} {σ : St} {H : Hp} (Pv : Nat → St → Hp → Prop) (h0 : Pv 0 σ H)
  (hs : ∀ i σ H, i < n → Pv i σ H → g (.int (lo + i)) σ H fun σ2 H2 => tb { D with nx := Pv (i + 1), ct := Pv (i + 1), bk := D.nx } σ2 H2) (hd : ∀ σ H, Pv n σ H → D.nx σ H) :
  ∃ W : Nat → Nat → St → Hp → Prop, (∃ m, W 0 m σ H) ∧ ∀ i m σ H, W i m σ H →
   ((Itr lo n).stop i H ∧ D.nx σ H) ∨ ((Itr lo n).go i H ∧ ∃ N : St → Hp → Prop, (∀ σ' H', N σ' H' → ∃ m', m' < m ∧ W (i + 1) m' σ' H') ∧ ∀ x H', (Itr lo n).yld i H x H' → g x σ H' fun σ2 H2 => tb { D with nx := N, ct := N, bk := D.nx } σ2 H2) := by
 refine ⟨fun i m σ H => m = n - i ∧ i ≤ n ∧ Pv i σ H, ⟨n, by simp, Nat.zero_le _, h0⟩, ?_⟩
 rintro i m σ H ⟨rfl, hi, p⟩
 by_cases hlt : i < n
 ·refine .inr ⟨hlt, Pv (i + 1), fun σ' H' p' => ⟨n - (i + 1), by omega, rfl, hlt, p'⟩, fun x H' y => ?_⟩
  obtain ⟨e, y⟩ := y
  subst e y
  exact hs i σ _ hlt p
 ·have e : i = n := by omega
  subst e
  exact .inl ⟨Nat.le_refl _, hd σ H p⟩
abbrev R2 := V → V → Hp → VK → Prop
def OpR (X : Cx) (f : Value → Value → Sem Value) (r : R2) : Prop :=
 ∀ (pins : List (Addr × Obj)) (s : Shared) (σ : St) (H : Hp) (x y : V) (v u : Value) (Q : VK), Inv X pins σ H s → RelV x v → RelV y u → r x y H Q →
  wpAny (model X.prog X.w) X.A (f v u) (EP X pins σ Q) X.xe s
def UnR (X : Cx) (f : Value → Sem Value) (r : V → Hp → VK → Prop) : Prop :=
 ∀ (pins : List (Addr × Obj)) (s : Shared) (σ : St) (H : Hp) (x : V) (v : Value) (Q : VK), Inv X pins σ H s → RelV x v → r x H Q →
  wpAny (model X.prog X.w) X.A (f v) (EP X pins σ Q) X.xe s
def CallR (X : Cx) (f : Value) (r : List V → Hp → VK → Prop) : Prop :=
 ∀ (pins : List (Addr × Obj)) (s : Shared) (σ : St) (H : Hp) (xs : List V) (us : List Value) (Q : VK), Inv X pins σ H s → Vals xs us → r xs H Q →
  wpAny (model X.prog X.w) X.A (call f us) (EP X pins σ Q) X.xe s
def TruR (X : Cx) (r : V → Hp → (Bool → Hp → Prop) → Prop) : Prop :=
 ∀ (pins : List (Addr × Obj)) (s : Shared) (σ : St) (H : Hp) (x : V) (v : Value) (Q : Bool → Hp → Prop), Inv X pins σ H s → RelV x v → r x H Q →
  wpAny (model X.prog X.w) X.A (truthy v) (TP X pins σ Q) X.xe s
def tOp (r : R2) (ta tb : TE) : TE := fun σ H Q => ta σ H fun x H1 => tb σ H1 fun y H2 => r x y H2 Q
def tUn (r : V → Hp → VK → Prop) (ta : TE) : TE := fun σ H Q => ta σ H fun x H1 => r x H1 Q
def rI (C : Int → Int → Prop) (g : Int → Int → V) : R2 := fun x y H Q => ∃ i j, x = .int i ∧ y = .int j ∧ C i j ∧ Q (g i j) H
def rI0 (g : Int → Int → V) : R2 := fun x y H Q => ∃ i j, x = .int i ∧ y = .int j ∧ Q (g i j) H
def rU (g : Int → V) : V → Hp → VK → Prop := fun x H Q => ∃ i, x = .int i ∧ Q (g i) H
section
variable {X : Cx} {a b c : Expr} {ta tb tc : TE} {pos : Pos}
theorem binT (ha : PE X a ta) (hb : PE X b tb) {pins : List (Addr × Obj)} {s : Shared} {σ : St} {H : Hp} {R : V → V → Hp → Prop} (I : Inv X pins σ H s)
  (h : ta σ H fun x H1 => tb σ H1 fun y H2 => R x y H2) {Q : Value → Shared → Prop} {f : Value → Value → Sem Value}
  (hf : ∀ v u s2 x y H2, Inv X pins σ H2 s2 → RelV x v → RelV y u → R x y H2 → wpAny (model X.prog X.w) X.A (f v u) Q X.xe s2) :
  wpAny (model X.prog X.w) X.A (eval a X.env) (fun v s₁ => wpAny (model X.prog X.w) X.A (eval b X.env) (fun u s₂ => wpAny (model X.prog X.w) X.A (f v u) Q X.xe s₂) X.xe s₁) X.xe s := by
 refine thn (ha pins s σ H _ I h) fun v s1 ⟨x, H1, I1, r1, q1⟩ => ?_
 refine thn (hb pins s1 σ H1 _ I1 q1) fun u s2 ⟨y, H2, I2, r2, q2⟩ => ?_
 exact hf v u s2 x y H2 I2 r1 r2 q2
theorem pe_op {op : Operator} {r : R2} (ho : OpR X (binaryOp op) r) (ha : PE X a ta) (hb : PE X b tb) : PE X (.BinOp a op b pos) (tOp r ta tb) := by
 intro pins s σ H Q I h
 exact wpAny_BinOp (binT ha hb I h fun v u s2 x y H2 I2 rx ry q => ho pins s2 σ H2 x y v u Q I2 rx ry q)
theorem pe_un {op : UnaryOp} {r : V → Hp → VK → Prop} (ho : UnR X (unaryOp op) r) (ha : PE X a ta) : PE X (.UnaryOp op a pos) (tUn r ta) := by
 intro pins s σ H Q I h
 exact UnaryOp_ (thn (ha pins s σ H _ I h) fun v s1 ⟨x, H1, I1, r1, q1⟩ => ho pins s1 σ H1 x v Q I1 r1 q1)
theorem opI {f : Value → Value → Sem Value} {C : Int → Int → Prop} {g : Int → Int → Int}
  (rule : ∀ (i j : Int) (t u : Tok) (s : Shared) (Q : Value → Shared → Prop) (E : Value → Shared → Prop), C i j → Q (.int (g i j) s.toks) { s with toks := s.toks + 1 } → wpAny (model X.prog X.w) X.A (f (.int i t) (.int j u)) Q E s) :
  OpR X f (rI C fun i j => .int (g i j)) := by
 intro pins s σ H x y v u Q I rx ry h
 obtain ⟨i, j, rfl, rfl, hc, q⟩ := h
 obtain ⟨t, rfl⟩ := rx
 obtain ⟨t', rfl⟩ := ry
 exact rule i j t t' s _ _ hc ⟨.int (g i j), H, I.tok _, ⟨_, rfl⟩, q⟩
theorem opI0 {f : Value → Value → Sem Value} {g : Int → Int → Int}
  (rule : ∀ (i j : Int) (t u : Tok) (s : Shared) (Q : Value → Shared → Prop) (E : Value → Shared → Prop), Q (.int (g i j) s.toks) { s with toks := s.toks + 1 } → wpAny (model X.prog X.w) X.A (f (.int i t) (.int j u)) Q E s) :
  OpR X f (rI0 fun i j => .int (g i j)) := by
 intro pins s σ H x y v u Q I rx ry h
 obtain ⟨i, j, rfl, rfl, q⟩ := h
 obtain ⟨t, rfl⟩ := rx
 obtain ⟨t', rfl⟩ := ry
 exact rule i j t t' s _ _ ⟨.int (g i j), H, I.tok _, ⟨_, rfl⟩, q⟩
theorem opB0 {f : Value → Value → Sem Value} {g : Int → Int → Bool}
  (rule : ∀ (i j : Int) (t u : Tok) (s : Shared) (Q : Value → Shared → Prop) (E : Value → Shared → Prop), Q (.bool (g i j)) s → wpAny (model X.prog X.w) X.A (f (.int i t) (.int j u)) Q E s) :
  OpR X f (rI0 fun i j => .bl (g i j)) := by
 intro pins s σ H x y v u Q I rx ry h
 obtain ⟨i, j, rfl, rfl, q⟩ := h
 obtain ⟨t, rfl⟩ := rx
 obtain ⟨t', rfl⟩ := ry
 exact rule i j t t' s _ _ ⟨.bl (g i j), H, I, rfl, q⟩
def CPow (i j : Int) : Prop := 0 ≤ j ∧ j ≤ 1000000 ∧ i.natAbs < 2 ^ 64
def CMul (i j : Int) : Prop := (-(2 ^ 64) < i ∧ i < 2 ^ 64) ∨ (-(2 ^ 64) < j ∧ j < 2 ^ 64)
theorem CMul.ok {i j : Int} (h : CMul i j) : IntMulOk i j := by
 rcases h with ⟨h1, h2⟩ | ⟨h1, h2⟩
 ·exact .of_left (intBits_le_64 h1 h2)
 ·exact .of_right (intBits_le_64 h1 h2)
theorem op_add : OpR X (binaryOp .Add) (rI0 fun i j => .int (i + j)) := opI0 fun _ _ _ _ _ _ _ q => add_int q
theorem op_sub : OpR X (binaryOp .Sub) (rI0 fun i j => .int (i - j)) := opI0 fun _ _ _ _ _ _ _ q => sub_int q
theorem op_mul : OpR X (binaryOp .Mult) (rI CMul fun i j => .int (i * j)) := opI fun _ _ _ _ _ _ _ hc q => mul_int q hc.ok
theorem op_mod : OpR X (binaryOp .Mod) (rI (fun _ j => 0 < j) fun i j => .int (i % j)) := opI fun i j _ _ _ _ _ hc q => by
 have h1 : (0 : Int) < j := hc
 exact mod_int' (by omega) (by rw [Int.fmod_eq_emod_of_nonneg i (by omega)]; exact q)
theorem op_pow : OpR X (binaryOp .Pow) (rI CPow fun i j => .int (i ^ j.toNat)) := opI fun _ _ _ _ _ _ _ hc q => pow_int_small hc.1 hc.2.1 hc.2.2 q
theorem unI {f : Value → Sem Value} {g : Int → Int}
  (rule : ∀ (i : Int) (t : Tok) (s : Shared) (Q : Value → Shared → Prop) (E : Value → Shared → Prop), Q (.int (g i) s.toks) { s with toks := s.toks + 1 } → wpAny (model X.prog X.w) X.A (f (.int i t)) Q E s) :
  UnR X f (rU fun i => .int (g i)) := by
 intro pins s σ H x v Q I rx h
 obtain ⟨i, rfl, q⟩ := h
 obtain ⟨t, rfl⟩ := rx
 exact rule i t s _ _ ⟨.int (g i), H, I.tok _, ⟨_, rfl⟩, q⟩
theorem un_neg : UnR X (unaryOp .USub) (rU fun i => .int (-i)) := unI fun _ _ _ _ _ q => neg_int q
end
def scal : V → V → Bool
 | .non, .non => true | .non, .int _ => true | .int _, .non => true | .non, .bl _ => true | .bl _, .non => true | .non, .str _ => true | .str _, .non => true
 | .int _, .int _ => true | .bl _, .bl _ => true | .str _, .str _ => true | .byt _, .byt _ => true
 | .int _, .str _ => true | .str _, .int _ => true | .bl _, .str _ => true | .str _, .bl _ => true
 | _, _ => false
def rEq : R2 := fun x y H Q => scal x y = true ∧ Q (.bl (decide (x = y))) H
def rNe : R2 := fun x y H Q => scal x y = true ∧ Q (.bl (!decide (x = y))) H
theorem dec_int {i j : Int} : decide (V.int i = V.int j) = (i == j) := by
 rw [Bool.eq_iff_iff]
 simp
theorem dec_bl {i j : Bool} : decide (V.bl i = V.bl j) = (i == j) := by
 rw [Bool.eq_iff_iff]
 simp
theorem dec_str {i j : Str} : decide (V.str i = V.str j) = (i == j) := by
 rw [Bool.eq_iff_iff]
 simp
theorem dec_byt {i j : Array UInt8} : decide (V.byt i = V.byt j) = (i.toList == j.toList) := by
 rw [Bool.eq_iff_iff]
 cases i
 cases j
 simp
section
variable {X : Cx} {a b c : Expr} {ta tb tc : TE} {pos : Pos}
theorem fin_bl {pins : List (Addr × Obj)} {σ : St} {H : Hp} {s : Shared} {Q : VK} {k k' : Bool} (I : Inv X pins σ H s) (q : Q (.bl k) H) (e : k = k') : EP X pins σ Q (.bool k') s := by
 subst e
 exact ⟨.bl k, H, I, rfl, q⟩
theorem op_eq : OpR X (compareOp .Eq) rEq := by
 intro pins s σ H x y v u Q I rx ry h
 obtain ⟨hs, q⟩ := h
 cases x with
 | non =>
  cases rx
  cases y with
  | non => cases ry; exact PySem.EqNone.eq_none_none (fin_bl I q (by simp))
  | bl j => cases ry; exact PySem.EqNone.eq_none_bool (fin_bl I q (by simp))
  | int j => obtain ⟨t', rfl⟩ := ry; exact PySem.EqNone.eq_none_int (fin_bl I q (by simp))
  | str j => obtain ⟨t', rfl⟩ := ry; exact PySem.EqNone.eq_none_str (fin_bl I q (by simp))
  | _ => exact absurd (show false = true from hs) Bool.false_ne_true
 | bl i =>
  cases rx
  cases y with
  | non => cases ry; exact PySem.EqNone.eq_bool_none (fin_bl I q (by simp))
  | bl j => cases ry; exact eq_bool (fin_bl I q dec_bl)
  | str j => obtain ⟨t', rfl⟩ := ry; exact PySem.EqMixed.eq_bool_str (fin_bl I q (by simp))
  | _ => exact absurd (show false = true from hs) Bool.false_ne_true
 | int i =>
  obtain ⟨t, rfl⟩ := rx
  cases y with
  | non => cases ry; exact PySem.EqNone.eq_int_none (fin_bl I q (by simp))
  | int j => obtain ⟨t', rfl⟩ := ry; exact eq_int (fin_bl I q dec_int)
  | str j => obtain ⟨t', rfl⟩ := ry; exact PySem.EqMixed.eq_int_str (fin_bl I q (by simp))
  | _ => exact absurd (show false = true from hs) Bool.false_ne_true
 | str i =>
  obtain ⟨t, rfl⟩ := rx
  cases y with
  | non => cases ry; exact PySem.EqNone.eq_str_none (fin_bl I q (by simp))
  | bl j => cases ry; exact PySem.EqMixed.eq_str_bool (fin_bl I q (by simp))
  | int j => obtain ⟨t', rfl⟩ := ry; exact PySem.EqMixed.eq_str_int (fin_bl I q (by simp))
  | str j => obtain ⟨t', rfl⟩ := ry; exact eq_str (fin_bl I q dec_str)
  | _ => exact absurd (show false = true from hs) Bool.false_ne_true
 | byt i =>
  obtain ⟨t, rfl⟩ := rx
  cases y with
  | byt j => obtain ⟨t', rfl⟩ := ry; exact PySem.W.eq_bytes (fin_bl I q dec_byt)
  | _ => exact absurd (show false = true from hs) Bool.false_ne_true
 | _ => cases y <;> exact absurd (show false = true from hs) Bool.false_ne_true
theorem op_ne : OpR X (compareOp .NotEq) rNe := by
 intro pins s σ H x y v u Q I rx ry h
 obtain ⟨hs, q⟩ := h
 cases x with
 | non =>
  cases rx
  cases y with
  | non => cases ry; exact PySem.EqNone.ne_none_none (fin_bl I q (by simp))
  | bl j => cases ry; exact PySem.EqNone.ne_none_bool (fin_bl I q (by simp))
  | int j => obtain ⟨t', rfl⟩ := ry; exact PySem.EqNone.ne_none_int (fin_bl I q (by simp))
  | str j => obtain ⟨t', rfl⟩ := ry; exact PySem.EqNone.ne_none_str (fin_bl I q (by simp))
  | _ => exact absurd (show false = true from hs) Bool.false_ne_true
 | bl i =>
  cases rx
  cases y with
  | non => cases ry; exact PySem.EqNone.ne_bool_none (fin_bl I q (by simp))
  | bl j => cases ry; exact ne_bool (fin_bl I q (congrArg not dec_bl))
  | str j => obtain ⟨t', rfl⟩ := ry; exact PySem.EqMixed.ne_bool_str (fin_bl I q (by simp))
  | _ => exact absurd (show false = true from hs) Bool.false_ne_true
 | int i =>
  obtain ⟨t, rfl⟩ := rx
  cases y with
  | non => cases ry; exact PySem.EqNone.ne_int_none (fin_bl I q (by simp))
  | int j => obtain ⟨t', rfl⟩ := ry; exact ne_int (fin_bl I q (congrArg not dec_int))
  | str j => obtain ⟨t', rfl⟩ := ry; exact PySem.EqMixed.ne_int_str (fin_bl I q (by simp))
  | _ => exact absurd (show false = true from hs) Bool.false_ne_true
 | str i =>
  obtain ⟨t, rfl⟩ := rx
  cases y with
  | non => cases ry; exact PySem.EqNone.ne_str_none (fin_bl I q (by simp))
  | bl j => cases ry; exact PySem.EqMixed.ne_str_bool (fin_bl I q (by simp))
  | int j => obtain ⟨t', rfl⟩ := ry; exact PySem.EqMixed.ne_str_int (fin_bl I q (by simp))
  | str j => obtain ⟨t', rfl⟩ := ry; exact ne_str (fin_bl I q (congrArg not dec_str))
  | _ => exact absurd (show false = true from hs) Bool.false_ne_true
 | byt i =>
  obtain ⟨t, rfl⟩ := rx
  cases y with
  | byt j => obtain ⟨t', rfl⟩ := ry; exact PySem.W.ne_bytes (fin_bl I q (congrArg not dec_byt))
  | _ => exact absurd (show false = true from hs) Bool.false_ne_true
 | _ => cases y <;> exact absurd (show false = true from hs) Bool.false_ne_true
theorem op_lt : OpR X (compareOp .Lt) (rI0 fun i j => .bl (decide (i < j))) := opB0 fun _ _ _ _ _ _ _ q => lt_int q
theorem op_gt : OpR X (compareOp .Gt) (rI0 fun i j => .bl (decide (j < i))) := opB0 fun _ _ _ _ _ _ _ q => gt_int q
theorem op_ge : OpR X (compareOp .GtE) (rI0 fun i j => .bl (decide (j ≤ i))) := opB0 fun _ _ _ _ _ _ _ q => ge_int q
theorem op_isN : OpR X (compareOp .Is) (fun x y H Q => y = .non ∧ Q (.bl (decide (x = .non))) H) := by
 intro pins s σ H x y v u Q I rx ry h
 obtain ⟨rfl, q⟩ := h
 cases ry
 refine is_none_gen (fin_bl I q ?_)
 cases x <;> first
  | (cases rx; rfl)
  | (obtain ⟨t, rfl⟩ := rx; rfl)
theorem op_notN : OpR X (compareOp .IsNot) (fun x y H Q => y = .non ∧ Q (.bl (!decide (x = .non))) H) := by
 intro pins s σ H x y v u Q I rx ry h
 obtain ⟨rfl, q⟩ := h
 cases ry
 refine isnot_none_gen (fin_bl I q ?_)
 cases x <;> first
  | (cases rx; rfl)
  | (obtain ⟨t, rfl⟩ := rx; rfl)
theorem nomark (b : Expr) {op : CmpOp} (h : op ≠ .In := by decide) (h2 : op ≠ .NotIn := by decide) : behindInMarks op b = false := by
 have e1 : (op == CmpOp.In) = false := by cases op <;> first | rfl | exact absurd rfl h
 have e2 : (op == CmpOp.NotIn) = false := by cases op <;> first | rfl | exact absurd rfl h2
 cases b <;> simp [behindInMarks, e1, e2]
theorem pe_cmpR {op : CmpOp} {r : R2} (ho : OpR X (compareOp op) r) (ha : PE X a ta) (hb : PE X b tb) (hm : behindInMarks op b = false) : PE X (.Compare a [op] [b] pos) (tOp r ta tb) := by
 intro pins s σ H Q I h
 exact wpAny_Compare1 (binT ha hb I h fun v u s2 x y H2 I2 rx ry q => ho pins s2 σ H2 x y v u Q I2 rx ry q) hm
def tTest (t : TE) : TT := fun σ H Q => t σ H fun x H' => ∃ k, x = .bl k ∧ Q k H'
theorem pt_cmpR {op : CmpOp} {r : R2} (ho : OpR X (compareOp op) r) (ha : PE X a ta) (hb : PE X b tb) (hm : behindInMarks op b = false) : PT X (.Compare a [op] [b] pos) (tTest (tOp r ta tb)) := by
 intro pins s σ H Q I h
 refine wpAny_isTrue_Compare1 (thn (ha pins s σ H _ I h) fun v s1 ⟨x, H1, I1, r1, q1⟩ => thn (hb pins s1 σ H1 _ I1 q1) fun u s2 ⟨y, H2, I2, r2, q2⟩ =>
  thn (ho pins s2 σ H2 x y v u _ I2 r1 r2 q2) fun c s3 ⟨z, H3, I3, r3, k, e, q3⟩ => ?_) hm
 subst e
 cases r3
 exact wpAny_truthy_bool ⟨H3, I3, q3⟩
def TruV (K : PySem.W.Frag) (x : V) (H : Hp) (k : Bool) : Prop :=
 match x with
 | .non => k = false
 | .bl b => k = b
 | .int i => k = (i != 0)
 | .str y => y.length ≤ sizeLine ∧ k = ((y.length : Int) != 0)
 | .byt y => y.size ≤ sizeLine ∧ k = ((y.size : Int) != 0)
 | .ref p => (∃ xs, SqL K H p xs ∧ k = !xs.isEmpty) ∨ (∃ xs, SqT K H p xs ∧ k = !xs.isEmpty) ∨ ∃ kvs, H p = some (.dK kvs) ∧ k = !kvs.isEmpty
 | _ => False
theorem isEmpty_kv {κ : Type} {kvs : List (κ × V)} {vs : List (κ × Value)} (r : KV kvs vs) : (!vs.isEmpty) = !kvs.isEmpty := by
 cases r <;> rfl
theorem isEmpty_of {xs : List V} {its : List Value} (r : Vals xs its) : (!its.toArray.isEmpty) = !xs.isEmpty := by
 cases r <;> simp
theorem line63 : (sizeLine : Nat) < 2 ^ 63 := by rw [sizeLine_eq]; decide
theorem tru_ok : TruR X (fun x H Q => ∃ k, TruV X.K x H k ∧ Q k H) := by
 intro pins s σ H x v Q I rx h
 obtain ⟨k, e, q⟩ := h
 have hl := line63
 have hs : sizeLine = 16777216 := sizeLine_eq
 cases x with
 | non =>
  cases rx
  have e' : k = false := e
  subst e'
  exact truthy_none ⟨H, I, q⟩
 | bl b =>
  cases rx
  have e' : k = b := e
  subst e'
  exact wpAny_truthy_bool ⟨H, I, q⟩
 | int i =>
  obtain ⟨t, rfl⟩ := rx
  have e' : k = (i != 0) := e
  subst e'
  exact PySem.P.truthy_int ⟨H, I, q⟩
 | str y =>
  obtain ⟨t, rfl⟩ := rx
  obtain ⟨hy, e'⟩ : y.length ≤ sizeLine ∧ k = ((y.length : Int) != 0) := e
  subst e'
  exact PySem.P.truthy_str (by omega) ⟨H, I.tok _, q⟩
 | byt y =>
  obtain ⟨t, rfl⟩ := rx
  obtain ⟨hy, e'⟩ : y.size ≤ sizeLine ∧ k = ((y.size : Int) != 0) := e
  subst e'
  exact PySem.W.truthy_bytes (by omega) ⟨H, I.tok _, q⟩
 | ref p =>
  cases rx
  have e' : (∃ xs, SqL X.K H p xs ∧ k = !xs.isEmpty) ∨ (∃ xs, SqT X.K H p xs ∧ k = !xs.isEmpty) ∨ ∃ kvs, H p = some (.dK kvs) ∧ k = !kvs.isEmpty := e
  rcases e' with ⟨xs, hx, e'⟩ | ⟨xs, hx, e'⟩ | ⟨kvs, hx, e'⟩
  ·subst e'
   obtain ⟨its, r, pl, hz⟩ := I.list hx
   have hlen := r.length
   exact wpAny_truthy_list pl.isList (by simp only [List.size_toArray]; omega) ⟨H, I.tok _, by rw [isEmpty_of r]; exact q⟩
  ·subst e'
   obtain ⟨its, r, pl, hz⟩ := I.tuple hx
   have hlen := r.length
   exact truthy_tuple pl (by simp only [List.size_toArray]; omega) ⟨H, I.tok _, by rw [isEmpty_of r]; exact q⟩
  ·subst e'
   obtain ⟨hz, hS, vs, r, m⟩ : kvs.length ≤ sizeLine ∧ (p == sysModules) = false ∧ ∃ vs, KV kvs vs ∧ s.heap.DictOf (mixKind X.prog X.w) p vs := I.hok p _ hx
   have hlen : kvs.length = vs.length := Paired.length r
   exact wpAny_truthy_dict hS m (by omega) ⟨H, I.tok _, by rw [isEmpty_kv r]; exact q⟩
 | _ => exact (show False from e).elim
theorem pt_truth (ha : PE X a ta) (he : ∀ whole, isTrue a X.env whole = (do let v ← whole; standAt a.pos; holding [v] (truthy v))) :
  PT X a (fun σ H Q => ta σ H fun x H' => ∃ k, TruV X.K x H' k ∧ Q k H') := by
 intro pins s σ H Q I h
 exact isTrue_plain (thn (ha pins s σ H _ I h) fun v s1 ⟨x, H1, I1, r1, q1⟩ => tru_ok pins s1 σ H1 x v Q I1 r1 q1) (he _)
theorem op_add_str : OpR X (binaryOp .Add) (fun x y H Q => ∃ i j, x = .str i ∧ y = .str j ∧ i.length + j.length ≤ sizeLine ∧ Q (.str (i ++ j)) H) := by
 intro pins s σ H x y v u Q I rx ry h
 obtain ⟨i, j, rfl, rfl, hz, q⟩ := h
 obtain ⟨t, rfl⟩ := rx
 obtain ⟨t', rfl⟩ := ry
 exact add_str (fun t' tk => ⟨.str (i ++ j), H, I.tok _, ⟨_, rfl⟩, q⟩) hz
theorem vals1 {x : V} {us : List Value} (r : Vals [x] us) : ∃ u, us = [u] ∧ RelV x u := by
 cases r with
 | cons r1 r2 => cases r2; exact ⟨_, rfl, r1⟩
theorem vals2 {x y : V} {us : List Value} (r : Vals [x, y] us) : ∃ u w', us = [u, w'] ∧ RelV x u ∧ RelV y w' := by
 cases r with
 | cons r1 r2 =>
  cases r2 with
  | cons r3 r4 => cases r4; exact ⟨_, _, rfl, r1, r3⟩
theorem call_min2 (hc : X.calm = true) : CallR X (.builtin "min") (fun xs H Q => ∃ i j, xs = [.int i, .int j] ∧ Q (.int (if j < i then j else i)) H) := by
 intro pins s σ H xs us Q I r h
 obtain ⟨i, j, rfl, q⟩ := h
 obtain ⟨u, w', rfl, ⟨t, rfl⟩, ⟨t', rfl⟩⟩ := vals2 r
 refine min_two_ints (I.ok.hd hc) fun h' tk k => ⟨_, H, I.kept k, ?_, q⟩
 by_cases hj : j < i
 ·rw [if_pos hj, if_pos hj]; exact ⟨_, rfl⟩
 ·rw [if_neg hj, if_neg hj]; exact ⟨_, rfl⟩
theorem call_int1 : CallR X (.type "int") (fun xs H Q => (∃ i, xs = [.int i] ∧ Q (.int i) H) ∨ ∃ k, xs = [.bl k] ∧ Q (.int (if k then 1 else 0)) H) := by
 intro pins s σ H xs us Q I r h
 rcases h with ⟨i, rfl, q⟩ | ⟨k, rfl, q⟩
 ·obtain ⟨u, rfl, t, rfl⟩ := vals1 r
  exact call_int_int ⟨.int i, H, I, ⟨_, rfl⟩, q⟩
 ·obtain ⟨u, rfl, r1⟩ := vals1 r
  cases r1
  exact call_int_bool ⟨.int (if k then 1 else 0), H, I.tok _, ⟨_, rfl⟩, q⟩
def LenV (K : PySem.W.Frag) (x : V) (H : Hp) (n : Nat) : Prop :=
 match x with
 | .str y => y.length ≤ sizeLine ∧ n = y.length
 | .byt y => y.size ≤ sizeLine ∧ n = y.size
 | .ref p => (∃ xs, SqL K H p xs ∧ n = xs.length) ∨ ∃ xs, SqT K H p xs ∧ n = xs.length
 | _ => False
theorem call_len : CallR X (.builtin "len") (fun xs H Q => ∃ x n, xs = [x] ∧ LenV X.K x H n ∧ Q (.int n) H) := by
 intro pins s σ H xs us Q I r h
 obtain ⟨x, n, rfl, e, q⟩ := h
 obtain ⟨u, rfl, rx⟩ := vals1 r
 have hl := line63
 have hs : sizeLine = 16777216 := sizeLine_eq
 cases x with
 | str y =>
  obtain ⟨t, rfl⟩ := rx
  obtain ⟨hy, e'⟩ : y.length ≤ sizeLine ∧ n = y.length := e
  subst e'
  exact len_str (by omega) ⟨.int _, H, I.tok _, ⟨_, rfl⟩, q⟩
 | byt y =>
  obtain ⟨t, rfl⟩ := rx
  obtain ⟨hy, e'⟩ : y.size ≤ sizeLine ∧ n = y.size := e
  subst e'
  exact PySem.W.len_bytes (by omega) ⟨.int _, H, I.tok _, ⟨_, rfl⟩, q⟩
 | ref p =>
  cases rx
  have e' : (∃ xs, SqL X.K H p xs ∧ n = xs.length) ∨ ∃ xs, SqT X.K H p xs ∧ n = xs.length := e
  rcases e' with ⟨xs, hx, e'⟩ | ⟨xs, hx, e'⟩
  ·subst e'
   obtain ⟨its, r', pl, hz⟩ := I.list hx
   have hlen := r'.length
   exact Calls.call_len_list pl.isList (by simp only [List.size_toArray]; omega) ⟨.int xs.length, H, I.tok _, ⟨_, by simp only [List.size_toArray]; rw [hlen]⟩, q⟩
  ·subst e'
   obtain ⟨its, r', pl, hz⟩ := I.tuple hx
   have hlen := r'.length
   exact len_tuple pl (by simp only [List.size_toArray]; omega) ⟨.int xs.length, H, I.tok _, ⟨_, by simp only [List.size_toArray]; rw [hlen]⟩, q⟩
 | _ => exact (show False from e).elim
end
theorem lookIn_ns {h : Heap} {dx : Addr} {mA : Str → Option Value} (n : h.Ns1 dx mA) : ∃ od, h.get? dx = some od ∧ ∀ name, PySem.W.lookIn name od = some (mA name) := by
 obtain ⟨o, es, ep, ho, hd, hk, _, hm⟩ := n
 refine ⟨o, ho, fun name => ?_⟩
 have e := hm name
 unfold nsFind findBy at e
 rw [← Array.find?_toList] at e
 unfold PySem.W.lookIn
 rw [hd]
 dsimp only
 split
 ·rename_i y q
  rw [q] at e
  exact congrArg some e
 ·rename_i q
  rw [q] at e
  have a : es.toList.any (·.refKey) = false := by
   rw [List.any_eq_false]
   intro y hy
   obtain ⟨z, t, hkey⟩ := hk y (Array.mem_toList_iff.mp hy)
   simp [DictEntry.refKey, hkey]
  have a' : ¬ es.toList.any (·.refKey) = true := by rw [a]; exact Bool.false_ne_true
  rw [if_neg a']
  exact congrArg some e
theorem RelO.some_of {v : V} {o : Option Value} (r : RelO (some v) o) : ∃ u, o = some u ∧ RelV v u := by
 cases o with
 | none => exact (show False from r).elim
 | some u => exact ⟨u, rfl, r⟩
theorem RelO.none_of {o : Option Value} (r : RelO none o) : o = none := by
 cases o with
 | none => rfl
 | some u => exact (show False from r).elim
theorem handed_of {v : V} {u : Value} (r : RelV v u) : PySem.W.handedIn u = true := by
 cases v with
 | non => cases (show u = Value.none from r); rfl
 | bl b => cases (show u = Value.bool b from r); rfl
 | int i => obtain ⟨t, e⟩ := (show ∃ t, u = Value.int i t from r); cases e; rfl
 | str x => obtain ⟨t, e⟩ := (show ∃ t, u = Value.str x t from r); cases e; rfl
 | byt b => obtain ⟨t, e⟩ := (show ∃ t, u = Value.bytes b t from r); cases e; rfl
 | flt b => obtain ⟨t, e⟩ := (show ∃ t, u = Value.float b t from r); cases e; rfl
 | ref a => cases (show u = Value.ref a from r); rfl
 | ty n => cases (show u = Value.type n from r); rfl
section
variable {X : Cx} {pins : List (Addr × Obj)} {σ : St} {H : Hp} {s : Shared} {a C dx : Addr} {fs : List (Str × V)} {f : Str} {v : V} {A : Around} {E : Value → Shared → Prop}
theorem attr_of {prog : Program} {w : World} {env : Env} {e : Expr} {f : Str} {pos : Pos} {s : Shared} {Q : Value → Shared → Prop} (hb : attributeBase e f env (eval e env) = eval e env)
  (h : wpAny (model prog w) A (eval e env) (fun o s₁ => wpAny (model prog w) A (getAttr o f true) Q E s₁) E s) : wpAny (model prog w) A (eval (.Attribute e f pos) env) Q E s :=
 Attribute_any_ h (by rw [arm_eval_Attribute, hb])
end
structure Room (k : Nat) (A : Around) : Prop where
 hd : A.handled = none
 dp : A.depth + 3 * k + 5 < recursionLimit
 un : A.units + 16 * k + 200 < cLine
 gd : A.guards = some []
theorem Room.mono {j k : Nat} {A : Around} (r : Room k A) (h : j ≤ k) : Room j A := ⟨r.hd, by have := r.dp; omega, by have := r.un; omega, r.gd⟩
theorem Room.deeper {k : Nat} {A : Around} (r : Room (k + 1) A) (env : Env) : Room k (A.deeper env) :=
 ⟨r.hd, by have := r.dp; show A.depth + 1 + 3 * k + 5 < _; omega, by have := r.un; show A.units + 3 + 16 * k + 200 < _; omega, r.gd⟩
theorem make_depth {A : Around} {C : Addr} {us : List Value} {kw : List (Str × Value)} : (A.under (.builtin "type.__call__" ⟨.ref C :: us, kw⟩)).depth = A.depth + 1 := by
 first | rfl | simp [Around.under, Code.weight, Code.isCreation, Code.isGuard, Code.isCaller, Code.frames, Code.isFrame, guardIds]
theorem make_units {A : Around} {C : Addr} {us : List Value} {kw : List (Str × Value)} : (A.under (.builtin "type.__call__" ⟨.ref C :: us, kw⟩)).units = A.units + 1 := by
 first | rfl | simp [Around.under, Code.cUnits, Code.frames, Code.isFrame]
theorem Room.make {k : Nat} {A : Around} (r : Room (k + 1) A) (C : Addr) (us : List Value) (kw : List (Str × Value)) : Room k (A.under (.builtin "type.__call__" ⟨.ref C :: us, kw⟩)) :=
 ⟨r.hd, by have := r.dp; rw [make_depth]; omega, by have := r.un; rw [make_units]; omega, by first | exact r.gd | (show pushGuards _ A.guards = _; rw [r.gd]; rfl) | simp [Around.under, r.gd]⟩
theorem Room.depth {k : Nat} {A : Around} (r : Room k A) : A.depth < recursionLimit := by have := r.dp; omega
theorem Room.units {k : Nat} {A : Around} (r : Room k A) : A.units + 64 < cLine := by have := r.un; omega
def tNil : TA := fun _ H Q => Q [] H
def tCons (ta : TE) (tr : TA) : TA := fun σ H Q => ta σ H fun x H1 => tr σ H1 fun xs H2 => Q (x :: xs) H2
section
variable {X : Cx} {e : Expr} {es : List Expr} {te : TE} {t : TA} {pos : Pos}
theorem pa_nil : PA X [] tNil := fun _ _ _ _ H Q I h => Calls.spliced_nil ⟨[], H, I, .nil, h⟩
theorem pa_cons (ha : PE X e te) (hr : PA X es t) (hs : starEach (e :: es) X.env = (false, eval e X.env) :: starEach es X.env := by rfl) : PA X (e :: es) (tCons te t) := by
 intro pos pins s σ H Q I h
 rw [hs]
 show wpAny _ _ (spliced ((false, eval e X.env) :: backTo pos (starEach es X.env))) _ _ s
 refine Calls.spliced_cons (thn (ha pins s σ H _ I h) fun u s1 ⟨x, H1, I1, r1, q1⟩ => ?_)
 exact thn (hr pos pins s1 σ H1 _ I1 q1) fun us s2 ⟨xs, H2, I2, r2, q2⟩ => ⟨x :: xs, H2, I2, .cons r1 r2, q2⟩
def tTup (t : TA) : TE := fun σ H Q => t σ H fun xs H1 => xs.length ≤ sizeLine ∧ ∀ p, H1 p = none → Q (.ref p) (upd H1 p (.tup xs))
def tLst (t : TA) : TE := fun σ H Q => t σ H fun xs H1 => xs.length ≤ sizeLine ∧ ∀ p, H1 p = none → Q (.ref p) (upd H1 p (.lst xs))
theorem pe_tup {x1} (h : PA X es t) : PE X (.Tuple es x1 pos) (tTup t) := by
 intro pins s σ H Q I hq
 refine wpAny_Tuple_spliced (thn (h pos pins s σ H _ I hq) fun us s1 ⟨xs, H1, I1, r, z, q⟩ => ⟨by rw [← r.length]; exact z, ?_⟩)
 have hf : H1 s1.heap.objs.size = none := I1.hok.fresh (Nat.le_refl _)
 refine ⟨.ref s1.heap.objs.size, upd H1 s1.heap.objs.size (.tup xs), I1.laid (t' := s1.toks) (fun b u e => Heap.get?_push_of_some _ e) (Nat.le_refl _) ?_, rfl, q _ hf⟩
 exact ⟨⟨z, _, Heap.get?_push_size _ rfl, rfl⟩, us, r, ⟨_, Heap.get?_push_size _ rfl, rfl, _, rfl⟩⟩
theorem pe_lst (h : PA X es t) : PE X (.List es pos) (tLst t) := by
 intro pins s σ H Q I hq
 refine wpAny_List_spliced (thn (h pos pins s σ H _ I hq) fun us s1 ⟨xs, H1, I1, r, z, q⟩ => ⟨by rw [← r.length]; exact z, ?_⟩)
 have hf : H1 s1.heap.objs.size = none := I1.hok.fresh (Nat.le_refl _)
 refine ⟨.ref s1.heap.objs.size, upd H1 s1.heap.objs.size (.lst xs), I1.laid (t' := s1.toks) (fun b u e => Heap.get?_push_of_some _ e) (Nat.le_refl _) ?_, rfl, q _ hf⟩
 exact ⟨z, us, 0, r, Heap.get?_push_size _ rfl⟩
end
abbrev Sp := List V → Hp → VK → XK → Prop
abbrev CXT := List Env → Hp → Shared → XK → Value → Shared → Prop
structure Env0 (P : Program) (w : World) (K : PySem.W.Frag) (mg : Str → Option Value) (base : Heap) (A : Around) (outer : List Env) (s : Shared) (H : Hp) : Prop where
 frames : A.frames = some outer
 mod : Mod K mg base
 bs : ∀ b o, base.get? b = some o → s.heap.get? b = some o ∧ H b = none
 bsz : base.objs.size ≤ s.heap.objs.size
 funs : s.heap.FunFrames base outer
 frf : ∀ b ∈ frs outer, H b = none
 hok : HOk P w H s.heap
 bare : AllBare s.gens
def CE (outer : List Env) (P : Program) (w : World) (H : Hp) (s : Shared) (Q : VK) (u : Value) (s' : Shared) : Prop :=
 ∃ v H', s'.os = s.os ∧ AllBare s'.gens ∧ Un (frs outer) [] H H' s.heap s'.heap ∧ HOk P w H' s'.heap ∧ RelV v u ∧ Q v H'
def CR (CX : CXT) (outer : List Env) (P : Program) (w : World) (H : Hp) (s : Shared) (Q : VK) (E : XK) (r : Result) (s' : Shared) : Prop :=
 match r with
 | .ok (.ret u) => CE outer P w H s Q u s'
 | .ok _ => False
 | .error e => CX outer H s E e s'
structure FnOk (P : Program) (w : World) (K : PySem.W.Frag) (mg : Str → Option Value) (base : Heap) (CX : CXT) (k : Nat) (f : Addr) (fd : FuncData) (ps : List Str) (sp : Sp) : Prop where
 len : ∀ vs H Q E, sp vs H Q E → vs.length = ps.length
 run : ∀ (A : Around) (outer : List Env) (s : Shared) (H : Hp) (args : Args) (us : List Value) (vs : List V) (Q : VK) (E : XK), Room k A → Env0 P w K mg base A outer s H → BindsTo s fd args (ps.zip us) → Vals vs us → sp vs H Q E →
  codeAny (model P w) A (.call (.ref f) args) (CR CX outer P w H s Q E) s
theorem Env0.make {P : Program} {w : World} {K : PySem.W.Frag} {mg : Str → Option Value} {base : Heap} {A : Around} {outer : List Env} {s : Shared} {H : Hp} (e : Env0 P w K mg base A outer s H) (C : Addr) (us : List Value) (kw : List (Str × Value)) :
  Env0 P w K mg base (A.under (.builtin "type.__call__" ⟨.ref C :: us, kw⟩)) outer s H := ⟨by first | exact e.frames | (simpa [Around.under, Code.envs, Code.isFrame, pushEnvs] using e.frames), e.mod, e.bs, e.bsz, e.funs, e.frf, e.hok, e.bare⟩
section
variable {X : Cx} {pins : List (Addr × Obj)} {σ : St} {H : Hp} {s s' : Shared}
theorem Inv.env0 (I : Inv X pins σ H s) : Env0 X.prog X.w X.K X.mg X.base X.A X.stack s H :=
 ⟨I.ok.frames, I.ok.mod, I.bs, Nat.le_trans I.ok.bsz I.sz, I.stack, I.stkFree, I.hok, I.bare⟩
theorem Inv.after {Q : VK} {u : Value} (I : Inv X pins σ H s) (h : CE X.stack X.prog X.w H s Q u s') : EP X pins σ Q u s' := by
 obtain ⟨v, H', os, bare, un, hok, r, q⟩ := h
 obtain ⟨hh, g, d, t, os'⟩ := s'
 obtain rfl : os' = s.os := os
 exact ⟨v, H', I.call (h' := hh) (g' := g) (d' := d) (t' := t) (ch := []) un hok bare (fun b z => absurd z (by simp)), r, q⟩
end
def tCall (sp : Sp) (dvs : List V) (E : XK) (t : TA) : TE := fun σ H Q => t σ H fun vs H1 => sp (vs ++ dvs) H1 Q E
def Binds (K : PySem.W.Frag) (fd : FuncData) (ps : List Str) (ds : List Value) : Prop :=
 ∀ (s : Shared) (us : List Value), K.In s.heap → (us ++ ds).length = ps.length → BindsTo s fd ⟨us, []⟩ (ps.zip (us ++ ds))
theorem Binds.all {K : PySem.W.Frag} {fd : FuncData} {ps : List Str} (h : ∀ us : List Value, us.length = ps.length → bindArgs fd ⟨us, []⟩ = pure (ps.zip us)) : Binds K fd ps [] := fun s us _ hl => by
 rw [List.append_nil] at hl ⊢
 exact .of_eq (h us hl)
def Passes (CX : CXT) (X : Cx) (E : XK) : Prop := ∀ (pins : List (Addr × Obj)) (σ : St) (H : Hp) (s : Shared) (e : Value) (s' : Shared), Inv X pins σ H s → CX X.stack H s E e s' → X.xe e s'
section
variable {X : Cx} {CX : CXT} {k : Nat} {f C : Addr} {fd : FuncData} {ps : List Str} {sp : Sp} {dvs : List V} {ds : List Value} {E : XK} {x m : Str} {p pos apos : Pos} {e o : Expr} {es : List Expr} {ta : TE} {t : TA}
theorem run_fn {pins : List (Addr × Obj)} {σ : St} {H : Hp} {s : Shared} {Q : VK} {us : List Value} {vs : List V} (F : FnOk X.prog X.w X.K X.mg X.base CX k f fd ps sp) (hr : Room k X.A) (hb : Binds X.K fd ps ds) (hd : Vals dvs ds) (hx : Passes CX X E)
  (I : Inv X pins σ H s) (r : Vals vs us) (h : sp (vs ++ dvs) H Q E) : wpAny (model X.prog X.w) X.A (call (.ref f) us) (EP X pins σ Q) X.xe s := by
 have r2 : Vals (vs ++ dvs) (us ++ ds) := r.append hd
 have hl : (us ++ ds).length = ps.length := by rw [← r2.length]; exact F.len _ _ _ _ h
 refine wpAny_call (codeAny_mono (F.run X.A X.stack s H ⟨us, []⟩ (us ++ ds) (vs ++ dvs) Q E hr I.env0 (hb s us I.kIn hl) r2 h) fun r s' hq => ?_)
 cases r with
 | error e => exact hx pins σ H s e s' I hq
 | ok fl =>
  cases fl with
  | ret u => exact I.after hq
  | next => exact False.elim hq
  | brk => exact False.elim hq
  | cont => exact False.elim hq
theorem pe_call (F : FnOk X.prog X.w X.K X.mg X.base CX k f fd ps sp) (hr : Room k X.A) (hg : Gl X x) (hm : X.mg x = some (.ref f)) (hk : PySem.W.keepIn X.K (.ref f) = true) (hb : Binds X.K fd ps ds) (hd : Vals dvs ds) (hx : Passes CX X E)
  (ha : PA X (e :: es) t) (hdb : (x == ("__debug__" : Str)) = false := by decide) (he : starEach (e :: es) X.env = (false, eval e X.env) :: starEach es X.env := by rfl) (hpl : (backTo pos (starEach es X.env)).any (·.1) = false := by rfl) :
  PE X (.Call (.Name x p) (e :: es) [] pos) (tCall sp dvs E t) := by
 intro pins s σ H Q I h
 refine wpAny_Call_Name_kw (ld_glob I hg hm ?_ hdb)
 refine PySem.W.callWith_K (h₀ := X.base) I.ok.mod.kin hk (thn (ha pos pins s σ H _ I h) fun us s1 ⟨vs, H1, I1, r, q⟩ => ⟨I1.kIn, ?_⟩) he hpl
 exact run_fn F hr hb hd hx I1 r q
end
structure FnScope (N P : List Str) (sc : Scope) : Prop where
 kind : sc.kind = .function
 co : sc.isCoroutine = false
 gen : sc.isGenerator = false
 nd : N.Nodup
 pre : N.take P.length = P
 par : ∀ x ∈ P, sc.names.lookup x = some .local ∨ sc.names.lookup x = some .cell
 nofree : ∀ y ∈ sc.names, y.2 ≠ .free
theorem bindL_out {kindOf : Str → Option NameKind} {x : Str} : ∀ {binds : List (Str × Value)} {m : Str → Option Value}, (∀ v, (x, v) ∉ binds) → bindL kindOf binds m x = m x
 | [], _, _ => rfl
 | (n, v) :: r, m, h => by
  unfold bindL
  rw [bindL_out fun w hw => h w (List.mem_cons_of_mem _ hw)]
  split
  ·have : x ≠ n := by rintro rfl; exact h v List.mem_cons_self
   simp [this]
  ·rfl
theorem bindC_out {kindOf : Str → Option NameKind} {x : Str} : ∀ {binds : List (Str × Value)} {m : Str → Option Value}, (∀ v, (x, v) ∉ binds) → bindC kindOf binds m x = m x
 | [], _, _ => rfl
 | (n, v) :: r, m, h => by
  unfold bindC
  rw [bindC_out fun w hw => h w (List.mem_cons_of_mem _ hw)]
  split
  ·rfl
  ·have : x ≠ n := by rintro rfl; exact h v List.mem_cons_self
   simp [this]
theorem bindL_get {kindOf : Str → Option NameKind} {x : Str} {v : Value} : ∀ {P : List Str} {vs : List Value} {i : Nat} {m : Str → Option Value}, P.Nodup → P[i]? = some x → vs[i]? = some v → kindOf x = some .local →
  bindL kindOf (P.zip vs) m x = some v
 | [], _, _, _, _, h, _, _ => by simp at h
 | _ :: _, [], _, _, _, _, h, _ => by simp at h
 | p :: P, w :: vs, 0, m, nd, h1, h2, hk => by
  simp at h1 h2; subst h1; subst h2
  show bindL kindOf ((p, w) :: P.zip vs) m p = _
  unfold bindL
  rw [bindL_out fun v hv => (List.nodup_cons.mp nd).1 (List.of_mem_zip hv).1, if_pos hk]
  simp
 | p :: P, w :: vs, i + 1, m, nd, h1, h2, hk => by
  show bindL kindOf ((p, w) :: P.zip vs) m x = _
  unfold bindL
  exact bindL_get (i := i) (List.nodup_cons.mp nd).2 (by simpa using h1) (by simpa using h2) hk
theorem bindC_get {kindOf : Str → Option NameKind} {x : Str} {v : Value} : ∀ {P : List Str} {vs : List Value} {i : Nat} {m : Str → Option Value}, P.Nodup → P[i]? = some x → vs[i]? = some v → kindOf x ≠ some .local →
  bindC kindOf (P.zip vs) m x = some v
 | [], _, _, _, _, h, _, _ => by simp at h
 | _ :: _, [], _, _, _, _, h, _ => by simp at h
 | p :: P, w :: vs, 0, m, nd, h1, h2, hk => by
  simp at h1 h2; subst h1; subst h2
  show bindC kindOf ((p, w) :: P.zip vs) m p = _
  unfold bindC
  rw [bindC_out fun v hv => (List.nodup_cons.mp nd).1 (List.of_mem_zip hv).1, if_neg hk]
  simp
 | p :: P, w :: vs, i + 1, m, nd, h1, h2, hk => by
  show bindC kindOf ((p, w) :: P.zip vs) m x = _
  unfold bindC
  exact bindC_get (i := i) (List.nodup_cons.mp nd).2 (by simpa using h1) (by simpa using h2) hk
def start (N : List Str) (vs : List V) : St := vs.map some ++ List.replicate (N.length - vs.length) none
def cxOf (CX : CXT) (P : Program) (w : World) (K : PySem.W.Frag) (mg : Str → Option Value) (base : Heap) (N : List Str) (qual : Str) (scope : Scope) (f : Addr) (cd : Value) (A : Around) (outer : List Env) (s : Shared) (H : Hp) (E : XK) : Cx where
 prog := P
 w := w
 K := K
 mg := mg
 base := base
 A := A.deeper (envOfC qual scope s.heap.objs.size f cd)
 N := N
 s₀ := s
 H₀ := H
 env := envOfC qual scope s.heap.objs.size f cd
 outer := outer
 stack := envOfC qual scope s.heap.objs.size f cd :: outer
 ex := []
 calm := true
 fn := fun _ => true
 pn := []
 xe := fun e s' => wpAny (model P w) (A.deeper (envOfC qual scope s.heap.objs.size f cd)) (leaving (envOfC qual scope s.heap.objs.size f cd) e) (fun _ s'' => CX outer H s E e s'') (fun e' s'' => CX outer H s E e' s'') s'
theorem cell_has {sc : Scope} {n : Nat} {x : Str} (h : sc.names.lookup x = some .cell) : ∃ c, (cellsFrom n sc.names []).lookup x = some c := by
 have q := PySem.W.cellsFrom_some sc.names n [] (.inl h)
 exact Option.isSome_iff_exists.mp q
theorem inv_start {CX : CXT} {P : Program} {w : World} {K : PySem.W.Frag} {mg : Str → Option Value} {base : Heap} {N ps : List Str} {qual : Str} {scope : Scope} {f : Addr} {cd : Value} {A : Around} {outer : List Env} {s s1 : Shared} {H : Hp} {E : XK} {us : List Value} {vs : List V}
  (S : FnScope N ps scope) (hd : A.handled = none) (e0 : Env0 P w K mg base A outer s H) (hl : vs.length = ps.length) (r : Vals vs us)
  (x : InCallC s s.heap.objs.size (bindL (envOfC qual scope s.heap.objs.size f cd).kindOf (ps.zip us) fun _ => none) (cellsFrom (s.heap.objs.size + 1) scope.names []) (bindC (envOfC qual scope s.heap.objs.size f cd).kindOf (ps.zip us) fun _ => none) s1) :
  Inv (cxOf CX P w K mg base N qual scope f cd A outer s H E) [] (start N vs) H s1 := by
 have hpl : ps.length ≤ N.length := by have := congrArg List.length S.pre; rw [List.length_take] at this; omega
 obtain ⟨h1, tk, rfl, hk⟩ := x.done
 have noA : ∀ b : Addr, b ∉ (cxOf CX P w K mg base N qual scope f cd A outer s H E).ex := fun b z => absurd (show b ∈ ([] : List Addr) from z) (by simp)
 refine ⟨⟨e0.mod, S.kind, rfl, rfl, Nat.le_refl _, fun y z c h1 h2 => ?_, fun y hy => ?_, fun y c _ h => ?_, fun _ => hd, Around.frames_deeper e0.frames, .inr ⟨rfl, rfl⟩, fun b z => absurd z (noA b), e0.bs, e0.bsz, fun b _ _ => noA b, fun b z => absurd z (noA b), e0.funs, e0.frf⟩,
  rfl, e0.bare, Un.kept hk, ⟨_, x.toInCall.ns, fun i y v h1 h2 h3 => ?_⟩, fun y c h => ⟨_, x.cell y c h⟩, e0.hok.fresh (Nat.le_refl _), fun y c h => ?_, fun p hp => absurd (show p ∈ ([] : List (Addr × Obj)) from hp) (by simp), e0.hok.kept hk, ?_⟩
 ·exact name_of_addr x.apart (PySem.mem_of_lookup h1) (PySem.mem_of_lookup h2)
 ·have hy : scope.names.lookup y = some .cell ∨ scope.names.lookup y = some .free := hy
  rcases hy with hy | hy
  ·exact cell_has hy
  ·exact absurd rfl (S.nofree _ (PySem.mem_of_lookup hy))
 ·exact Nat.le_of_lt (x.above y c (PySem.mem_of_lookup h))
 ·have hi : i < vs.length := by
   unfold start at h2
   by_cases hi : i < vs.length
   ·exact hi
   ·rw [List.getElem?_append_right (by simpa using hi)] at h2
    rw [List.getElem?_replicate] at h2
    split at h2 <;> cases h2
  have ha : vs[i]? = some v := by
   unfold start at h2
   rw [List.getElem?_append_left (by simpa using hi), List.getElem?_map] at h2
   cases e : vs[i]? with
   | none => rw [e] at h2; cases h2
   | some a => rw [e] at h2; cases h2; rfl
  obtain ⟨u, hu, rv⟩ := r.get ha
  have hp : ps[i]? = some y := by
   rw [← S.pre, List.getElem?_take_of_lt (by omega)]; exact h1
  have ndP : ps.Nodup := by rw [← S.pre]; exact S.nd.sublist (List.take_sublist _ _)
  refine ⟨u, rv, ?_⟩
  rcases S.par y (List.mem_of_getElem? hp) with k | k
  ·exact .inl ⟨k, bindL_get ndP hp hu k⟩
  ·obtain ⟨c, e⟩ := cell_has (n := s.heap.objs.size + 1) k
   refine .inr ⟨.inl k, c, e, ?_⟩
   have q := x.cell y c e
   rw [bindC_get ndP hp hu (by show scope.names.lookup y ≠ _; rw [k]; decide)] at q
   exact q
 ·exact e0.hok.fresh (Nat.le_of_lt (x.above y c (PySem.mem_of_lookup h)))
 ·unfold start
  show _ = N.length
  rw [List.length_append, List.length_map, List.length_replicate]
  omega
theorem fn_of {CX : CXT} {P : Program} {w : World} {K : PySem.W.Frag} {mg : Str → Option Value} {base : Heap} {k : Nat} {f : Addr} {name qual : Str} {params : Arguments} {body : List Stmt} {scope : Scope} {dV kV doc pm cdv ct oc : Value} {an od : Option Addr}
  {osl : Array (Option Value)} {N ps : List Str} {sp : Sp} (lk : K.lookup f = some ⟨oc, od, .func (PySem.W.fnOf name qual params body scope dV kV doc pm an cdv ct), osl⟩) (hcd : PySem.W.codeIn K cdv qual = true) (S : FnScope N ps scope)
  (len : ∀ vs H Q E, sp vs H Q E → vs.length = ps.length)
  (hbody : ∀ (A : Around) (outer : List Env) (s : Shared) (H : Hp) (vs : List V) (Q : VK) (E : XK), Room k (A.deeper (envOfC qual scope s.heap.objs.size f cdv)) → sp vs H Q E →
   ∃ t, PSs (cxOf CX P w K mg base N qual scope f cdv A outer s H E) body t ∧ t { nx := fun _ H' => Q .non H', rt := Q } (start N vs) H) :
  FnOk P w K mg base CX (k + 1) f (PySem.W.fnOf name qual params body scope dV kV doc pm an cdv ct) ps sp := by
 refine ⟨len, fun A outer s H args us vs Q E hr e0 hb r hsp => ?_⟩
 have hl := len _ _ _ _ hsp
 have KX : K.In s.heap := e0.mod.kin.keeps fun b o e => (e0.bs b o e).1
 have lim : s.heap.NoLimit := e0.mod.nolimit.keeps fun b o e => (e0.bs b o e).1
 have hkind : ∀ y ∈ ps.zip us, scope.names.lookup y.1 = some .local ∨ (scope.names.lookup y.1 = some .cell ∧ ((cellsFrom (s.heap.objs.size + 1) scope.names []).lookup y.1).isSome = true) := fun ⟨n, v⟩ hy => by
  rcases S.par n (List.of_mem_zip hy).1 with q | q
  ·exact .inl q
  ·exact .inr ⟨q, PySem.W.cellsFrom_some _ _ _ (.inl q)⟩
 refine codeAny_call_function hr.depth (KX _ _ lk) rfl S.co S.gen rfl (PySem.W.codeRec_of KX hcd) (hb _ _ _ _ ?_)
 refine wpAny_newFunctionEnv_cells S.kind hkind fun env he s1 x => ?_
 subst he
 refine ⟨lim.keeps x.toInCall.keep, codeAny_func ?_⟩
 obtain ⟨t, ht, hq⟩ := hbody A outer s H vs Q E (hr.deeper _) hsp
 have I : Inv (cxOf CX P w K mg base N qual scope f cdv A outer s H E) [] (start N vs) H s1 := inv_start S hr.hd e0 hl r x
 refine wpAny_mono (ht [] s1 (start N vs) H _ I hq) (fun fl s' hs => ?_) fun e s' hs => hs
 have fin : ∀ {σ' : St} {H' : Hp} {v : V} {u : Value}, Inv (cxOf CX P w K mg base N qual scope f cdv A outer s H E) [] σ' H' s' → RelV v u → Q v H' → CE outer P w H s Q u s' :=
  fun {σ' H' v u} J rv q => ⟨v, H', J.os, J.bare, J.base, J.hok, rv, q⟩
 cases fl with
 | ret u =>
  obtain ⟨v, σ', H', J, rv, q⟩ := hs
  exact fin J rv q
 | next =>
  obtain ⟨σ', H', J, q⟩ := hs
  exact fin (v := V.non) (u := Value.none) J rfl q
 | brk =>
  obtain ⟨_, _, _, q⟩ := hs
  exact False.elim q
 | cont =>
  obtain ⟨_, _, _, q⟩ := hs
  exact False.elim q
section
variable {X : Cx} {x : Str} {p pos : Pos} {e : Expr} {es : List Expr} {t : TA} {id T : String} {r : List V → Hp → VK → Prop}
def tCB (r : List V → Hp → VK → Prop) (t : TA) : TE := fun σ H Q => t σ H fun vs H1 => r vs H1 Q
theorem pe_callB (hc : CallR X (.builtin id) r) (hg : Gl X x) (hm : X.mg x = none) (hv : bootBuiltins x = some (.builtin id)) (ha : PA X (e :: es) t) (hn : x ≠ "__name__" := by decide) (hdb : (x == ("__debug__" : Str)) = false := by decide)
  (he : starEach (e :: es) X.env = (false, eval e X.env) :: starEach es X.env := by rfl) (hpl : (backTo pos (starEach es X.env)).any (·.1) = false := by rfl) : PE X (.Call (.Name x p) (e :: es) [] pos) (tCB r t) := by
 intro pins s σ H Q I h
 refine wpAny_Call_Name_kw (ld_blt I hg hm hv ?_ hn hdb)
 exact PyProof.Rows.callWith_builtin1 (thn (ha pos pins s σ H _ I h) fun us s1 ⟨vs, H1, I1, r1, q1⟩ => hc pins s1 σ H1 vs us Q I1 r1 q1) he hpl
theorem pe_callTy (hc : CallR X (.type T) r) (hg : Gl X x) (hm : X.mg x = none) (hv : bootBuiltins x = some (.type T)) (ha : PA X (e :: es) t) (hn : x ≠ "__name__" := by decide) (hdb : (x == ("__debug__" : Str)) = false := by decide)
  (he : starEach (e :: es) X.env = (false, eval e X.env) :: starEach es X.env := by rfl) (hpl : (backTo pos (starEach es X.env)).any (·.1) = false := by rfl) : PE X (.Call (.Name x p) (e :: es) [] pos) (tCB r t) := by
 intro pins s σ H Q I h
 refine wpAny_Call_Name_kw (ld_blt I hg hm hv ?_ hn hdb)
 exact PyProof.Rows.callWith_type1 (thn (ha pos pins s σ H _ I h) fun us s1 ⟨vs, H1, I1, r1, q1⟩ => hc pins s1 σ H1 vs us Q I1 r1 q1) he hpl
end
end L2
namespace HT
open PySem PyProof.Rows
section
variable {prog : Program} {w : World} {A : Around} {E : Value → Shared → Prop} {s : Shared}
theorem cat_tup {t b : Addr} {vs ws : List Value} {Q : Value → Shared → Prop} (ht : IsTup s.heap t vs.toArray) (hb : IsTup s.heap b ws.toArray) (hv : vs ≠ [])
  (h1 : ws = [] → Q (.ref t) s) (h2 : ws ≠ [] → Q (.ref s.heap.objs.size) { s with heap := s.heap.push { cls := .type "tuple", data := .seq (vs ++ ws).toArray } })
  (hsz : vs.length + ws.length ≤ sizeLine) : wpAny (model prog w) A (binaryOp .Add (.ref t) (.ref b)) Q E s := by
 obtain ⟨⟨cls, dd, data, sl⟩, ho, hc, n, hd⟩ := id ht
 obtain ⟨⟨cls2, dd2, data2, sl2⟩, ho2, hc2, n2, hd2⟩ := id hb
 simp only at hc hd hc2 hd2
 subst hc hd hc2 hd2
 have e : vs.toArray ++ ws.toArray = (vs ++ ws).toArray := by simp
 by_cases hw : ws = []
 ·exact concat_meets ⟨_, ho, rfl⟩ ⟨_, ho2, rfl⟩ noFill_tuple_add seq_tuple_add PySem.F.slot_tuple_add PySem.F.entry_tuple_add (PySem.F.args_tuple_add_2 _ _)
   (tuple_addW1 t b vs.toArray ws.toArray n n2 dd dd2 sl sl2 (by simpa using hv) (by simp [hw])) ⟨ho, ho2, h1 hw⟩
 ·refine concat_meets ⟨_, ho, rfl⟩ ⟨_, ho2, rfl⟩ noFill_tuple_add seq_tuple_add PySem.F.slot_tuple_add PySem.F.entry_tuple_add (PySem.F.args_tuple_add_2 _ _)
   (tuple_addW2 t b vs.toArray ws.toArray n n2 dd dd2 sl sl2 (by simpa using hv) (by simpa using hw) (by rw [List.size_toArray, List.size_toArray]; exact hsz)) ⟨ho, ho2, ?_⟩
  rw [e]
  exact h2 hw
def sIx (n d : Nat) : Option Int → Nat
 | none => d
 | some v => if v < 0 then (v + (n : Int)).toNat else min v.toNat n
theorem sIx_none (n d : Nat) : sIx n d none = d := rfl
theorem sIx_nat (n d k : Nat) : sIx n d (some (k : Int)) = min k n := by
 show (if (k : Int) < 0 then ((k : Int) + (n : Int)).toNat else min (k : Int).toNat n) = min k n
 rw [if_neg (by omega), Int.toNat_natCast]
end
end HT
namespace L2
open PySem PySem.Spec PyProof.Rows
abbrev TO := St → Hp → (Option Int → Hp → Prop) → Prop
def PO (X : Cx) (e : Option Expr) (t : TO) : Prop :=
 ∀ (pins : List (Addr × Obj)) (s : Shared) (σ : St) (H : Hp) (Q : Option Int → Hp → Prop), Inv X pins σ H s → t σ H Q →
  wpAny (model X.prog X.w) X.A (evalPart e X.env) (fun u s' => ∃ o H', Inv X pins σ H' s' ∧ IsPart u o ∧ Q o H') X.xe s
def tNoPart : TO := fun _ H Q => Q none H
def tPart (t : TE) : TO := fun σ H Q => t σ H fun x H1 => ∃ i, x = .int i ∧ Q (some i) H1
section
variable {X : Cx} {e : Expr} {te : TE} {lo hi : Option Expr} {tl th : TO} {pos p2 : Pos}
theorem po_none : PO X none tNoPart := by
 intro pins s σ H Q I h
 rw [evalPart_none]
 exact wpAny_pure ⟨none, H, I, .none, h⟩
theorem po_some (h : PE X e te) : PO X (some e) (tPart te) := by
 intro pins s σ H Q I hw
 rw [evalPart_some]
 refine thn (h pins s σ H _ I hw) fun u s1 ⟨x, H1, I1, r1, q1⟩ => ?_
 obtain ⟨i, rfl, q⟩ := q1
 obtain ⟨t, rfl⟩ := r1
 exact ⟨some i, H1, I1, .int i t, q⟩
def SlR (X : Cx) (r : V → Option Int → Option Int → Hp → VK → Prop) : Prop :=
 ∀ (pins : List (Addr × Obj)) (s : Shared) (σ : St) (H : Hp) (x : V) (v vl vu : Value) (lo hi : Option Int) (sl : Addr) (Q : VK), Inv X pins σ H s → RelV x v → s.heap.IsSliceOf sl vl vu .none → IsPart vl lo → IsPart vu hi → r x lo hi H Q →
  ∃ T id, typeLookup (.type T) "__getitem__" = pure (some (.builtin id)) ∧ s.TypeIs v T ∧ wpAny (model X.prog X.w) X.A (getItem v (.ref sl)) (EP X pins σ Q) X.xe s
def tSl (r : V → Option Int → Option Int → Hp → VK → Prop) (te : TE) (tl th : TO) : TE := fun σ H Q => te σ H fun x H1 => tl σ H1 fun l H2 => th σ H2 fun u H3 => r x l u H3 Q
theorem pe_slice {r : V → Option Int → Option Int → Hp → VK → Prop} (hr : SlR X r) (he : PE X e te) (hl : PO X lo tl) (hu : PO X hi th) : PE X (.Subscript e (.Slice lo hi none p2) pos) (tSl r te tl th) := by
 intro pins s σ H Q I h
 refine Subscript_ (thn (he pins s σ H _ I h) fun v s1 ⟨x, H1, I1, r1, q1⟩ => ?_)
 refine wpAny_Slice (thn (hl pins s1 σ H1 _ I1 q1) fun vl s2 ⟨l, H2, I2, pl, q2⟩ => thn (hu pins s2 σ H2 _ I2 q2) fun vu s3 ⟨u, H3, I3, pu, q3⟩ => ?_)
 rw [evalPart_none]
 refine wpAny_pure ?_
 have I4 : Inv X pins σ H3 { s3 with heap := s3.heap.push { cls := .type "slice", data := .fields #[vl, vu, .none] } } := I3.kept (t' := s3.toks) fun b ob q => Heap.get?_push_of_some _ q
 obtain ⟨T, id, hT, ht, hg⟩ := hr pins { s3 with heap := s3.heap.push { cls := .type "slice", data := .fields #[vl, vu, .none] } } σ H3 x v vl vu l u s3.heap.objs.size Q I4 r1 (Heap.IsSliceOf.new ..) pl pu q3
 show wpAny (model X.prog X.w) X.A (subscriptTail e (.Slice lo hi none p2) v (.ref s3.heap.objs.size)) (EP X pins σ Q) X.xe { s3 with heap := s3.heap.push { cls := .type "slice", data := .fields #[vl, vu, .none] } }
 exact tail_any (ops := [.ref s3.heap.objs.size, v]) ht hT hg (by with_unfolding_all rfl)
def cutV (xs : List V) (lo hi : Option Int) : List V := (xs.drop (HT.sIx xs.length 0 lo)).take (HT.sIx xs.length xs.length hi - HT.sIx xs.length 0 lo)
theorem cutV_length (xs : List V) (lo hi : Option Int) : (cutV xs lo hi).length ≤ xs.length := by
 unfold cutV
 rw [List.length_take, List.length_drop]
 omega
def rCatT (K : PySem.W.Frag) : R2 := fun x y H Q => ∃ a b xs ys, x = .ref a ∧ y = .ref b ∧ SqT K H a xs ∧ SqT K H b ys ∧ xs ≠ [] ∧ xs.length + ys.length ≤ sizeLine ∧
 (ys = [] → Q (.ref a) H) ∧ (ys ≠ [] → ∀ p, H p = none → Q (.ref p) (upd H p (.tup (xs ++ ys))))
theorem Vals.nil_iff {xs : List V} {us : List Value} (r : Vals xs us) : us = [] ↔ xs = [] := by
 cases r with
 | nil => simp
 | cons _ _ => simp
theorem op_catT : OpR X (binaryOp .Add) (rCatT X.K) := by
 intro pins s σ H x y v u Q I rx ry h
 obtain ⟨a, b, xs, ys, rfl, rfl, ha, hb, hx, hz, q1, q2⟩ := h
 cases rx
 cases ry
 obtain ⟨its, r1, p1, _⟩ := I.tuple ha
 obtain ⟨its2, r2, p2, _⟩ := I.tuple hb
 refine HT.cat_tup p1 p2 (fun z => hx (r1.nil_iff.mp z)) (fun z => ⟨.ref a, H, I, rfl, q1 (r2.nil_iff.mp z)⟩) (fun z => ?_) (by rw [← r1.length, ← r2.length]; exact hz)
 refine ⟨.ref s.heap.objs.size, _, I.laid (t' := s.toks) (o := .tup (xs ++ ys)) (fun b ob q => Heap.get?_push_of_some _ q) (Nat.le_refl _) ?_, rfl, q2 (fun w => z (r2.nil_iff.mpr w)) _ (I.hok.fresh (Nat.le_refl _))⟩
 exact ⟨⟨by rw [List.length_append]; exact hz, _, Heap.get?_push_size _ rfl, rfl⟩, _, r1.append r2, IsTup.new _ _⟩
end
def ixN (n : Nat) (i : Int) : Option Nat := if 0 ≤ i then (if i < n then some i.toNat else none) else if -(n : Int) ≤ i then some (i + n).toNat else none
def atI {α : Type} (xs : List α) (i : Int) : Option α := (ixN xs.length i).bind fun j => xs[j]?
theorem ixN_seq {n : Nat} {i : Int} {j : Nat} (h : ixN n i = some j) : seqIndex? i n = some j ∧ j < n ∧ -(n : Int) ≤ i ∧ i < n := by
 unfold ixN at h
 by_cases h0 : 0 ≤ i
 ·rw [if_pos h0] at h
  by_cases h1 : i < n
  ·rw [if_pos h1] at h
   have e : i.toNat = j := Option.some.inj h
   exact ⟨by rw [seqIndex_of h0 h1, e], by omega, by omega, h1⟩
  ·rw [if_neg h1] at h; cases h
 ·rw [if_neg h0] at h
  by_cases h1 : -(n : Int) ≤ i
  ·rw [if_pos h1] at h
   have e : (i + n).toNat = j := Option.some.inj h
   exact ⟨by rw [seqIndex_neg (by omega) h1, e], by omega, h1, by omega⟩
  ·rw [if_neg h1] at h; cases h
theorem atI_get {α : Type} {xs : List α} {i : Int} {v : α} (h : atI xs i = some v) : ∃ j, seqIndex? i xs.length = some j ∧ xs[j]? = some v ∧ j < xs.length ∧ -(xs.length : Int) ≤ i ∧ i < xs.length := by
 unfold atI at h
 cases e : ixN xs.length i with
 | none => rw [e] at h; cases h
 | some j =>
  rw [e] at h
  obtain ⟨h1, h2, h3, h4⟩ := ixN_seq e
  exact ⟨j, h1, h, h2, h3, h4⟩
theorem atI_nat {α : Type} {xs : List α} {j : Nat} {v : α} (h : xs[j]? = some v) : atI xs (j : Int) = some v := by
 have hj : j < xs.length := (List.getElem?_eq_some_iff.mp h).1
 have e : ixN xs.length (j : Int) = some j := by
  unfold ixN
  rw [if_pos (by omega), if_pos (by omega)]; simp
 unfold atI; rw [e]; exact h
def PlainIx (b : Expr) : Prop := ∀ o i, subscripted b false o i = operate [o, i] (getItem o i)
def IxR (X : Cx) (r : R2) : Prop :=
 ∀ (value slice : Expr) (pins : List (Addr × Obj)) (s : Shared) (σ : St) (H : Hp) (x y : V) (v u : Value) (Q : VK), Inv X pins σ H s → RelV x v → RelV y u → r x y H Q →
  subscripted slice false v u = operate [v, u] (getItem v u) → wpAny (model X.prog X.w) X.A (subscriptTail value slice v u) (EP X pins σ Q) X.xe s
def MtR (X : Cx) (id : String) (r : V → List V → Hp → VK → Prop) : Prop :=
 ∀ (pins : List (Addr × Obj)) (s : Shared) (σ : St) (H : Hp) (x : V) (xs : List V) (v : Value) (us : List Value) (Q : VK), Inv X pins σ H s → RelV x v → Vals xs us → r x xs H Q →
  wpAny (model X.prog X.w) X.A (call (.builtin id) (v :: us)) (EP X pins σ Q) X.xe s
section
variable {X : Cx} {a b : Expr} {ta tb : TE} {pos : Pos}
theorem pe_ix {r : R2} (hr : IxR X r) (ha : PE X a ta) (hb : PE X b tb) (hs : PlainIx b) : PE X (.Subscript a b pos) (tOp r ta tb) := by
 intro pins s σ H Q I h
 exact Subscript_ (binT ha hb I h fun v u s2 x y H2 I2 rx ry q => hr a b pins s2 σ H2 x y v u Q I2 rx ry q (hs _ _))
def rIxL (K : PySem.W.Frag) : R2 := fun x y H Q => ∃ p xs i v, x = .ref p ∧ y = .int i ∧ SqL K H p xs ∧ atI xs i = some v ∧ Q v H
def rIxT (K : PySem.W.Frag) : R2 := fun x y H Q => ∃ p xs i v, x = .ref p ∧ y = .int i ∧ SqT K H p xs ∧ atI xs i = some v ∧ Q v H
def rIxS : R2 := fun x y H Q => ∃ z i c, x = .str z ∧ y = .int i ∧ z.length ≤ sizeLine ∧ atI z.cps.toList i = some c ∧ Q (.str ⟨#[c]⟩) H
theorem ix_list : IxR X (rIxL X.K) := by
 intro value slice pins s σ H x y v u Q I rx ry h hs
 obtain ⟨p, xs, i, z, rfl, rfl, hq, he, q⟩ := h
 cases rx
 obtain ⟨t, rfl⟩ := ry
 obtain ⟨its, r, pl, hz⟩ := I.list hq
 obtain ⟨j, h1, h2, h3, h4, h5⟩ := atI_get he
 obtain ⟨w, ew, rw'⟩ := r.get h2
 have hl := r.length
 have hn := line63
 have fin : EP X pins σ Q w s := ⟨z, H, I, rw', q⟩
 by_cases h0 : 0 ≤ i
 ·have hj : i.toNat = j := by
   rw [seqIndex_of h0 h5] at h1
   exact Option.some.inj h1
  exact item_listR pl.isList h0 (by omega) (by rw [hj]; simpa using ew) fin hs
 ·have hj : (i + (its.toArray.size : Int)).toNat = j := by
   rw [seqIndex_neg (by omega) h4] at h1
   rw [List.size_toArray, ← hl]
   exact Option.some.inj h1
  exact subscriptTail_builtinR (x := w) pl.isList.typeIs slot_list_getitem.lookup
   (wpAny_getItem_list_neg (Q := fun r s' => r = w ∧ EP X pins σ Q r s') pl.isList (by omega) (by rw [List.size_toArray] <;> omega) (by omega) (by rw [hj]; simpa using ew) ⟨rfl, fin⟩) hs
theorem ix_tup : IxR X (rIxT X.K) := by
 intro value slice pins s σ H x y v u Q I rx ry h hs
 obtain ⟨p, xs, i, z, rfl, rfl, hq, he, q⟩ := h
 cases rx
 obtain ⟨t, rfl⟩ := ry
 obtain ⟨its, r, pl, hz⟩ := I.tuple hq
 obtain ⟨j, h1, h2, h3, h4, h5⟩ := atI_get he
 obtain ⟨w, ew, rw'⟩ := r.get h2
 have hl := r.length
 have hn := line63
 have fin : EP X pins σ Q w s := ⟨z, H, I, rw', q⟩
 exact subscriptTail_builtinR (x := w) pl.typeIs slot_tuple_getitem.lookup
  (getItem_tuple (j := j) (Q := fun r s' => r = w ∧ EP X pins σ Q r s') pl (by omega) (by omega) (by rw [List.size_toArray, ← hl]; exact h1) (by simpa using ew) ⟨rfl, fin⟩) hs
theorem ix_str : IxR X rIxS := by
 intro value slice pins s σ H x y v u Q I rx ry h hs
 obtain ⟨z, i, c, rfl, rfl, hz, he, q⟩ := h
 obtain ⟨t, rfl⟩ := rx
 obtain ⟨t', rfl⟩ := ry
 obtain ⟨j, h1, h2, h3, h4, h5⟩ := atI_get he
 have hl : z.cps.toList.length = z.length := by simp [Str.length]
 rw [hl] at h1 h4 h5
 have hn := line63
 exact tail_any (typeIs_str s z t) slot_str_getitem.lookup (getItem_str (c := c) (by
  have e1 : decide (i < -(2 ^ 63 : Int)) = false := decide_eq_false (by omega)
  have e2 : decide (i ≥ 2 ^ 63) = false := decide_eq_false (by omega)
  rw [e1, e2, Bool.or_false]) (by rw [h1]; simpa using h2) ⟨.str ⟨#[c]⟩, H, I.tok _, ⟨_, rfl⟩, q⟩) hs
theorem mapSeq_set (its : List Value) (n j : Nat) (u : Value) : Obj.mapSeq (·.setIfInBounds j u) { cls := .type "list", data := .seq its.toArray n } = { cls := .type "list", data := .seq (its.set j u).toArray n } := by
 simp [Obj.mapSeq]
theorem Inv.lst {pins : List (Addr × Obj)} {σ : St} {H : Hp} {s : Shared} {p : Addr} {xs : List V} (I : Inv X pins σ H s) (h : H p = some (.lst xs)) :
  ∃ (its : List Value) (n : Nat), Vals xs its ∧ s.heap.get? p = some { cls := .type "list", data := .seq its.toArray n } ∧ xs.length ≤ sizeLine := by
 obtain ⟨z, its, n, r, e⟩ := I.hok p _ h
 exact ⟨its, n, r, e, z⟩
theorem Inv.lstUpd {pins : List (Addr × Obj)} {σ : St} {H : Hp} {s : Shared} {p : Addr} {xs ys : List V} {its its' : List Value} {n n' : Nat} {f : Obj → Obj} (I : Inv X pins σ H s) (h : H p = some (.lst xs))
  (ho : s.heap.get? p = some { cls := .type "list", data := .seq its.toArray n }) (hf : f { cls := .type "list", data := .seq its.toArray n } = { cls := .type "list", data := .seq its'.toArray n' }) (r : Vals ys its') (hz : ys.length ≤ sizeLine) (t : Nat) :
  Inv X pins σ (upd H p (.lst ys)) { s with heap := s.heap.update p f, toks := t } := by
 have e : (s.heap.update p f).get? p = some { cls := .type "list", data := .seq its'.toArray n' } := by
  rw [Heap.get?_update_self f ho (by rw [hf] <;> rfl), hf]
 refine I.write (x := p) (e := p) (by rw [h]; trivial) (.inl rfl) (fun b u hb q => (Heap.get?_update_other _ _ (Ne.symm hb)).trans q) ⟨_, e⟩ ?_
 exact ⟨hz, its', n', r, e⟩
def rSetL : V → V → V → Hp → (Hp → Prop) → Prop := fun o i v H Q => ∃ p xs k j, o = .ref p ∧ i = .int k ∧ H p = some (.lst xs) ∧ ixN xs.length k = some j ∧ Q (upd H p (.lst (xs.set j v)))
theorem set_list : PSet X rSetL := by
 intro pins s σ H o i v ov iv u Q I ro ri rv h
 obtain ⟨p, xs, k, j, rfl, rfl, hp, hj, q⟩ := h
 cases ro
 obtain ⟨t, rfl⟩ := ri
 obtain ⟨its, n, r, ho, hz⟩ := I.lst hp
 obtain ⟨h1, h2, h3, h4⟩ := ixN_seq hj
 have hl := r.length
 have hn := line63
 have I' : Inv X pins σ (upd H p (.lst (xs.set j v))) { s with heap := s.heap.update p (Obj.mapSeq (·.setIfInBounds j u)) } :=
  I.lstUpd hp ho (mapSeq_set its n j u) (r.set rv j) (by rw [List.length_set]; exact hz) s.toks
 by_cases h0 : 0 ≤ k
 ·have hk : k.toNat = j := by
   rw [seqIndex_of h0 h4] at h1
   exact Option.some.inj h1
  exact PySem.W.ki_setAt ho h0 (by omega) (by rw [List.size_toArray, ← hl]; exact h4) (by rw [hk]; exact ⟨_, I', q⟩)
 ·have hk : (k + (its.toArray.size : Int)).toNat = j := by
   rw [seqIndex_neg (by omega) h3] at h1
   rw [List.size_toArray, ← hl]
   exact Option.some.inj h1
  exact PySem.W.ki_setBack ho (by omega) (by rw [List.size_toArray, ← hl]; exact h3) (by omega) (by rw [hk]; exact ⟨_, I', q⟩)
theorem slice_bounds (lo hi : Option Int) (n : Nat) : (sliceBounds lo hi none n).1 = ((HT.sIx n 0 lo : Nat) : Int) ∧ (sliceBounds lo hi none n).2.1 = ((HT.sIx n n hi : Nat) : Int) ∧ (sliceBounds lo hi none n).2.2 = 1 := by
 refine ⟨?_, ?_, rfl⟩
 ·cases lo with
  | none => simp [sliceBounds, HT.sIx]
  | some i =>
   simp only [sliceBounds, HT.sIx, Option.getD_none, show (1 : Int) > 0 by decide, if_true]
   by_cases h : i < 0
   ·simp only [h, if_true] <;> omega
   ·simp only [h, if_false] <;> omega
 ·cases hi with
  | none => simp [sliceBounds, HT.sIx]
  | some i =>
   simp only [sliceBounds, HT.sIx, Option.getD_none, show (1 : Int) > 0 by decide, if_true]
   by_cases h : i < 0
   ·simp only [h, if_true] <;> omega
   ·simp only [h, if_false] <;> omega
theorem slicePick_cut (its : List Value) (lo hi : Option Int) : slicePick its.toArray lo hi none = ((its.drop (HT.sIx its.length 0 lo)).take (HT.sIx its.length its.length hi - HT.sIx its.length 0 lo)).toArray := by
 obtain ⟨h1, h2, h3⟩ := slice_bounds lo hi its.toArray.size
 unfold slicePick
 rw [h1, h2, h3]
 simp only [sliceRange_one, pick_run, List.size_toArray] <;> rfl
def rSlL (K : PySem.W.Frag) : V → Option Int → Option Int → Hp → VK → Prop := fun x lo hi H Q => ∃ a xs, x = .ref a ∧ SqL K H a xs ∧ ∀ p, H p = none → Q (.ref p) (upd H p (.lst (cutV xs lo hi)))
theorem sl_list : SlR X (rSlL X.K) := by
 intro pins s σ H x v vl vu lo hi sl Q I rx hs pl pu h
 obtain ⟨a, xs, rfl, hx, q⟩ := h
 cases rx
 obtain ⟨its, r, ht, hz⟩ := I.list hx
 have hlen := r.length
 refine ⟨"list", _, slot_list_getitem.lookup, ht.isList.typeIs, ?_⟩
 refine wpAny_getItem_list_slice ht.isList hs pl pu .none (by simp) ?_ (by rw [List.size_toArray] <;> omega)
 rw [slicePick_cut, ← hlen]
 refine ⟨.ref s.heap.objs.size, _, I.laid (t' := s.toks) (o := .lst (cutV xs lo hi)) (fun b ob q => Heap.get?_push_of_some _ q) (Nat.le_refl _) ?_, rfl, q _ (I.hok.fresh (Nat.le_refl _))⟩
 exact ⟨Nat.le_trans (cutV_length xs lo hi) hz, _, 0, (r.drop (HT.sIx xs.length 0 lo)).take (HT.sIx xs.length xs.length hi - HT.sIx xs.length 0 lo), Heap.get?_push_size _ rfl⟩
def flatV : V → Bool
 | .non => true
 | .bl _ => true
 | .int _ => true
 | .str _ => true
 | _ => false
def eqV : V → V → Bool
 | .non, .non => true
 | .bl a, .bl b => a == b
 | .bl a, .int b => (if a then 1 else 0) == b
 | .int a, .bl b => a == (if b then 1 else 0)
 | .int a, .int b => a == b
 | .str a, .str b => a == b
 | _, _ => false
theorem eqAt_V {A : Around} {s : Shared} {y x : V} {u v : Value} (ry : RelV y u) (rx : RelV x v) (fy : flatV y = true) (fx : flatV x = true) : SeqAt.EqAt A s u v (eqV y x) := by
 cases y with
 | non =>
  cases ry
  cases x with
  | non => cases rx; exact SeqAt.EqAt.same _
  | bl b => cases rx; exact SeqAt.EqAt.none_bool b
  | int b => obtain ⟨t, rfl⟩ := rx; exact SeqAt.EqAt.none_int b t
  | str b => obtain ⟨t, rfl⟩ := rx; exact SeqAt.EqAt.none_str b t
  | _ => exact absurd (show false = true from fx) Bool.false_ne_true
 | bl a =>
  cases ry
  cases x with
  | non => cases rx; exact SeqAt.EqAt.bool_none a
  | bl b => cases rx; exact SeqAt.EqAt.bool_bool a b
  | int b => obtain ⟨t, rfl⟩ := rx; exact SeqAt.EqAt.bool_int a b t
  | str b => obtain ⟨t, rfl⟩ := rx; exact SeqAt.EqAt.bool_str a b t
  | _ => exact absurd (show false = true from fx) Bool.false_ne_true
 | int a =>
  obtain ⟨t', rfl⟩ := ry
  cases x with
  | non => cases rx; exact SeqAt.EqAt.int_none a t'
  | bl b => cases rx; exact SeqAt.EqAt.int_bool a t' b
  | int b => obtain ⟨t, rfl⟩ := rx; exact SeqAt.EqAt.int_int a t' b t
  | str b => obtain ⟨t, rfl⟩ := rx; exact SeqAt.EqAt.int_str a t' b t
  | _ => exact absurd (show false = true from fx) Bool.false_ne_true
 | str a =>
  obtain ⟨t', rfl⟩ := ry
  cases x with
  | non => cases rx; exact SeqAt.EqAt.str_none a t'
  | bl b => cases rx; exact SeqAt.EqAt.str_bool a t' b
  | int b => obtain ⟨t, rfl⟩ := rx; exact SeqAt.EqAt.str_int a t' b t
  | str b => obtain ⟨t, rfl⟩ := rx; exact SeqAt.EqAt.str_str a t' b t
  | _ => exact absurd (show false = true from fx) Bool.false_ne_true
 | _ => exact absurd (show false = true from fy) Bool.false_ne_true
def eqU (x : V) (u : Value) : Bool := match u with
 | .none => eqV .non x
 | .bool b => eqV (.bl b) x
 | .int i _ => eqV (.int i) x
 | .str z _ => eqV (.str z) x
 | _ => false
theorem eqU_of {x y : V} {u : Value} (r : RelV y u) (f : flatV y = true) : eqU x u = eqV y x := by
 cases y with
 | non => cases r; rfl
 | bl b => cases r; rfl
 | int i => obtain ⟨t, rfl⟩ := r; rfl
 | str z => obtain ⟨t, rfl⟩ := r; rfl
 | _ => exact absurd (show false = true from f) Bool.false_ne_true
theorem any_eqU {x : V} : ∀ {xs : List V} {us : List Value}, Vals xs us → xs.all flatV = true → us.any (eqU x) = xs.any fun y => eqV y x
 | _, _, .nil, _ => rfl
 | y :: xs, u :: us, .cons r t, f => by
  rw [List.all_cons, Bool.and_eq_true] at f
  rw [List.any_cons, List.any_cons, eqU_of r f.1, any_eqU t f.2]
theorem mem_eqAt {A : Around} {s : Shared} {x : V} {v : Value} (rx : RelV x v) (fx : flatV x = true) : ∀ {xs : List V} {us : List Value}, Vals xs us → xs.all flatV = true → ∀ u ∈ us, SeqAt.EqAt A s u v (eqU x u)
 | _, _, .nil, _ => fun u hu => by cases hu
 | y :: xs, u :: us, .cons r t, f => fun u' hu => by
  rw [List.all_cons, Bool.and_eq_true] at f
  rcases List.mem_cons.mp hu with rfl | hu
  ·rw [eqU_of r f.1]; exact eqAt_V r rx f.1 fx
  ·exact mem_eqAt rx fx t f.2 u' hu
def inV (x : V) (xs : List V) : Bool := xs.any fun y => eqV y x
def rIn (K : PySem.W.Frag) (neg : Bool) : R2 := fun x y H Q => ∃ p xs, y = .ref p ∧ (SqL K H p xs ∨ SqT K H p xs) ∧ flatV x = true ∧ xs.all flatV = true ∧ Q (.bl (if neg then !inV x xs else inV x xs)) H
theorem op_in_seq : OpR X (compareOp .In) (rIn X.K false) := by
 intro pins s σ H x y v u Q I rx ry h
 obtain ⟨p, xs, rfl, hq, fx, fs, q⟩ := h
 cases ry
 rcases hq with hq | hq
 ·obtain ⟨its, r, pl, hz⟩ := I.list hq
  refine SeqAt.in_listAt (eqU x) pl.isList (fun w hw => mem_eqAt rx fx r fs w (by simpa using hw)) ⟨.bl _, H, I, rfl, ?_⟩
  rw [show its.toArray.any (eqU x) = its.any (eqU x) by simp, any_eqU r fs]
  exact q
 ·obtain ⟨its, r, pl, hz⟩ := I.tuple hq
  refine SeqAt.in_tupleAt (eqU x) pl (fun w hw => mem_eqAt rx fx r fs w (by simpa using hw)) ⟨.bl _, H, I, rfl, ?_⟩
  rw [show its.toArray.any (eqU x) = its.any (eqU x) by simp, any_eqU r fs]
  exact q
theorem op_notIn_seq : OpR X (compareOp .NotIn) (rIn X.K true) := by
 intro pins s σ H x y v u Q I rx ry h
 obtain ⟨p, xs, rfl, hq, fx, fs, q⟩ := h
 cases ry
 rcases hq with hq | hq
 ·obtain ⟨its, r, pl, hz⟩ := I.list hq
  refine SeqAt.notIn_listAt (eqU x) pl.isList (fun w hw => mem_eqAt rx fx r fs w (by simpa using hw)) ⟨.bl _, H, I, rfl, ?_⟩
  rw [show its.toArray.any (eqU x) = its.any (eqU x) by simp, any_eqU r fs]
  exact q
 ·obtain ⟨its, r, pl, hz⟩ := I.tuple hq
  refine SeqAt.notIn_tupleAt (eqU x) pl (fun w hw => mem_eqAt rx fx r fs w (by simpa using hw)) ⟨.bl _, H, I, rfl, ?_⟩
  rw [show its.toArray.any (eqU x) = its.any (eqU x) by simp, any_eqU r fs]
  exact q
theorem call_tuple_of : CallR X (.type "tuple") (fun xs H Q => ∃ p ys, xs = [.ref p] ∧ ((SqL X.K H p ys ∧ ∀ l, H l = none → Q (.ref l) (upd H l (.tup ys))) ∨ (SqT X.K H p ys ∧ Q (.ref p) H))) := by
 intro pins s σ H xs us Q I r h
 obtain ⟨p, ys, rfl, h⟩ := h
 obtain ⟨u, rfl, rx⟩ := vals1 r
 cases rx
 rcases h with ⟨hq, q⟩ | ⟨hq, q⟩
 ·obtain ⟨its, r', pl, hz⟩ := I.list hq
  have hlen := r'.length
  refine call_tuple_list pl.isList (fun h' kp => ?_) (by simp only [List.size_toArray] <;> omega)
  have I1 : Inv X pins σ H { s with heap := h' } := I.kept (t' := s.toks) kp
  have I2 : Inv X pins σ (upd H h'.objs.size (.tup ys)) { s with heap := h'.push { cls := .type "tuple", data := .seq its.toArray } } :=
   I1.laid (t' := s.toks) (fun b o e => Heap.get?_push_of_some _ e) (Nat.le_refl _) (show ObjOk X.prog X.w _ _ _ (.tup ys) from ⟨⟨hz, _, Heap.get?_push_size _ rfl, rfl⟩, its, r', IsTup.new _ _⟩)
  exact ⟨.ref h'.objs.size, _, I2, rfl, q _ (I1.hok.fresh (Nat.le_refl _))⟩
 ·obtain ⟨its, r', pl, hz⟩ := I.tuple hq
  exact call_tuple_same pl ⟨.ref p, H, I, rfl, q⟩
def tyV (K : PySem.W.Frag) (T : String) (x : V) (H : Hp) : Prop := match x with
 | .str _ => T = "str"
 | .int _ => T = "int"
 | .ref p => (T = "list" ∧ ∃ xs, SqL K H p xs) ∨ (T = "tuple" ∧ ∃ o, K.lookup p = some o ∧ o.cls = .type "tuple" ∧ o.dict = none) ∨
   (T = "dict" ∧ ((∃ kvs, H p = some (.dK kvs)) ∨ ∃ kvs, H p = some (.dT kvs))) ∨ (T = "set" ∧ ∃ S n, H p = some (.set S n))
 | _ => False
theorem tyV_is {pins : List (Addr × Obj)} {σ : St} {H : Hp} {s : Shared} {T : String} {x : V} {v : Value} (I : Inv X pins σ H s) (r : RelV x v) (ty : tyV X.K T x H) :
  s.TypeIs v T ∧ ∀ a, v = .ref a → ∃ ob, s.heap.get? a = some ob ∧ ob.dict = none := by
 cases x with
 | str z =>
  obtain ⟨t, rfl⟩ := r
  cases (show T = "str" from ty)
  exact ⟨typeIs_str s z t, fun _ e => nomatch e⟩
 | int i =>
  obtain ⟨t, rfl⟩ := r
  cases (show T = "int" from ty)
  exact ⟨typeIs_int s i t, fun _ e => nomatch e⟩
 | ref p =>
  cases r
  rcases ty with ⟨rfl, xs, hq⟩ | ⟨rfl, o, hk, hc, hd⟩ | ⟨rfl, hk⟩ | ⟨rfl, S, n, hk⟩
  ·obtain ⟨its, _, pl, _⟩ := I.list hq
   refine ⟨pl.isList.typeIs, fun a e => ?_⟩
   cases e
   obtain ⟨o, n, e, c, hd, _⟩ := pl
   exact ⟨o, e, hd⟩
  ·refine ⟨⟨o, I.kIn p o hk, hc⟩, fun a e => ?_⟩
   cases e
   exact ⟨o, I.kIn _ o hk, hd⟩
  ·have z : ∃ o, s.heap.get? p = some o ∧ o.ExactDict := by
    rcases hk with ⟨kvs, hk⟩ | ⟨kvs, hk⟩
    ·obtain ⟨_, _, _, _, o, _, _, e, ex, _⟩ := I.hok p _ hk
     exact ⟨o, e, ex⟩
    ·obtain ⟨_, _, _, _, o, _, _, e, ex, _⟩ := I.hok p _ hk
     exact ⟨o, e, ex⟩
   obtain ⟨o, e, ex⟩ := z
   refine ⟨⟨o, e, ex.1⟩, fun a e2 => ?_⟩
   cases e2
   exact ⟨o, e, ex.2.1⟩
  ·obtain ⟨o, _, _, _, e, ex, _⟩ := I.hok p _ hk
   refine ⟨⟨o, e, ex.1⟩, fun a e2 => ?_⟩
   cases e2
   exact ⟨o, e, ex.2.1⟩
 | _ => exact False.elim ty
def tBM0 (K : PySem.W.Frag) (T : String) (r : V → List V → Hp → VK → Prop) (to : TE) : TE := fun σ H Q => to σ H fun x H1 => tyV K T x H1 ∧ r x [] H1 Q
def tBM (K : PySem.W.Frag) (T : String) (r : V → List V → Hp → VK → Prop) (to : TE) (t : TA) : TE := fun σ H Q => to σ H fun x H1 => tyV K T x H1 ∧ t σ H1 fun xs H2 => r x xs H2 Q
variable {o e : Expr} {es : List Expr} {to : TE} {t : TA} {name : Str} {apos cpos : Pos} {T id : String} {r : V → List V → Hp → VK → Prop}
theorem pe_bm0 (pa : PlainAttrs T) (slot : Slot T name id) (hty : typeOf (.builtin id) = pure (.type "method_descriptor")) (hm : MtR X id r) (ho : PE X o to)
  (hbase : attributeBase o name X.env (eval o X.env) = eval o X.env := by rfl) (hline : (apos.endLine == cpos.line) = true := by rfl) : PE X (.Call (.Attribute o name apos) [] [] cpos) (tBM0 X.K T r to) := by
 intro pins s σ H Q I h
 refine wpAny_Call_method0_late hbase hline (thn (ho pins s σ H _ I h) fun v s1 ⟨x, H1, I1, r1, ty, q1⟩ => ?_)
 obtain ⟨h1, h2⟩ := tyV_is I1 r1 ty
 exact ⟨T, id, pa, slot, hty, h1, h2, Calls.callWith_builtin rfl (PySem.evalArgs_none (hm pins s1 σ H1 x [] v [] Q I1 r1 .nil q1))⟩
theorem pe_bm (pa : PlainAttrs T) (slot : Slot T name id) (hty : typeOf (.builtin id) = pure (.type "method_descriptor")) (hm : MtR X id r) (ho : PE X o to) (ha : PA X (e :: es) t)
  (hbase : attributeBase o name X.env (eval o X.env) = eval o X.env := by rfl)
  (hfew : ((backTo cpos (starEach (e :: es) X.env)).all (fun x => !x.1) && (backToKw cpos (keywordEach [] X.env)).all (fun x => x.1.isSome)
   && decide ((e :: es).length + ([] : List Keyword).length + (if ([] : List Keyword).isEmpty then 0 else 1) < 30)) = true := by rfl)
  (hline : (apos.endLine == cpos.line) = true := by rfl) (hs : starEach (e :: es) X.env = (false, eval e X.env) :: starEach es X.env := by rfl) (hplain : (backTo cpos (starEach es X.env)).any (·.1) = false := by rfl) :
  PE X (.Call (.Attribute o name apos) (e :: es) [] cpos) (tBM X.K T r to t) := by
 intro pins s σ H Q I h
 refine wpAny_Call_method_late hbase hfew hline rfl (thn (ho pins s σ H _ I h) fun v s1 ⟨x, H1, I1, r1, ty, q1⟩ => ?_)
 obtain ⟨h1, h2⟩ := tyV_is I1 r1 ty
 refine ⟨T, id, pa, slot, hty, h1, h2, ?_⟩
 have hA := ha cpos pins s1 σ H1 _ I1 q1
 rw [hs] at hA ⊢
 refine Calls.callWith_builtin (by show (false || (backTo cpos (starEach es X.env)).any (·.1)) = false; rw [hplain] <;> rfl) (Calls.evalArgs_plain ?_)
 exact thn hA fun us s2 ⟨vs, H2, I2, r2, q2⟩ => hm pins s2 σ H2 x vs v us Q I2 r1 r2 q2
end
def MtM (X : Cx) (id : String) (r : V → List V → Hp → VK → Prop) : Prop :=
 ∀ (pins : List (Addr × Obj)) (s : Shared) (σ : St) (H : Hp) (x : V) (xs : List V) (v : Value) (us : List Value) (Q : VK), Inv X pins σ H s → RelV x v → Vals xs us → r x xs H Q →
  wpAny (model X.prog X.w) X.A (call (.builtin id) (v :: us)) (EP X pins σ Q) X.xe s
theorem Vals.one : ∀ {x : V} {us : List Value}, Vals [x] us → ∃ u, us = [u] ∧ RelV x u
 | _, _, .cons r .nil => ⟨_, rfl, r⟩
theorem Vals.zero : ∀ {us : List Value}, Vals [] us → us = []
 | _, .nil => rfl
theorem Vals.dropLast {xs : List V} {us : List Value} (h : Vals xs us) : Vals xs.dropLast us.dropLast := by
 induction h with
 | nil => exact .nil
 | cons r t ih =>
  cases t with
  | nil => exact .nil
  | cons q t' => exact .cons r ih
theorem Vals.reverse {xs : List V} {us : List Value} (h : Vals xs us) : Vals xs.reverse us.reverse := by
 induction h with
 | nil => exact .nil
 | cons r t ih => rw [List.reverse_cons, List.reverse_cons]; exact Vals.append ih (.cons r .nil)
theorem Vals.rep {xs : List V} {us : List Value} (h : Vals xs us) : ∀ k : Nat, Vals (List.replicate k xs).flatten (List.replicate k us).flatten
 | 0 => .nil
 | k + 1 => by
  rw [List.replicate_succ, List.replicate_succ, List.flatten_cons, List.flatten_cons]
  exact Vals.append h (Vals.rep h k)
theorem erase_last {α : Type} (l : List α) : l.eraseIdx (l.length - 1) = l.dropLast := by
 induction l with
 | nil => rfl
 | cons a r ih =>
  cases r with
  | nil => rfl
  | cons b r =>
   have e : (a :: b :: r).length - 1 = ((b :: r).length - 1) + 1 := by
    have h1 : (a :: b :: r).length = r.length + 2 := rfl
    have h2 : (b :: r).length = r.length + 1 := rfl
    omega
   rw [e, List.eraseIdx_cons_succ, ih]
   all_goals rfl
theorem foldl_rep (its : List Value) : ∀ (k : Nat) (acc : List Value),
  List.foldl (fun x1 x2 => x1 ++ x2) acc.toArray (List.replicate k its.toArray) = (acc ++ (List.replicate k its).flatten).toArray
 | 0, acc => by simp
 | k + 1, acc => by
  have e : acc.toArray ++ its.toArray = (acc ++ its).toArray := by simp
  have e2 : (acc ++ its) ++ (List.replicate k its).flatten = acc ++ (List.replicate (k + 1) its).flatten := by
   rw [List.replicate_succ, List.flatten_cons, List.append_assoc]
  rw [← e2, ← foldl_rep its k (acc ++ its), ← e, List.replicate_succ, List.foldl_cons]
section
variable {X : Cx} {pins : List (Addr × Obj)} {σ : St} {H : Hp} {s : Shared} {l b : Addr} {xs ys zs : List V}
theorem Inv.lset {its its' : List Value} {n : Nat} {f : Array Value → Array Value} {t' : Nat} (I : Inv X pins σ H s) (hH : H l = some (.lst xs))
  (e : s.heap.get? l = some { cls := .type "list", data := .seq its.toArray n }) (hf : f its.toArray = its'.toArray) (hv : Vals ys its') (hz : ys.length ≤ sizeLine) :
  Inv X pins σ (upd H l (.lst ys)) { s with heap := s.heap.update l (Obj.mapSeq f), toks := t' } := by
 have q := PySem.IsL.update e f
 rw [hf] at q
 refine I.write (x := l) (e := l) (by rw [hH]; exact trivial) (.inl rfl) (fun b' u hb hu => (Heap.get?_update_other s.heap (Obj.mapSeq f) (Ne.symm hb)).trans hu) ⟨_, q⟩ ?_
 exact ⟨hz, its', _, hv, q⟩
theorem Inv.lnew {its : List Value} {t' : Nat} (I : Inv X pins σ H s) (hv : Vals ys its) (hz : ys.length ≤ sizeLine) :
  Inv X pins σ (upd H s.heap.objs.size (.lst ys)) { s with heap := s.heap.push { cls := .type "list", data := .seq its.toArray }, toks := t' } :=
 I.laid (fun _ _ q => Heap.get?_push_of_some _ q) (Nat.le_refl _) ⟨hz, its, 0, hv, Heap.get?_push_size _ rfl⟩
theorem Inv.fresh (I : Inv X pins σ H s) : H s.heap.objs.size = none := I.hok.fresh (Nat.le_refl _)
theorem Inv.lstM (I : Inv X pins σ H s) (hH : H l = some (.lst xs)) : xs.length ≤ sizeLine ∧ ∃ (its : List Value) (n : Nat), Vals xs its ∧ xs.length = its.length ∧ s.heap.get? l = some { cls := .type "list", data := .seq its.toArray n } := by
 obtain ⟨z, its, n, r, e⟩ := I.hok l _ hH
 exact ⟨z, its, n, r, r.length, e⟩
theorem notLongL {n : Nat} (h : n ≤ sizeLine) : Builtin.List.listTooLong n = false := by
 unfold Builtin.List.listTooLong
 exact decide_eq_false (by omega)
end
section
variable {X : Cx}
def rAppend : V → List V → Hp → VK → Prop := fun x vs H Q => ∃ l xs y, x = .ref l ∧ vs = [y] ∧ H l = some (.lst xs) ∧ xs.length < sizeLine ∧ Q .non (upd H l (.lst (xs ++ [y])))
theorem mt_append : MtM X "list.append" rAppend := by
 intro pins s σ H x vs v us Q I rx rv h
 obtain ⟨l, xs, y, rfl, rfl, hH, hz, q⟩ := h
 cases rx
 obtain ⟨u, rfl, ru⟩ := rv.one
 obtain ⟨z, its, n, r, hl, e⟩ := I.lstM hH
 refine call_meets F.slot_list_append ⟨_, e, rfl⟩ F.entry_list_append (F.args_list_append_2 _ _) (PySem.list_append l its.toArray n u (by rw [List.size_toArray]; omega)) ⟨e, ?_⟩
 refine ⟨.non, _, I.lset (its' := its ++ [u]) hH e (by simp) (r.append (.cons ru .nil)) ?_, rfl, q⟩
 rw [List.length_append, List.length_singleton]
 omega
def rExtend : V → List V → Hp → VK → Prop := fun x vs H Q => ∃ l b xs zs, x = .ref l ∧ vs = [.ref b] ∧ H l = some (.lst xs) ∧ H b = some (.lst zs) ∧ xs.length + zs.length ≤ sizeLine ∧ Q .non (upd H l (.lst (xs ++ zs)))
theorem mt_extend : MtM X "list.extend" rExtend := by
 intro pins s σ H x vs v us Q I rx rv h
 obtain ⟨l, b, xs, zs, rfl, rfl, hH, hB, hz, q⟩ := h
 cases rx
 obtain ⟨u, rfl, ru⟩ := rv.one
 cases ru
 obtain ⟨z, its, n, r, hl, e⟩ := I.lstM hH
 obtain ⟨z2, its2, n2, r2, hl2, e2⟩ := I.lstM hB
 have hsz : its.toArray.size + its2.toArray.size ≤ sizeLine := by rw [List.size_toArray, List.size_toArray]; omega
 have hlong : ¬ (!its.toArray.isEmpty && Builtin.List.listTooLong (its.toArray.size + its2.toArray.size)) = true := by
  rw [notLongL hsz, Bool.and_false]
  exact Bool.false_ne_true
 refine call_meets F.slot_list_extend ⟨_, e, rfl⟩ F.entry_list_extend (F.args_list_extend_2 _ _)
  (AutoSeq1.list_extend_list_list_0 l its.toArray n b its2.toArray n2 hlong (by rw [List.size_toArray]; omega) (by omega)) ⟨e, e2, ?_⟩
 refine ⟨.non, _, I.lset (its' := its ++ its2) hH e (by simp) (r.append r2) ?_, rfl, q⟩
 rw [List.length_append]
 omega
def rPop : V → List V → Hp → VK → Prop := fun x vs H Q => ∃ l xs y, x = .ref l ∧ vs = [] ∧ H l = some (.lst xs) ∧ xs[xs.length - 1]? = some y ∧ Q y (upd H l (.lst xs.dropLast))
theorem mt_pop : MtM X "list.pop" rPop := by
 intro pins s σ H x vs v us Q I rx rv h
 obtain ⟨l, xs, y, rfl, rfl, hH, hy, q⟩ := h
 cases rx
 have hus := rv.zero
 subst hus
 obtain ⟨z, its, n, r, hl, e⟩ := I.lstM hH
 obtain ⟨u, hu, ru⟩ := r.get hy
 have hy' : its.toArray[its.toArray.size - 1]? = some u := by
  show its.toArray[its.length - 1]? = some u
  rw [← Array.getElem?_toList, ← hl]
  exact hu
 refine call_meets F.slot_list_pop ⟨_, e, rfl⟩ F.entry_list_pop (F.args_list_pop_1 _) (MeetsSeq.list_pop_last l its.toArray n u hy' (by rw [List.size_toArray]; omega)) ⟨e, ?_⟩
 refine ⟨y, _, I.lset (its' := its.dropLast) hH e ?_ r.dropLast ?_, ru, q⟩
 ·show its.toArray.eraseIdxIfInBounds (its.toArray.size - 1) = its.dropLast.toArray
  rw [List.size_toArray, List.eraseIdxIfInBounds_toArray, erase_last]
 ·rw [List.length_dropLast]
  omega
def rReverse : V → List V → Hp → VK → Prop := fun x vs H Q => ∃ l xs, x = .ref l ∧ vs = [] ∧ H l = some (.lst xs) ∧ Q .non (upd H l (.lst xs.reverse))
theorem mt_reverse : MtM X "list.reverse" rReverse := by
 intro pins s σ H x vs v us Q I rx rv h
 obtain ⟨l, xs, rfl, rfl, hH, q⟩ := h
 cases rx
 have hus := rv.zero
 subst hus
 obtain ⟨z, its, n, r, hl, e⟩ := I.lstM hH
 refine call_meets F.slot_list_reverse ⟨_, e, rfl⟩ F.entry_list_reverse (F.args_list_reverse_1 _) (AutoSeq1.list_reverse_list_0 l its.toArray n (by rw [List.size_toArray]; omega)) ⟨e, ?_⟩
 refine ⟨.non, _, I.lset (its' := its.reverse) hH e (by simp) r.reverse ?_, rfl, q⟩
 rw [List.length_reverse]
 omega
def rCat : R2 := fun x y H Q => ∃ l b xs zs, x = .ref l ∧ y = .ref b ∧ H l = some (.lst xs) ∧ H b = some (.lst zs) ∧ xs.length + zs.length ≤ sizeLine ∧ ∀ p, H p = none → Q (.ref p) (upd H p (.lst (xs ++ zs)))
theorem op_cat : OpR X (binaryOp .Add) rCat := by
 intro pins s σ H x y v u Q I rx ry h
 obtain ⟨l, b, xs, zs, rfl, rfl, hH, hB, hz, q⟩ := h
 cases rx
 cases ry
 obtain ⟨z, its, n, r, hl, e⟩ := I.lstM hH
 obtain ⟨z2, its2, n2, r2, hl2, e2⟩ := I.lstM hB
 refine PySem.P.add_list e e2 ?_ (by rw [List.size_toArray, List.size_toArray]; omega)
 have ea : its.toArray ++ its2.toArray = (its ++ its2).toArray := by simp
 rw [ea]
 exact ⟨.ref _, _, I.lnew (t' := s.toks) (r.append r2) (by rw [List.length_append]; omega), rfl, q _ I.fresh⟩
theorem len_rep {α : Type} (xs : List α) (k : Nat) : (List.replicate k xs).flatten.length = k * xs.length := by
 induction k with
 | zero => simp
 | succ k ih => rw [List.replicate_succ, List.flatten_cons, List.length_append, ih, Nat.succ_mul, Nat.add_comm]
end
end L2
namespace Att
open PySem PySem.W PySem.Calls PyProof.Rows
theorem ints_of_wellAll {P : Params} {h : Heap} : ∀ (ns : List Int) (vs : List Value), WellAll P h vs (ns.map WData.int) → IntsAre vs ns := by
 intro ns
 induction ns with
 | nil =>
  intro vs w
  rw [List.map_nil] at w
  cases w
  exact .nil
 | cons n ns ih =>
  intro vs w
  rw [List.map_cons] at w
  cases w with
  | cons a b =>
   cases a
   exact .cons _ _ (ih _ b)
theorem script_of {l : OpenLaw} {n : Nat} (hn : l.most = some n) {P : Params} {h : Heap} {args : List WData} {vals : List Value}
  (hpre : l.row.toRowW.claim.pre args = true) (hwl : WellAll P h vals args) :
  ∃ a vs ns, vals = [Value.ref a] ∧ args = [WData.list (ns.map WData.int)] ∧ h.get? a = some { cls := .type "list", data := .seq vs.toArray } ∧ IntsAre vs ns ∧ ns.length ≤ n := by
 have hsh : WShape.hasAll [] args [.list .int] = true := (pre_splitW hpre).1
 have hc : l.pre.holds [] { args := args } = true := (pre_splitW hpre).2
 obtain ⟨d, r, rfl, h1, h2⟩ := hasAllW_cons hsh
 obtain rfl := hasAllW_nil h2
 obtain ⟨xs, rfl, h3⟩ := hasW_list h1
 obtain ⟨ns, rfl⟩ := items_int h3
 have hlen : ns.length ≤ n := by
  unfold OpenLaw.pre at hc
  have h4 : (WTm.not (.lt (.lit (.int (n : Int))) (.len (.arg 0)))).holds [] { args := [.list (ns.map .int)] } = true := by
   have h4 := (holds_andW hc).1
   rw [hn] at h4
   exact h4
  have h5 := condW_of h4 (w_not (w_lt w_lit (w_len_list (w_arg rfl))))
  rw [List.length_map] at h5
  refine Nat.le_of_not_lt fun q => ?_
  have q' : (n : Int) < ((ns.length : Nat) : Int) := by omega
  first
   | (rw [decide_eq_true q'] at h5; exact absurd h5 (by decide))
   | (simp at h5; omega)
 cases hwl with
 | cons w1 w2 =>
  cases w2
  cases w1 with
  | list ho hall => exact ⟨_, _, ns, rfl, rfl, ho, ints_of_wellAll ns _ hall, hlen⟩
theorem post_true (l : OpenLaw) (args : List WData) : l.row.toRowW.claim.post args (.bool true) args = true :=
 postW_of (r := l.row.toRowW) (X := (true == true))
  (show WShape.has [] (.bool true) .bool = true by first | rfl | decide | simp [WShape.has, WShape.arms, WShape.armsAll])
  (show (WTm.eq .res (.lit (.bool true))).value [] { args := args, res := some (.bool true), after := args } = some (.bool (true == true)) from w_eq_bool (w_res rfl) w_lit) rfl
theorem attach_call {l : OpenLaw} {n : Nat} {q : Program} {loose : List Str} {XP : (Str → Option Value) → Heap → Prop} {YP : World → Heap → Prop} {d : DefRec}
  (hn : l.most = some n) (hdf : d.params.defaults = [])
  (call : ∀ (w : World) (s₀ s₁ : Shared) (mg mb : Str → Option Value) (fa : Addr) (o : Obj) (pm cd doc : Value) (a : Addr) (vs : List Value) (ns : List Int),
   Ground q loose [] XP w s₀ mg mb s₁.heap → YP w s₁.heap →
   s₁.heap.get? fa = some o → o.data = .func (docDef d.name d.params d.body d.scope pm cd doc) → s₁.heap.CodeRec cd d.name → mg d.name = some (.ref fa) →
   s₁.heap.get? a = some { cls := .type "list", data := .seq vs.toArray } → IntsAre vs ns → ns.length ≤ n → s₁.gens = #[] →
   codeAny (model l.prog w) callerA (.call (.ref fa) ⟨[.ref a], []⟩) (fun r s' => r = .ok (.ret (.bool true)) ∧ OldK s₁.heap s'.heap ∧ s'.os = s₁.os ∧ AllBare s'.gens) s₁) :
  WalkO q loose XP YP l.row.toRowW d [] (fun f vs => PySem.call f vs) := by
 intro w s₀ s₁ mg mb G Y fa o pm cd doc dV kV ho hd hcd hD hmg hg args vals as hpre hlay hrd hwl hlo
 obtain rfl : dV = .none := Dflts.none hD hdf
 obtain rfl : kV = .none := Dflts.noKw hD
 obtain ⟨a, vs, ns, rfl, rfl, hobj, hints, hlen⟩ := script_of hn hpre hwl
 refine enter_call (codeAny_mono (call w s₀ s₁ mg mb fa o pm cd doc a vs ns G Y ho (fd_plain hd) hcd hmg hobj hints hlen hg) fun r s' hq => ?_)
 obtain ⟨rfl, h2, h3, h4⟩ := hq
 exact ⟨.inl ⟨.bool true, .bool true, [], rfl, fun _ => rfl, .bool true, post_true l _, fun _ => ⟨List.Pairwise.nil, fun _ hm => (nomatch hm)⟩⟩, h2, h3, h4⟩
end Att
namespace L2
open PySem PySem.Spec PyProof.Rows
theorem vals_ints : ∀ {vs : List Value} {ns : List Int}, IntsAre vs ns → Vals (ns.map V.int) vs
 | _, _, .nil => .nil
 | _, _, .cons n t h => .cons ⟨t, rfl⟩ (vals_ints h)
def Only (H : Hp) : Prop := ∀ b, H b = none ∨ ∃ o xs, H b = some (.frz o (.lst xs))
theorem law_call {P : Program} {w : World} {K : PySem.W.Frag} {mg mb : Str → Option Value} {CX : CXT} {k : Nat} {fa a : Addr} {fd : FuncData} {x : Str} {sp : Sp} {s₁ : Shared} {vs : List Value} {ns : List Int}
  (KX : K.In s₁.heap) (hns : s₁.heap.Ns mainGlobals mg) (hb : s₁.heap.Ns builtinsNs mb) (hbb : ∀ x : Str, x ≠ "__name__" → mb x = bootBuiltins x) (hlim : s₁.heap.NoLimit) (hg : s₁.gens = #[])
  (ha : s₁.heap.get? a = some { cls := .type "list", data := .seq vs.toArray }) (hi : IntsAre vs ns) (hl : ns.length ≤ sizeLine) (hr : Room k callerA)
  (F : ∀ base : Heap, K.In base → base.Ns mainGlobals mg → FnOk P w K mg base CX k fa fd [x] sp) (hbind : ∀ (s : Shared) (u : Value), BindsTo s fd ⟨[u], []⟩ [(x, u)])
  (hsp : ∀ H : Hp, Only H → SqL K H a (ns.map V.int) → sp [.ref a] H (fun v _ => v = .bl true) fun _ _ _ => False)
  (hCX : ∀ H e s', CX [] H s₁ (fun _ _ _ => False) e s' → False) :
  codeAny (model P w) callerA (.call (.ref fa) ⟨[.ref a], []⟩) (fun r s' => r = .ok (.ret (.bool true)) ∧ OldK s₁.heap s'.heap ∧ s'.os = s₁.os ∧ AllBare s'.gens) s₁ := by
 have rv := vals_ints hi
 have lenV := hi.length
 have core : ∀ H : Hp, Only H → SqL K H a (ns.map V.int) → HOk P w H s₁.heap → (∀ b, H b ≠ none → b = a) → (H a ≠ none → K.lookup a = none) →
   codeAny (model P w) callerA (.call (.ref fa) ⟨[.ref a], []⟩) (fun r s' => r = .ok (.ret (.bool true)) ∧ OldK s₁.heap s'.heap ∧ s'.os = s₁.os ∧ AllBare s'.gens) s₁ := by
  intro H hO hS hok hA hK
  have base_of : ∀ {b : Addr} {o : Obj}, s₁.heap.get? b = some o → H b = none → (hidT s₁.heap H).get? b = some o := fun e n => hidT_get e n
  have noA : ∀ {b : Addr} {o : Obj} {es : Array DictEntry} {ep : Nat}, s₁.heap.get? b = some o → o.data = .dict es ep → H b = none := fun {b o es ep} e d => by
   cases q : H b with
   | none => rfl
   | some u =>
    have e' : b = a := hA b (by rw [q]; simp)
    subst e'
    rw [ha] at e; cases e
    have d' : Data.seq vs.toArray _ = Data.dict es ep := d
    cases d'
  have nsK : ∀ {b : Addr} {m : Str → Option Value}, s₁.heap.Ns b m → (hidT s₁.heap H).Ns b m := fun {b m} ⟨o, es, ep, e, d, r⟩ => ⟨o, es, ep, base_of e (noA e d), d, r⟩
  have hKb : K.In (hidT s₁.heap H) := fun b o e => base_of (KX b o e) (by
   cases q : H b with
   | none => rfl
   | some u =>
    have e' : b = a := hA b (by rw [q]; simp)
    subst e'
    rw [hK (by rw [q]; simp)] at e; cases e)
  have hM : Mod K mg (hidT s₁.heap H) := ⟨hKb, nsK hns, ⟨mb, nsK hb, hbb⟩, let ⟨mc, h1, h2⟩ := hlim; ⟨mc, nsK h1, h2⟩⟩
  have e0 : Env0 P w K mg (hidT s₁.heap H) callerA [] s₁ H := ⟨rfl, hM, fun b o e => of_hidT e, Nat.le_of_eq (hidT_size _ _), trivial, fun b hb => absurd (show b ∈ ([] : List Addr) from hb) (by simp), hok, .of_eq hg⟩
  refine codeAny_mono ((F _ hKb (nsK hns)).run callerA [] s₁ H ⟨[.ref a], []⟩ [.ref a] [.ref a] _ _ hr e0 (hbind s₁ (.ref a)) (.cons rfl .nil) (hsp H hO hS)) fun r s' h => ?_
  cases r with
  | error e => exact (hCX H e s' h).elim
  | ok fl =>
   cases fl with
   | next => exact False.elim h
   | brk => exact False.elim h
   | cont => exact False.elim h
   | ret u =>
    obtain ⟨v, H', os, bare, un, hok', r', q⟩ := h
    have q' : v = .bl true := q
    subst q'
    obtain rfl : u = Value.bool true := r'
    refine ⟨rfl, OldK.of_keep fun b o e => ?_, os, bare⟩
    cases q : H b with
    | none => exact un.keep b o e q (by intro z; exact absurd (show b ∈ ([] : List Addr) from z) (by simp)) (by simp)
    | some u =>
     rcases hO b with z | ⟨ob, xs, z⟩
     ·rw [q] at z; cases z
     ·have z2 := un.frzs b ob _ z
      obtain ⟨e1, _⟩ := hok b _ z
      obtain ⟨e2, _⟩ := hok' b _ z2
      rw [e] at e1; cases e1
      exact e2
 cases hk : K.lookup a with
 | some o =>
  have e := KX a o hk
  rw [ha] at e
  cases e
  refine core (fun _ => none) (fun _ => .inl rfl) (.inr ⟨_, vs.toArray, _, hk, rfl, rfl, rfl, by rw [List.size_toArray, lenV]; exact hl, by simpa using rv⟩) (fun b u z => by have z' : (none : Option HO) = some u := z; cases z') (fun b z => absurd rfl z) fun z => absurd rfl z
 | none =>
  refine core (fun b => if b = a then some (.frz { cls := .type "list", data := .seq vs.toArray } (.lst (ns.map V.int))) else none) (fun b => ?_) (.inl (.inr ⟨{ cls := .type "list", data := .seq vs.toArray }, if_pos rfl⟩)) (fun b u z => ?_) (fun b z => ?_) fun _ => hk
  ·by_cases hb : b = a
   ·exact .inr ⟨_, _, if_pos hb⟩
   ·exact .inl (if_neg hb)
  ·by_cases hb : b = a
   ·have z' := (if_pos hb).symm.trans z
    cases z'
    subst hb
    exact ⟨ha, by rw [List.length_map]; exact hl, vs, _, rv, ha⟩
   ·have z' := (if_neg hb).symm.trans z
    cases z'
  ·by_cases hb : b = a
   ·exact hb
   ·exact absurd (if_neg hb) z
theorem walk_of {l : PySem.W.OpenLaw} {n k : Nat} {q : Program} {loose : List Str} {XP : (Str → Option Value) → Heap → Prop} {YP : World → Heap → Prop} {d : DefRec} {K : Params → PySem.W.Frag} {CX : World → CXT} {sp : World → Sp} {x : Str}
  (hn : l.most = some n) (hn2 : n ≤ sizeLine) (hdf : d.params.defaults = []) (hr : Room k callerA)
  (hY : ∀ (w : World) (h : Heap), YP w h → (K w.params).In h)
  (F : ∀ (w : World) (mg : Str → Option Value) (fa : Addr) (h : Heap), (K w.params).In h → h.Ns mainGlobals mg → mg d.name = some (.ref fa) →
   ∃ fd : FuncData, (∀ (s : Shared) (u : Value), BindsTo s fd ⟨[u], []⟩ [(x, u)]) ∧
    ∀ base : Heap, (K w.params).In base → base.Ns mainGlobals mg → FnOk l.prog w (K w.params) mg base (CX w) k fa fd [x] (sp w))
  (hsp : ∀ (w : World) (H : Hp) (a : Addr) (ns : List Int), ns.length ≤ n → Only H → SqL (K w.params) H a (ns.map V.int) → sp w [.ref a] H (fun v _ => v = .bl true) fun _ _ _ => False)
  (hCX : ∀ (w : World) (H : Hp) (s : Shared) (e : Value) (s' : Shared), CX w [] H s (fun _ _ _ => False) e s' → False) :
  PySem.W.WalkO q loose XP YP l.row.toRowW d [] (fun f vs => PySem.call f vs) := by
 refine Att.attach_call hn hdf fun w s₀ s₁ mg mb fa o pm cd doc a vs ns G Y ho hd hcd hmg hobj hints hlen hg => ?_
 have KX := hY w _ Y
 obtain ⟨fd, hb, hF⟩ := F w mg fa _ KX G.T.g hmg
 exact law_call KX G.T.g G.T.b G.T.builtins G.T.nolimit hg hobj hints (Nat.le_trans hlen hn2) hr hF hb (fun H hO hS => hsp w H a ns hlen hO hS) fun H e s' => hCX w H s₁ e s'
def inClass (s : Stmt) (j : Nat) : Stmt := match s with
 | .ClassDef _ _ _ body _ _ _ _ _ _ _ => body.getD j (.Pass ⟨0, 0, 0, 0⟩)
 | _ => .Pass ⟨0, 0, 0, 0⟩
def defArgs (s : Stmt) : Arguments := match s with
 | .FunctionDef _ a _ _ _ _ _ _ _ _ => a
 | _ => { posonlyargs := [], args := [], vararg := none, kwonlyargs := [], kw_defaults := [], kwarg := none, defaults := [] }
def defBody (s : Stmt) : List Stmt := match s with
 | .FunctionDef _ _ b _ _ _ _ _ _ _ => b
 | _ => []
def defScope (s : Stmt) : Scope := match s with
 | .FunctionDef _ _ _ _ _ _ sc _ _ _ => sc
 | _ => { kind := .function, names := [], isGenerator := false, isCoroutine := false }
abbrev CX0 : CXT := fun _ _ _ _ _ _ => False
abbrev E0 : XK := fun _ _ _ => False
theorem pass0 {X : Cx} : Passes CX0 X E0 := fun _ _ _ _ _ _ _ h => h.elim
structure Fun (K : PySem.W.Frag) (x qual : Str) (st : Stmt) (f : Addr) (fd : FuncData) : Prop where
 ex : ∃ (oc : Value) (od : Option Addr) (kV doc pm : Value) (an : Option Addr) (cdv ct : Value) (osl : Array (Option Value)),
  fd = PySem.W.fnOf x qual (defArgs st) (defBody st) (defScope st) .none kV doc pm an cdv ct ∧ K.lookup f = some ⟨oc, od, .func fd, osl⟩ ∧ PySem.W.codeIn K cdv qual = true
 kp : PySem.W.keepIn K (.ref f) = true
section
variable {P : Program} {w : World} {K : PySem.W.Frag} {mg : Str → Option Value} {base : Heap}
theorem Fun.ok {x qual : Str} {st : Stmt} {f : Addr} {fd : FuncData} {N ps : List Str} {k : Nat} {sp : Sp} (F : Fun K x qual st f fd) (S : FnScope N ps (defScope st)) (len : ∀ vs H Q E, sp vs H Q E → vs.length = ps.length)
  (hbody : ∀ (cdv : Value) (A : Around) (outer : List Env) (s : Shared) (H : Hp) (vs : List V) (Q : VK) (E : XK), Room k (A.deeper (envOfC qual (defScope st) s.heap.objs.size f cdv)) → sp vs H Q E →
   ∃ t, PSs (cxOf CX0 P w K mg base N qual (defScope st) f cdv A outer s H E).nox (defBody st) t ∧ t { nx := fun _ H' => Q .non H', rt := Q } (start N vs) H) : FnOk P w K mg base CX0 (k + 1) f fd ps sp := by
 obtain ⟨oc, od, kV, doc, pm, an, cdv, ct, osl, rfl, lk, hcd⟩ := F.ex
 refine fn_of lk hcd S len fun A outer s H vs Q E hr hsp => ?_
 obtain ⟨t, h, q⟩ := hbody cdv A outer s H vs Q E hr hsp
 exact ⟨t, h.nox, q⟩
theorem Fun.binds {x qual : Str} {st : Stmt} {f : Addr} {fd : FuncData} {ps : List Str} (F : Fun K x qual st f fd)
  (h : ∀ (kV doc pm : Value) (an : Option Addr) (cdv ct : Value) (us : List Value), us.length = ps.length → bindArgs (PySem.W.fnOf x qual (defArgs st) (defBody st) (defScope st) .none kV doc pm an cdv ct) ⟨us, []⟩ = pure (ps.zip us)) : Binds K fd ps [] := by
 obtain ⟨oc, od, kV, doc, pm, an, cdv, ct, osl, rfl, lk, hcd⟩ := F.ex
 exact .all (h kV doc pm an cdv ct)
theorem fun_mk {x qual : Str} {st : Stmt} {f : Addr} {oc : Value} {od an : Option Addr} {osl : Array (Option Value)} {kV doc pm cdv ct : Value} (l : K.lookup f = some ⟨oc, od, .func (PySem.W.fnOf x qual (defArgs st) (defBody st) (defScope st) .none kV doc pm an cdv ct), osl⟩)
  (c : PySem.W.codeIn K cdv qual = true) (k : PySem.W.keepIn K (.ref f) = true) : Fun K x qual st f (PySem.W.fnOf x qual (defArgs st) (defBody st) (defScope st) .none kV doc pm an cdv ct) := ⟨⟨oc, od, kV, doc, pm, an, cdv, ct, osl, rfl, l, c⟩, k⟩
end
theorem hu_of {A : Around} {k : Nat} (hr : Room k A) : A.units + 1 < cLine := Nat.lt_of_le_of_lt (Nat.add_le_add_left (by decide : 1 ≤ 64) _) hr.units
section
variable {X : Cx}
theorem pv (i : Nat) {x : Str} {pos : Pos} (hN : X.N[i]? = some x := by rfl) (hv : Vis X.env.scope x := by first | exact Or.inl rfl | exact Or.inr (Or.inl rfl) | exact Or.inr (Or.inr rfl)) (hd : (x == ("__debug__" : Str)) = false := by decide)
  (hcd : (x == ("__classdict__" : Str)) = false := by decide) : PE X (.Name x pos) (tVar i) := pe_var hN hv hd hcd
end
theorem iteF {A B : Prop} (h : B) : if false = true then A else B := by
 rw [if_neg Bool.false_ne_true]
 exact h
theorem iteT {A B : Prop} (h : A) : if true = true then A else B := by
 rw [if_pos rfl]
 exact h
theorem ite2 {c A B : Prop} [Decidable c] (h1 : c → A) (h2 : ¬ c → B) : if c then A else B := by
 by_cases h : c
 ·rw [if_pos h]
  exact h1 h
 ·rw [if_neg h]
  exact h2 h
def Same (H H' : Hp) : Prop := ∀ b o, H b = some o → H' b = some o
theorem Same.refl (H : Hp) : Same H H := fun _ _ h => h
theorem Same.trans {H H1 H2 : Hp} (a : Same H H1) (b : Same H1 H2) : Same H H2 := fun c o h => b c o (a c o h)
theorem Same.free {H H' : Hp} (e : Same H H') {l : Addr} (h : H' l = Option.none) : H l = Option.none := by
 cases q : H l with
 | none => rfl
 | some o =>
  rw [e l o q] at h
  cases h
theorem Same.seq {K : PySem.W.Frag} {H H' : Hp} {a : Addr} {xs : List V} (e : Same H H') (h : SqL K H a xs) : SqL K H' a xs := by
 rcases h with (h | ⟨o, h⟩) | h
 ·exact .inl (.inl (e _ _ h))
 ·exact .inl (.inr ⟨o, e _ _ h⟩)
 ·exact .inr h
section
variable {κ : Type} [DecidableEq κ]
def valV (kvs : List (κ × V)) (k : κ) : Option V := (kvs.find? fun kv => decide (kv.1 = k)).map (·.2)
def putK (kvs : List (κ × V)) (k : κ) (v : V) : List (κ × V) :=
 if (kvs.any fun kv => decide (kv.1 = k)) = true then kvs.map (fun kv => if kv.1 = k then (kv.1, v) else kv) else kvs ++ [(k, v)]
theorem valV_pos {p : κ × V} {r : List (κ × V)} {k : κ} (e : p.1 = k) : valV (p :: r) k = some p.2 := by simp [valV, List.find?_cons, e]
theorem valV_neg {p : κ × V} {r : List (κ × V)} {k : κ} (e : ¬ p.1 = k) : valV (p :: r) k = valV r k := by simp [valV, List.find?_cons, e]
theorem valV_any (k : κ) : ∀ kvs : List (κ × V), (kvs.any fun kv => decide (kv.1 = k)) = (valV kvs k).isSome
 | [] => rfl
 | p :: r => by
  rw [List.any_cons]
  by_cases e : p.1 = k
  ·simp only [valV_pos e, decide_eq_true e, Bool.true_or, Option.isSome_some]
  ·rw [valV_neg e, decide_eq_false e, Bool.false_or]; exact valV_any k r
theorem valV_map (k j : κ) (y : V) : ∀ kvs : List (κ × V), valV (kvs.map fun kv => if kv.1 = k then (kv.1, y) else kv) j = (valV kvs j).map fun x => if j = k then y else x
 | [] => rfl
 | p :: r => by
  have ih := valV_map k j y r
  rw [List.map_cons]
  by_cases h : p.1 = k
  ·rw [if_pos h]
   by_cases e : p.1 = j
   ·rw [valV_pos (p := (p.1, y)) e, valV_pos e, Option.map_some, if_pos (e.symm.trans h)]
   ·rw [valV_neg (p := (p.1, y)) e, valV_neg e, ih]
  ·rw [if_neg h]
   by_cases e : p.1 = j
   ·rw [valV_pos (p := p) e, valV_pos e, Option.map_some, if_neg (fun z => h (e.trans z))]
   ·rw [valV_neg (p := p) e, valV_neg e, ih]
theorem valV_snoc (k j : κ) (y : V) : ∀ kvs : List (κ × V), valV kvs k = none → valV (kvs ++ [(k, y)]) j = if j = k then some y else valV kvs j
 | [], _ => by
  by_cases e : k = j
  ·rw [if_pos e.symm]; exact valV_pos (p := (k, y)) e
  ·rw [if_neg (fun z => e z.symm)]; exact valV_neg (p := (k, y)) e
 | p :: r, hn => by
  rw [List.cons_append]
  have hk : ¬ p.1 = k := fun z => by rw [valV_pos z] at hn; cases hn
  rw [valV_neg hk] at hn
  have ih := valV_snoc k j y r hn
  by_cases e : p.1 = j
  ·rw [valV_pos e, valV_pos e, if_neg (fun z => hk (e.trans z))]
  ·rw [valV_neg e, valV_neg e, ih]
theorem valV_put (kvs : List (κ × V)) (k j : κ) (y : V) : valV (putK kvs k y) j = if j = k then some y else valV kvs j := by
 unfold putK
 by_cases a : (kvs.any fun kv => decide (kv.1 = k)) = true
 ·rw [if_pos a, valV_map]
  rw [valV_any] at a
  by_cases e : j = k
  ·obtain ⟨x, hx⟩ := Option.isSome_iff_exists.mp a
   rw [if_pos e, e, hx, Option.map_some, if_pos rfl]
  ·rw [if_neg e]
   cases valV kvs j with
   | none => rfl
   | some x => rw [Option.map_some, if_neg e]
 ·rw [if_neg a]
  refine valV_snoc k j y kvs ?_
  rw [valV_any] at a
  cases q : valV kvs k with
  | none => rfl
  | some x => rw [q] at a; exact (a rfl).elim
theorem length_putK (kvs : List (κ × V)) (k : κ) (v : V) : (putK kvs k v).length ≤ kvs.length + 1 := by
 unfold putK
 split
 ·rw [List.length_map]; omega
 ·rw [List.length_append, List.length_cons, List.length_nil]; omega
theorem RelO.isSome_eq {o : Option V} {u : Option Value} (r : RelO o u) : o.isSome = u.isSome := by
 cases o with
 | none => cases u with
  | none => rfl
  | some _ => exact (show False from r).elim
 | some _ => cases u with
  | none => exact (show False from r).elim
  | some _ => rfl
theorem KV.val {kvs : List (κ × V)} {vs : List (κ × Value)} (r : KV kvs vs) (k : κ) : RelO (valV kvs k) (valueAt vs k) := by
 unfold KV at r
 induction r with
 | nil => exact True.intro
 | @cons p q ps qs h t ih =>
  obtain ⟨h1, h2⟩ := h
  by_cases e : p.1 = k
  ·have e' : q.1 = k := h1.symm.trans e
   have b : valueAt (q :: qs) k = some q.2 := by simp [valueAt, List.find?_cons, e']
   rw [valV_pos e, b]; exact h2
  ·have e' : ¬ q.1 = k := fun z => e (h1.trans z)
   have b : valueAt (q :: qs) k = valueAt qs k := by simp [valueAt, List.find?_cons, e']
   rw [valV_neg e, b]; exact ih
theorem KV.any {kvs : List (κ × V)} {vs : List (κ × Value)} (r : KV kvs vs) (k : κ) : (kvs.any fun kv => decide (kv.1 = k)) = vs.any fun kv => decide (kv.1 = k) := by
 unfold KV at r
 induction r with
 | nil => rfl
 | cons h t ih => rw [List.any_cons, List.any_cons, ih, h.1]
theorem KV.repl {kvs : List (κ × V)} {vs : List (κ × Value)} (r : KV kvs vs) (k : κ) {y : V} {u : Value} (ry : RelV y u) :
  KV (kvs.map fun kv => if kv.1 = k then (kv.1, y) else kv) (vs.map fun kv => if kv.1 = k then (kv.1, u) else kv) := by
 unfold KV at r ⊢
 induction r with
 | nil => exact .nil
 | @cons p q ps qs h t ih =>
  rw [List.map_cons, List.map_cons]
  refine .cons ?_ ih
  obtain ⟨h1, h2⟩ := h
  by_cases e : p.1 = k
  ·rw [if_pos e, if_pos (h1.symm.trans e)]; exact ⟨h1, ry⟩
  ·rw [if_neg e, if_neg (fun z => e (h1.trans z))]; exact ⟨h1, h2⟩
theorem KV.put {kvs : List (κ × V)} {vs : List (κ × Value)} (r : KV kvs vs) (k : κ) {y : V} {u : Value} (ry : RelV y u) : KV (putK kvs k y) (stored vs k u) := by
 unfold putK stored
 rw [r.any k]
 by_cases e : (vs.any fun kv => decide (kv.1 = k)) = true
 ·rw [if_pos e, if_pos e]; exact r.repl k ry
 ·rw [if_neg e, if_neg e]; exact Paired.snoc r ⟨rfl, ry⟩
theorem KV.length {kvs : List (κ × V)} {vs : List (κ × Value)} (r : KV kvs vs) : kvs.length = vs.length := Paired.length r
end
theorem kV_is {P : Program} {w : World} {k : Key} {u : Value} (r : RelV (kV k) u) : (mixKind P w).is k u = true := by
 cases k with
 | inl i => obtain ⟨t, e⟩ := (show ∃ t, u = Value.int i t from r); subst e; exact mixKind_int P w i t
 | inr x => obtain ⟨t, e⟩ := (show ∃ t, u = Value.str x t from r); subst e; exact mixKind_str P w x t
theorem items_are {P : Program} {w : World} : ∀ {ks : List Key} {us : List Value}, Vals (ks.map kV) us → ItemsAre (mixKind P w) ks us
 | [], _, r => by rw [List.map_nil] at r; cases r; exact .nil
 | k :: ks, _, r => by
  rw [List.map_cons] at r
  cases r with
  | cons h t => exact .cons (kV_is h) (items_are t)
abbrev KT (H : Hp) : List (List Key × V) → List (List Key × Addr × Value) → Prop := Paired fun p q => p.1 = q.1 ∧ H q.2.1 = some (.tup (p.1.map kV)) ∧ RelV p.2 q.2.2
theorem KT.val {H : Hp} {kvs : List (List Key × V)} {xs : List (List Key × Addr × Value)} (r : KT H kvs xs) (k : List Key) : RelO (valV kvs k) ((atKey xs k).map (·.2)) := by
 induction r with
 | nil => exact True.intro
 | @cons p q ps qs h t ih =>
  obtain ⟨h1, _, h2⟩ := h
  by_cases e : p.1 = k
  ·have e' : q.1 = k := h1.symm.trans e
   have b : atKey (q :: qs) k = some q.2 := by simp [atKey, List.find?_cons, e']
   rw [valV_pos e, b]; exact h2
  ·have e' : ¬ q.1 = k := fun z => e (h1.trans z)
   have b : atKey (q :: qs) k = atKey qs k := by simp [atKey, List.find?_cons, e']
   rw [valV_neg e, b]; exact ih
theorem KT.repl {H : Hp} {kvs : List (List Key × V)} {xs : List (List Key × Addr × Value)} (r : KT H kvs xs) (k : List Key) {y : V} {u : Value} (ry : RelV y u) :
  KT H (kvs.map fun kv => if kv.1 = k then (kv.1, y) else kv) (xs.map (putAt k u)) := by
 induction r with
 | nil => exact .nil
 | @cons p q ps qs h t ih =>
  rw [List.map_cons, List.map_cons]
  refine .cons ?_ ih
  obtain ⟨h1, h2, h3⟩ := h
  unfold putAt
  by_cases e : p.1 = k
  ·rw [if_pos e, if_pos (h1.symm.trans e)]; exact ⟨h1, h2, ry⟩
  ·rw [if_neg e, if_neg (fun z => e (h1.trans z))]; exact ⟨h1, h2, h3⟩
theorem KT.put {H : Hp} {kvs : List (List Key × V)} {xs : List (List Key × Addr × Value)} (r : KT H kvs xs) (k : List Key) {b : Addr} {y : V} {u : Value} (hb : H b = some (.tup (k.map kV))) (ry : RelV y u) :
  KT H (putK kvs k y) (storedH xs k b u) := by
 have e : (kvs.any fun kv => decide (kv.1 = k)) = (atKey xs k).isSome := by
  rw [valV_any, (r.val k).isSome_eq, Option.isSome_map]
 unfold putK storedH
 rw [e]
 by_cases q : (atKey xs k).isSome = true
 ·rw [if_pos q, if_pos q]; exact r.repl k ry
 ·rw [if_neg q, if_neg q]; exact Paired.snoc r ⟨rfl, hb, ry⟩
theorem KT.keeps {H H' : Hp} {kvs : List (List Key × V)} {xs : List (List Key × Addr × Value)} (r : KT H kvs xs) (ht : ∀ b ys, H b = some (.tup ys) → H' b = some (.tup ys)) : KT H' kvs xs :=
 Paired.mapP r fun _ _ z => ⟨z.1, ht _ _ z.2.1, z.2.2⟩
section
variable {P : Program} {w : World} {H : Hp} {h : Heap} {a : Addr}
theorem rd_of {u : HO} (ok : HOk P w H h) (e : Rd H a u) : ObjOk P w H h a u := e.ok ok
theorem dk_rd {kvs : List (Key × V)} (ok : HOk P w H h) (e : Rd H a (.dK kvs)) : kvs.length ≤ sizeLine ∧ (a == sysModules) = false ∧ ∃ vs, KV kvs vs ∧ h.DictOf (mixKind P w) a vs :=
 show ObjOk P w H h a (.dK kvs) from rd_of ok e
theorem dk_of {kvs : List (Key × V)} (ok : HOk P w H h) (e : H a = some (.dK kvs)) : kvs.length ≤ sizeLine ∧ (a == sysModules) = false ∧ ∃ vs, KV kvs vs ∧ h.DictOf (mixKind P w) a vs := dk_rd ok (.inl e)
theorem key_of {ks : List Key} (ok : HOk P w H h) (e : H a = some (.tup (ks.map kV))) : (tupleKind (mixKind P w)).is h ks a := by
 obtain ⟨_, its, r, o, h1, h2, n, h3⟩ := (show ObjOk P w H h a (.tup (ks.map kV)) from ok a _ e)
 exact ⟨o, its.toArray, n, h1, h2, h3, by simpa using items_are r⟩
theorem dt_rd {kvs : List (List Key × V)} (ok : HOk P w H h) (e : Rd H a (.dT kvs)) : kvs.length ≤ sizeLine ∧ (a == sysModules) = false ∧
  ∃ xs, KT H kvs xs ∧ h.DictOfH (tupleKind (mixKind P w)) a xs := by
 obtain ⟨z, y, xs, r, o, es, ep, h1, h2, h3, h4, h5⟩ := (show ObjOk P w H h a (.dT kvs) from rd_of ok e)
 refine ⟨z, y, xs, r, o, es, ep, h1, h2, h3, h4, fun x hx => ?_, h5⟩
 have all : ∀ {l : List (List Key × V)} {m : List (List Key × Addr × Value)}, KT H l m → ∀ x ∈ m, (tupleKind (mixKind P w)).is h x.1 x.2.1 := by
  intro l m q
  induction q with
  | nil => intro x hx; exact nomatch hx
  | @cons p q ps qs hq t ih =>
   intro x hx
   rcases List.mem_cons.mp hx with e | hx
   ·subst e
    exact key_of ok (by rw [← hq.1]; exact hq.2.1)
   ·exact ih x hx
 exact all r x hx
theorem dt_of {kvs : List (List Key × V)} (ok : HOk P w H h) (e : H a = some (.dT kvs)) : kvs.length ≤ sizeLine ∧ (a == sysModules) = false ∧
  ∃ xs, KT H kvs xs ∧ h.DictOfH (tupleKind (mixKind P w)) a xs := dt_rd ok (.inl e)
end
def DGet (H : Hp) (a : Addr) (y : V) (r : Option V) : Prop :=
 (∃ kvs k, Rd H a (.dK kvs) ∧ y = kV k ∧ r = valV kvs k) ∨ ∃ kvs k b, Rd H a (.dT kvs) ∧ y = .ref b ∧ H b = some (.tup (k.map kV)) ∧ r = valV kvs k
def DPut (H : Hp) (a : Addr) (y v : V) (H' : Hp) : Prop :=
 (∃ kvs k, H a = some (.dK kvs) ∧ y = kV k ∧ kvs.length < sizeLine ∧ H' = upd H a (.dK (putK kvs k v))) ∨
 ∃ kvs k b, H a = some (.dT kvs) ∧ y = .ref b ∧ H b = some (.tup (k.map kV)) ∧ kvs.length < sizeLine ∧ H' = upd H a (.dT (putK kvs k v))
theorem DGet.k {H : Hp} {a : Addr} {kvs : List (Key × V)} {k : Key} (e : H a = some (.dK kvs)) : DGet H a (kV k) (valV kvs k) := .inl ⟨kvs, k, .inl e, rfl, rfl⟩
theorem DPut.k {H : Hp} {a : Addr} {kvs : List (Key × V)} {k : Key} {v : V} (e : H a = some (.dK kvs)) (hl : kvs.length < sizeLine) : DPut H a (kV k) v (upd H a (.dK (putK kvs k v))) := .inl ⟨kvs, k, e, rfl, hl, rfl⟩
theorem DPut.t {H : Hp} {a b : Addr} {kvs : List (List Key × V)} {k : List Key} {v : V} (e : H a = some (.dT kvs)) (eb : H b = some (.tup (k.map kV))) (hl : kvs.length < sizeLine) :
  DPut H a (.ref b) v (upd H a (.dT (putK kvs k v))) := .inr ⟨kvs, k, b, e, rfl, eb, hl, rfl⟩
section
variable {X : Cx} {pins : List (Addr × Obj)} {σ : St} {H : Hp} {s : Shared} {a : Addr} {y v : V} {u r : Value} {o : Option V} {A : Around} {E : Value → Shared → Prop}
theorem Inv.big (I : Inv X pins σ H s) : sysModules < s.heap.objs.size := by
 have h : mainGlobals < s.heap.objs.size := (I.mod.glob.keeps I.bk).lt
 exact Nat.lt_trans (by decide) h
theorem d_getItem {Q : Value → Shared → Prop} (hu : A.units + 1 < cLine) (I : Inv X pins σ H s) (g : DGet H a y (some v)) (ry : RelV y u) (h : ∀ w' s', Inv X pins σ H s' → RelV v w' → Q w' s') :
  wpAny (model X.prog X.w) A (getItem (.ref a) u) Q E s := by
 rcases g with ⟨kvs, k, e, ey, l⟩ | ⟨kvs, k, b, e, ey, eb, l⟩
 ·subst ey
  obtain ⟨z, hd, vs, rel, dd⟩ := dk_rd I.hok e
  obtain ⟨w', hw, rw'⟩ := RelO.some_of (v := v) (o := valueAt vs k) (by rw [l]; exact rel.val k)
  exact wpAny_getItem_of (kV_is ry) dd.mapOf hw (h w' _ (I.tok _) rw')
 ·subst ey
  cases (show u = Value.ref b from ry)
  obtain ⟨z, hd, xs, rel, dd⟩ := dt_rd I.hok e
  obtain ⟨w', hw, rw'⟩ := RelO.some_of (v := v) (o := (atKey xs k).map (·.2)) (by rw [l]; exact rel.val k)
  obtain ⟨p, hp, hp2⟩ := Option.map_eq_some_iff.mp hw
  refine wpAny_getItem_heap (tupleKind_room_in1 hu) (key_of I.hok eb) dd hp ?_
  rw [hp2]
  exact h w' _ (I.tok _) rw'
theorem d_notIn {Q : Value → Shared → Prop} (hu : A.units + 1 < cLine) (I : Inv X pins σ H s) (g : DGet H a y o) (ry : RelV y u) (h : ∀ s', Inv X pins σ H s' → Q (.bool (!o.isSome)) s') :
  wpAny (model X.prog X.w) A (compareOp .NotIn u (.ref a)) Q E s := by
 rcases g with ⟨kvs, k, e, ey, l⟩ | ⟨kvs, k, b, e, ey, eb, l⟩
 ·subst ey
  obtain ⟨z, hd, vs, rel, dd⟩ := dk_rd I.hok e
  refine wpAny_notIn_of (kV_is ry) hd dd.mapOf ?_
  rw [← (rel.val k).isSome_eq, ← l]
  exact h _ (I.tok _)
 ·subst ey
  cases (show u = Value.ref b from ry)
  obtain ⟨z, hd, xs, rel, dd⟩ := dt_rd I.hok e
  refine wpAny_notIn_heap (tupleKind_room_in1 hu) (key_of I.hok eb) hd dd ?_
  have q := (rel.val k).isSome_eq
  rw [Option.isSome_map] at q
  rw [← q, ← l]
  exact h _ (I.tok _)
theorem d_write {h' : Heap} {t' : Nat} {ob : HO} (I : Inv X pins σ H s) (mu : Mut (H a)) (hs : Heap.SameBut a s.heap h') (he : ∃ q, h'.get? a = some q) (new : ObjOk X.prog X.w (upd H a ob) h' a ob) :
  Inv X pins σ (upd H a ob) { s with heap := h', toks := t' } :=
 I.write (x := a) (e := a) mu (.inl rfl) (fun b q hb z => (hs.2 b hb).trans z) he new
theorem dk_new {P : Program} {w : World} {H' : Hp} {h' : Heap} {kvs : List (Key × V)} {vs : List (Key × Value)} (z : kvs.length ≤ sizeLine) (hd : (a == sysModules) = false) (rel : KV kvs vs) (dd : h'.DictOf (mixKind P w) a vs) :
  ObjOk P w H' h' a (.dK kvs) := ⟨z, hd, vs, rel, dd⟩
theorem d_setItem {H' : Hp} {Q : Unit → Shared → Prop} (hu : A.units + 1 < cLine) (I : Inv X pins σ H s) (g : DPut H a y v H') (ry : RelV y u) (rv : RelV v r) (h : ∀ s', Inv X pins σ H' s' → Q () s') :
  wpAny (model X.prog X.w) A (setItem (.ref a) u r) Q E s := by
 rcases g with ⟨kvs, k, e, ey, l, eH⟩ | ⟨kvs, k, b, e, ey, eb, l, eH⟩
 ·subst ey eH
  obtain ⟨z, hd, vs, rel, dd⟩ := dk_of I.hok e
  have hz : vs.length ≤ sizeLine := by rw [← rel.length]; exact z
  have hl : (putK kvs k v).length ≤ sizeLine := by have := length_putK kvs k v; omega
  refine wpAny_setItem_pairs (hsz := hz) (kV_is ry) dd fun h' dd' hs => h _ ?_
  have he : ∃ q, h'.get? a = some q := let ⟨q, _, _, hq, _⟩ := dd'; ⟨q, hq⟩
  exact d_write I (by rw [e]; exact True.intro) hs he (dk_new hl hd (rel.put k rv) dd')
 ·subst ey eH
  cases (show u = Value.ref b from ry)
  obtain ⟨z, hd, xs, rel, dd⟩ := dt_of I.hok e
  have hz : xs.length ≤ sizeLine := by rw [← Paired.length rel]; exact z
  have hl : (putK kvs k v).length ≤ sizeLine := by have := length_putK kvs k v; omega
  refine wpAny_setItem_heap (hsz := hz) (tupleKind_room_in1 hu) (key_of I.hok eb) dd fun h' dd' hs => h _ ?_
  obtain ⟨q, es, ep, hq, h2, h3, h4, _, h5⟩ := dd'
  refine d_write I (by rw [e]; exact True.intro) hs ⟨q, hq⟩ ⟨hl, hd, _, (rel.put k eb rv).keeps fun c ys ec => ?_, q, es, ep, hq, h2, h3, h4, h5⟩
  rw [upd_ne (ne_of ec e (fun z => nomatch z))]
  exact ec
end
def NoSl (i : Expr) : Prop := ∀ ov iv, subscripted i false ov iv = operate [ov, iv] (getItem ov iv)
theorem subD_of {prog : Program} {w : World} {A : Around} {E : Value → Shared → Prop} {s : Shared} {env : Env} {value slice : Expr} {pos : Pos} {T id : String} {Q : Value → Shared → Prop}
  (hl : typeLookup (.type T) "__getitem__" = pure (some (.builtin id))) (hs : NoSl slice)
  (h : wpAny (model prog w) A (eval value env) (fun o s₁ => wpAny (model prog w) A (eval slice env) (fun i s₂ => s₂.TypeIs o T ∧ wpAny (model prog w) A (getItem o i) Q E s₂) E s₁) E s) :
  wpAny (model prog w) A (eval (.Subscript value slice pos) env) Q E s := by
 refine Subscript_ (wpAny_mono h (fun o s₁ h₁ => wpAny_mono h₁ (fun i s₂ h₂ => ?_) fun _ _ x => x) fun _ _ x => x)
 obtain ⟨hT, h₂⟩ := h₂
 unfold subscriptTail
 refine wpAny_bind ?_
 rw [getitemInPython_of_ne hT.not_modules]
 refine wpAny_bind (wpAny_specialOf hT hl ?_)
 have fin : wpAny (model prog w) A (subscripted slice false o i) (fun r s₃ => wpAny (model prog w) A (letTemporaryGo value o r >>= fun _ => pure r) Q E s₃) E s₂ := by
  rw [hs o i]
  exact wpAny_operating (wpAny_mono h₂ (fun r s₃ h₃ => wpAny_bind (wpAny_letTemporaryGo (wpAny_pure h₃))) fun _ _ x => x)
 first
  | exact wpAny_pure (wpAny_bind fin)
  | exact wpAny_bind (wpAny_pure (wpAny_bind fin))
  | exact wpAny_bind fin
theorem dict_typeIs {X : Cx} {pins : List (Addr × Obj)} {σ : St} {H : Hp} {s : Shared} {a : Addr} {y : V} {o : Option V} (I : Inv X pins σ H s) (g : DGet H a y o) : s.TypeIs (.ref a) "dict" := by
 rcases g with ⟨kvs, k, e, _, _⟩ | ⟨kvs, k, b, e, _, _, _⟩
 ·obtain ⟨_, _, vs, _, dd⟩ := dk_rd I.hok e
  exact dd.typeIs
 ·obtain ⟨_, _, xs, _, dd⟩ := dt_rd I.hok e
  exact dd.typeIs
def tDGet (td ty : TE) : TE := fun σ H Q => td σ H fun x H1 => ty σ H1 fun y H2 => ∃ a v, x = .ref a ∧ DGet H2 a y (some v) ∧ Q v H2
def tDNotIn (ty td : TE) : TE := fun σ H Q => ty σ H fun y H1 => td σ H1 fun x H2 => ∃ a o, x = .ref a ∧ DGet H2 a y o ∧ Q (.bl (!o.isSome)) H2
def sDPut (td ty tv : TE) : TS := fun D σ H => tv σ H fun v H1 => td σ H1 fun x H2 => ty σ H2 fun y H3 => ∃ a H4, x = .ref a ∧ DPut H3 a y v H4 ∧ D.nx σ H4
section
variable {X : Cx} {o i e value : Expr} {pos pos' tpos : Pos} {td ty tv : TE}
theorem pe_dget (hu : X.A.units + 1 < cLine) (ho : PE X o td) (hi : PE X i ty) (hs : NoSl i) : PE X (.Subscript o i pos) (tDGet td ty) := by
 intro pins s σ H Q I h
 refine subD_of PySem.F.slot_dict_getitem.lookup hs (thn (ho pins s σ H _ I h) fun u s1 ⟨x, H1, I1, rx, q1⟩ => thn (hi pins s1 σ H1 _ I1 q1) fun iv s2 ⟨y, H2, I2, ry, a, v, ex, g, q2⟩ => ?_)
 subst ex
 obtain rfl : u = Value.ref a := rx
 exact ⟨dict_typeIs I2 g, d_getItem hu I2 g ry fun w' s3 I3 rw' => ⟨v, H2, I3, rw', q2⟩⟩
theorem pc_dnotin (hu : X.A.units + 1 < cLine) (hi : PE X i ty) (ho : PE X o td) : PC X .NotIn i o (tDNotIn ty td) := by
 intro pins s σ H Q I h
 refine thn (hi pins s σ H _ I h) fun iv s1 ⟨y, H1, I1, ry, q1⟩ => thn (ho pins s1 σ H1 _ I1 q1) fun u s2 ⟨x, H2, I2, rx, a, ov, ex, g, q2⟩ => ?_
 subst ex
 obtain rfl : u = Value.ref a := rx
 exact d_notIn hu I2 g ry fun s3 I3 => ⟨.bl (!ov.isSome), H2, I3, rfl, q2⟩
theorem ps_dput (hu : X.A.units + 1 < cLine) (ho : PE X o td) (hi : PE X i ty) (hv : PE X value tv) (hs : swapsWith value (some (.Subscript o i pos')) pos.line X.env = pure false) :
  PS X (.Assign [.Subscript o i pos'] value pos) (sDPut td ty tv) := by
 intro pins s σ H D I h
 refine wpAny_Assign_Subscript (thn (hv pins s σ H _ I h) fun r s1 ⟨v, H1, I1, rv, q1⟩ => thn (ho pins s1 σ H1 _ I1 q1) fun u s2 ⟨x, H2, I2, rx, q2⟩ => thn (hi pins s2 σ H2 _ I2 q2) fun iv s3 ⟨y, H3, I3, ry, a, H4, ex, g, q3⟩ => ?_) hs
 subst ex
 obtain rfl : u = Value.ref a := rx
 exact d_setItem hu I3 g ry rv fun s4 I4 => ⟨σ, H4, I4, q3⟩
end
theorem dk_empty {P : Program} {w : World} {H : Hp} (h : Heap) (hb : sysModules < h.objs.size) : ObjOk P w H (h.push { cls := .type "dict", data := .dict #[] }) h.objs.size (.dK []) :=
 ⟨Nat.zero_le _, beq_eq_false_iff_ne.mpr (Ne.symm (Nat.ne_of_lt hb)), [], .nil, Heap.DictOf.new h⟩
theorem dt_empty {P : Program} {w : World} {H : Hp} (h : Heap) (hb : sysModules < h.objs.size) : ObjOk P w H (h.push { cls := .type "dict", data := .dict #[] }) h.objs.size (.dT []) :=
 ⟨Nat.zero_le _, beq_eq_false_iff_ne.mpr (Ne.symm (Nat.ne_of_lt hb)), [], .nil, _, #[], 0, Heap.get?_push_size _ rfl, ⟨rfl, rfl, rfl⟩, rfl, rfl, List.nodup_nil⟩
def tDNewK : TE := fun _ H Q => ∀ p, H p = none → Q (.ref p) (upd H p (.dK []))
def tDNewT : TE := fun _ H Q => ∀ p, H p = none → Q (.ref p) (upd H p (.dT []))
section
variable {X : Cx} {pos : Pos}
theorem pe_dnewK : PE X (.Dict [] [] pos) tDNewK := fun pins s σ H Q I h =>
 wpAny_Dict_empty ⟨.ref s.heap.objs.size, _, I.laid (a := s.heap.objs.size) (o := .dK []) (t' := s.toks) (fun _ _ q => Heap.get?_push_of_some _ q) (Nat.le_refl _) (dk_empty s.heap I.big), rfl, h _ (I.hok.fresh (Nat.le_refl _))⟩
theorem pe_dnewT : PE X (.Dict [] [] pos) tDNewT := fun pins s σ H Q I h =>
 wpAny_Dict_empty ⟨.ref s.heap.objs.size, _, I.laid (a := s.heap.objs.size) (o := .dT []) (t' := s.toks) (fun _ _ q => Heap.get?_push_of_some _ q) (Nat.le_refl _) (dt_empty s.heap I.big), rfl, h _ (I.hok.fresh (Nat.le_refl _))⟩
end
def tPairs : List (TE × TE) → St → Hp → (List (V × V) → Hp → Prop) → Prop
 | [], _, H, Q => Q [] H
 | (tk, tv) :: r, σ, H, Q => tk σ H fun x H1 => tv σ H1 fun y H2 => tPairs r σ H2 fun ps H3 => Q ((x, y) :: ps) H3
abbrev VV : List (V × V) → List (Value × Value) → Prop := Paired fun p q => RelV p.1 q.1 ∧ RelV p.2 q.2
def PPs (X : Cx) (pos : Pos) (keys : List (Option Expr)) (values : List Expr) (trs : List (TE × TE)) : Prop :=
 ∀ (pins : List (Addr × Obj)) (s : Shared) (σ : St) (H : Hp) (Q : List (V × V) → Hp → Prop), Inv X pins σ H s → tPairs trs σ H Q →
  wpAny (model X.prog X.w) X.A (evalPairs (pairTrees keys values X.env pos)) (fun vs s' => ∃ ps H', Inv X pins σ H' s' ∧ VV ps vs ∧ Q ps H') X.xe s
theorem pps_nil {X : Cx} {pos : Pos} : PPs X pos [] [] [] := fun pins s σ H Q I h => pairTrees_nil_walk ⟨[], H, I, .nil, h⟩
theorem pps_cons {X : Cx} {pos : Pos} {k v : Expr} {ks : List (Option Expr)} {vs : List Expr} {tk tv : TE} {trs : List (TE × TE)} (hk : PE X k tk) (hv : PE X v tv) (hr : PPs X pos ks vs trs) :
  PPs X pos (some k :: ks) (v :: vs) ((tk, tv) :: trs) := fun pins s σ H Q I h =>
 pairTrees_cons_walk (thn (hk pins s σ H _ I h) fun u s1 ⟨x, H1, I1, rx, q1⟩ => thn (hv pins s1 σ H1 _ I1 q1) fun w2 s2 ⟨y, H2, I2, ry, q2⟩ =>
  thn (hr pins s2 σ H2 _ I2 q2) fun ws s3 ⟨ps, H3, I3, rel, q3⟩ => ⟨(x, y) :: ps, H3, I3, .cons ⟨rx, ry⟩ rel, q3⟩)
def mergeK (kvs more : List (Key × V)) : List (Key × V) := more.foldl (fun acc kv => putK acc kv.1 kv.2) kvs
theorem KV.merge : ∀ {more : List (Key × V)} {rs : List (Key × Value)} {kvs : List (Key × V)} {vs : List (Key × Value)}, KV more rs → KV kvs vs → KV (mergeK kvs more) (merged vs rs) := by
 intro more rs kvs vs r
 unfold KV at r
 induction r generalizing kvs vs with
 | nil => intro q; exact q
 | @cons p q ps qs h t ih =>
  intro r0
  have e : KV (putK kvs p.1 p.2) (stored vs q.1 q.2) := by
   have := r0.put p.1 h.2
   rw [← h.1]; exact this
  exact ih e
theorem length_mergeK : ∀ (more kvs : List (Key × V)), (mergeK kvs more).length ≤ kvs.length + more.length
 | [], kvs => by show kvs.length ≤ kvs.length + 0; omega
 | p :: r, kvs => by
  have h1 := length_mergeK r (putK kvs p.1 p.2)
  have h2 := length_putK kvs p.1 p.2
  show (mergeK (putK kvs p.1 p.2) r).length ≤ _
  rw [List.length_cons]; omega
theorem carries_of {P : Program} {w : World} : ∀ {kvs : List (Key × V)} {ws : List (Value × Value)}, VV (kvs.map fun kv => (kV kv.1, kv.2)) ws → ∃ rs, Carries (mixKind P w) ws rs ∧ KV kvs rs
 | [], _, r => by rw [List.map_nil] at r; cases r; exact ⟨[], True.intro, .nil⟩
 | p :: kvs, _, r => by
  rw [List.map_cons] at r
  cases r with
  | @cons a b as bs h t =>
   obtain ⟨rs, c, q⟩ := carries_of (P := P) (w := w) t
   obtain ⟨b1, b2⟩ := b
   exact ⟨(p.1, b2) :: rs, ⟨kV_is h.1, rfl, c⟩, .cons ⟨rfl, h.2⟩ q⟩
def tDisp (trs : List (TE × TE)) : TE := fun σ H Q => ∀ p, H p = none → tPairs trs σ (upd H p (.dK [])) fun ps H2 => H2 p = some (.dK []) ∧ ∃ kvs : List (Key × V), ps = kvs.map (fun kv => (kV kv.1, kv.2)) ∧ kvs.length ≤ 15 ∧ Q (.ref p) (upd H2 p (.dK (mergeK [] kvs)))
theorem pe_disp {X : Cx} {pos : Pos} {keys : List (Option Expr)} {values : List Expr} {trs : List (TE × TE)} (h : PPs X pos keys values trs) (hall : keys.all (·.isSome) = true) (hl : keys.length = values.length) (h0 : keys ≠ [])
  (h15 : keys.length ≤ 15) : PE X (.Dict keys values pos) (tDisp trs) := by
 intro pins s σ H Q I q
 have hn := I.hok.fresh (Nat.le_refl s.heap.objs.size)
 have I1 := I.laid (a := s.heap.objs.size) (o := .dK []) (h' := s.heap.push { cls := .type "dict", data := .dict #[] }) (t' := s.toks) (fun _ _ q => Heap.get?_push_of_some _ q) (Nat.le_refl _) (dk_empty s.heap I.big)
 refine wpAny_Dict_walk (knd := mixKind X.prog X.w) hall hl h0 h15 (thn (h pins _ σ _ _ I1 (q _ hn)) fun ws s2 ⟨ps, H2, I2, rel, e, kvs, ep, lk, q2⟩ => ?_)
 subst ep
 obtain ⟨rs, c, rk⟩ := carries_of (P := X.prog) (w := X.w) rel
 obtain ⟨z, hd, vs0, r0, dd⟩ := dk_of I2.hok e
 cases r0
 refine ⟨rs, c, dd, fun h' dd' hs => ⟨.ref s.heap.objs.size, _, ?_, rfl, q2⟩⟩
 have hz : (mergeK [] kvs).length ≤ sizeLine := by
  have h1 := length_mergeK kvs []
  rw [List.length_nil] at h1
  rw [sizeLine_eq]; omega
 have he : ∃ q, h'.get? s.heap.objs.size = some q := let ⟨q, _, _, hq, _⟩ := dd'; ⟨q, hq⟩
 exact d_write I2 (by rw [e]; exact True.intro) hs he (dk_new hz hd (rk.merge .nil) dd')
structure M2 (X : Cx) (o : Expr) (m : Str) (apos : Pos) (e f : Expr) (cpos : Pos) : Prop where
 base : attributeBase o m X.env (eval o X.env) = eval o X.env
 few : ((backTo cpos (starEach [e, f] X.env)).all (fun x => !x.1) && (backToKw cpos (keywordEach [] X.env)).all (fun x => x.1.isSome)
  && decide (([e, f] : List Expr).length + ([] : List Keyword).length + (if ([] : List Keyword).isEmpty then 0 else 1) < 30)) = true
 line : (apos.endLine == cpos.line) = true
 trees : backTo cpos (starEach [e, f] X.env) = [(false, eval e X.env), (false, eval f X.env)]
section
variable {X : Cx} {pins : List (Addr × Obj)} {σ : List (Option V)} {H H' : Hp} {s : Shared} {h' : Heap}
theorem Inv.turnLaid {t' : Nat} {ch : List Addr} {p : Addr} {o : HO} (I : Inv X pins σ H s) (hf : ∀ b ∈ ch, FpOk X pins H b)
  (k : ∀ b u, b ∉ ch → s.heap.get? b = some u → h'.get? b = some u) (hp : s.heap.objs.size ≤ p) (new : ObjOk X.prog X.w (upd H p o) h' p o) :
  Inv X pins σ (upd H p o) { s with heap := h', toks := t' } := by
 have hn : H p = none := I.hok.fresh hp
 have nch : ∀ b u, H b = some u → b ∉ ch := fun b u e z => by have q := (hf b z).1; rw [e] at q; cases q
 have old : ∀ b u, s.heap.get? b = some u → b ≠ p := fun b u e => Nat.ne_of_lt (Nat.lt_of_lt_of_le (Heap.lt_size e) hp)
 have keepH : ∀ b u, H b = some u → upd H p o b = some u := fun b u e => by rw [upd_ne (ne_of_none e hn)]; exact e
 refine I.step (g' := s.gens) (d' := s.drawn) (ch := ch) (fun b hb => ?_) (fun b o _ _ hc e _ => k b o hc e) (fun b o _ _ hc e _ => ⟨o.slots, k b o hc e⟩) (fun b o _ e n => by rw [upd_ne (old b o e)]; exact n)
  (fun b o hc e => ⟨o, k b o hc e⟩) (fun b xs e => keepH b _ e) (fun b _ _ e => keepH b _ e) (fun b ps e => ⟨#[], by rw [keepH b _ e]; simp⟩) (fun m hm => ?_) (fun b u e => ?_) I.bare
 ·obtain ⟨f0, f1, f2, f3, f4, f5⟩ := hf b hb
  exact ⟨f3, f1, f4, f5⟩
 ·obtain ⟨ob, es, ep, ho, r⟩ := hm
  exact ⟨ob, es, ep, k _ ob (fun z => (hf _ z).2.1 rfl) ho, r⟩
 ·by_cases hb : b = p
  ·subst hb; rw [upd_same] at e; cases e; exact new
  ·rw [upd_ne hb] at e
   refine (I.hok b u e).stay (fun c v hc q => k c v ?_ q) (fun c q => keepH c _ q) fun c xs q => keepH c _ q
   rcases hc with z | z
   ·rw [z]; exact nch b u e
   ·exact nch c _ z
end
def Itn (K : PySem.W.Frag) (a : Addr) : It :=
 ⟨fun i H => ∃ xs x, SqL K H a xs ∧ xs[i]? = some x,
  fun i H x H' => ∃ y p, (∀ xs, SqL K H a xs → xs[i]? = some y) ∧ H p = none ∧ x = .ref p ∧ H' = upd H p (.tup [.int i, y]),
  fun i H => ∃ xs, SqL K H a xs ∧ xs.length ≤ i⟩
theorem turn_enum {P : Program} {w : World} {K : PySem.W.Frag} {elts : List Expr} {x1} {tpos : Pos} (a e it : Addr) (hne : e ≠ it) :
  Turn P w K (.Tuple elts x1 tpos) (Itn K a) [e, it] e (fun i h => (∃ old, IsEnum h e it i old) ∧ h.IsListIter it a i) where
 mem := by simp
 obj := fun i h st b hb => by
  obtain ⟨⟨old, st1⟩, st2⟩ := st
  rcases List.mem_cons.mp hb with z | z
  ·subst z; exact ⟨_, st1, fun v z => by cases z⟩
  ·have z' : b = it := by simpa using z
   subst z'
   obtain ⟨o, e, c, d⟩ := st2
   exact ⟨o, e, fun v z => by rw [d] at z; cases z⟩
 keep := fun i h h' st k => by
  obtain ⟨⟨old, st1⟩, st2⟩ := st
  exact ⟨⟨old, k e (by simp) _ st1⟩, st2.at fun o q => k it (by simp) o q⟩
 item := by
  intro X hP hw hK hc i pins s σ H E I hf st hg
  subst hP hw hK
  obtain ⟨⟨old, st1⟩, st2⟩ := st
  obtain ⟨xs, x, hq, hx⟩ := hg
  obtain ⟨its, rv, p, hz⟩ := I.list hq
  obtain ⟨u, hu, ru⟩ := rv.get hx
  refine wpAny_pyNext_enum_item st1 st2 p.isList (x := u) (by simpa using hu) hne fun h1 eo it1 ht hsz kk => ?_
  have nn : H s.heap.objs.size = none := I.hok.fresh (Nat.le_refl _)
  have I1 : Inv X pins σ (upd H s.heap.objs.size (.tup [.int i, x])) { s with heap := h1, toks := s.toks + 1 } :=
   I.turnLaid (ch := [e, it]) hf (fun b o hb q => kk b o (fun z => hb (by simp [z])) (fun z => hb (by simp [z])) q) (Nat.le_refl _)
    ⟨⟨by show 2 ≤ sizeLine; decide, _, ht, rfl⟩, [.int i s.toks, u], .cons ⟨_, rfl⟩ (.cons ru .nil), ⟨_, ht, rfl, _, rfl⟩⟩
  have le : e < s.heap.objs.size := Heap.lt_size st1
  have li : it < s.heap.objs.size := by obtain ⟨o, q, _⟩ := id st2; exact Heap.lt_size q
  refine ⟨_, rfl, wpAny_letOwnedTupleGo_enum eo fun h2 e2 sb => ?_⟩
  obtain ⟨f0, f1, f2, f3, f4, f5⟩ := hf e (by simp)
  have I2 := I1.turned (h' := h2) (t' := s.toks + 1) (it := e) (fun b o hb q => (sb.2 b hb).trans q) (by rw [upd_ne (Nat.ne_of_lt le)]; exact f0) f1 f3 f4 f5
  refine ⟨.ref s.heap.objs.size, _, I2, rfl, ⟨x, s.heap.objs.size, fun ys hy => by rw [I.list_inj hy hq]; exact hx, nn, rfl, rfl⟩, ⟨⟨u, by simpa using e2⟩, it1.at fun o q => (sb.2 it (Ne.symm hne)).trans q⟩, fun b hb => ?_⟩
  rcases List.mem_cons.mp hb with z | z
  ·subst z; rw [upd_ne (Nat.ne_of_lt le)]; exact f0
  ·have z' : b = it := by simpa using z
   subst z'; rw [upd_ne (Nat.ne_of_lt li)]; exact (hf b (by simp)).1
 done := by
  intro X hP hw hK hc i pins s σ H E I hf st hg
  subst hP hw hK
  obtain ⟨⟨old, st1⟩, st2⟩ := st
  obtain ⟨xs, hq, hx⟩ := hg
  obtain ⟨its, rv, p, hz⟩ := I.list hq
  obtain ⟨f0, f1, f2, f3, f4, f5⟩ := hf it (by simp)
  have hl := rv.length
  exact wpAny_pyNext_enum_end (I.ok.hd hc) st1 st2 p.isList (by simp; omega) fun h' eb => ⟨rfl, I.turned (t' := s.toks) (fun b o hb e => eb b o hb e) f0 f1 f3 f4 f5⟩
 self := fun _ _ _ _ _ st h => by
  obtain ⟨⟨old, st1⟩, st2⟩ := st
  exact wpAny_pyIter_enum st1 h
def iEnum (K : PySem.W.Frag) (ta : TA) : TI := fun σ H R => ta σ H fun vs H1 => ∃ a, vs = [.ref a] ∧ (∃ xs, SqL K H1 a xs) ∧ R (Itn K a) H1
theorem pi_enum {X : Cx} {elts : List Expr} {x1} {tpos : Pos} {a : Expr} {ta : TA} {p pos : Pos} (hg : Gl X "enumerate") (hm : X.mg "enumerate" = none) (ha : PA X [a] ta) (hs : starEach [a] X.env = [(false, eval a X.env)] := by rfl) :
  PI X (.Tuple elts x1 tpos) (.Call (.Name "enumerate" p) [a] [] pos) (iEnum X.K ta) := by
 intro pins s σ H R I h
 refine Call_ (ld_blt I hg hm boot_enumerate (PyProof.Rows.callWith_type1 (thn (ha pos pins s σ H _ I h) fun us s1 ⟨vs, H1, I1, r1, q1⟩ => ?_) hs rfl))
 obtain ⟨l, e, ⟨xs, hq⟩, q⟩ := q1
 subst e
 cases r1 with
 | cons r rr =>
  cases rr
  cases r
  obtain ⟨its, rv, pl, hz⟩ := I1.list hq
  refine call_enumerate_list pl.isList fun h' he hit hsz kk => ?_
  have I2 : Inv X pins σ H1 { s1 with heap := h' } := I1.kept (t' := s1.toks) kk
  refine wpAny_pyIter_enum he ?_
  refine ⟨s1.heap.objs.size + 1, [s1.heap.objs.size + 1, s1.heap.objs.size], _, _, H1, rfl, I2, turn_enum l _ _ (Nat.succ_ne_self _), ⟨⟨_, by simpa using he⟩, hit⟩, fun b hb => ?_, q⟩
  rcases List.mem_cons.mp hb with z | z
  ·subst z; exact I1.fpOk (Nat.le_succ _) (I1.hok.fresh (Nat.le_succ _))
  ·have z' : b = s1.heap.objs.size := by simpa using z
   subst z'; exact I1.fpOk (Nat.le_refl _) (I1.hok.fresh (Nat.le_refl _))
theorem for_enum {K : PySem.W.Frag} {a : Addr} {xs : List V} {g : TG} {tb : TS} {D : Ends} {σ : St} {H : Hp} (Pv : Nat → St → Hp → Prop) (h0 : Pv 0 σ H) (hl : ∀ i σ H, i ≤ xs.length → Pv i σ H → SqL K H a xs)
  (hs : ∀ i x p σ H, xs[i]? = some x → Pv i σ H → H p = none → g (.ref p) σ (upd H p (.tup [.int i, x])) fun σ2 H2 => tb { D with nx := Pv (i + 1), ct := Pv (i + 1), bk := D.nx } σ2 H2) (hd : ∀ σ H, Pv xs.length σ H → D.nx σ H) :
  ∃ W : Nat → Nat → St → Hp → Prop, (∃ m, W 0 m σ H) ∧ ∀ i m σ H, W i m σ H →
   ((Itn K a).stop i H ∧ D.nx σ H) ∨ ((Itn K a).go i H ∧ ∃ N : St → Hp → Prop, (∀ σ' H', N σ' H' → ∃ m', m' < m ∧ W (i + 1) m' σ' H') ∧ ∀ x H', (Itn K a).yld i H x H' → g x σ H' fun σ2 H2 => tb { D with nx := N, ct := N, bk := D.nx } σ2 H2) := by
 refine ⟨fun i m σ H => m = xs.length - i ∧ i ≤ xs.length ∧ Pv i σ H, ⟨xs.length, by simp, Nat.zero_le _, h0⟩, ?_⟩
 rintro i m σ H ⟨rfl, hi, p⟩
 have q := hl i σ H hi p
 by_cases hlt : i < xs.length
 ·refine .inr ⟨⟨xs, xs[i], q, by simp [hlt]⟩, Pv (i + 1), fun σ' H' p' => ⟨xs.length - (i + 1), by omega, rfl, hlt, p'⟩, fun x H' y => ?_⟩
  obtain ⟨z, pa, hz, hn, e1, e2⟩ := y
  subst e1 e2
  exact hs i z pa σ H (hz xs q) p hn
 ·have e : i = xs.length := by omega
  subst e
  exact .inl ⟨⟨xs, q, Nat.le_refl _⟩, hd σ H p⟩
def clOf (env : Env) : List (Str × NameKind) → List (Str × Addr) → List (Str × Addr)
 | [], cs => cs
 | (n, k) :: r, cs => clOf env r (if k == .free then (n, (env.cells.lookup n).getD 0) :: cs else cs)
theorem clos_forIn {env : Env} : ∀ (names : List (Str × NameKind)) (cs : List (Str × Addr)), (∀ y ∈ names, y.2 = .free → ∃ c, env.cells.lookup y.1 = some c) →
  (forIn names cs fun (x : Str × NameKind) (r : List (Str × Addr)) => (match x with
   | (name, kind) => if (kind == NameKind.free) = true then (cellOf env name >>= fun a => pure (ForInStep.yield ((name, a) :: r)) : Sem (ForInStep (List (Str × Addr)))) else pure (ForInStep.yield r))) = pure (clOf env names cs)
 | [], cs, _ => rfl
 | (n, k) :: r, cs, h => by
  have ih := fun cs' => clos_forIn r cs' fun y hy => h y (List.mem_cons_of_mem _ hy)
  rw [List.forIn_cons]
  by_cases hk : k = .free
  ·subst hk
   obtain ⟨c, hc⟩ := h (n, .free) List.mem_cons_self rfl
   have e : cellOf env n = pure c := by unfold cellOf; rw [hc]
   simp only [beq_self_eq_true, if_true, e, pure_bind]
   rw [ih]
   show _ = pure (clOf env r (if (NameKind.free == NameKind.free) = true then _ else _))
   rw [hc]; rfl
  ·have hb : (k == NameKind.free) = false := by simpa using hk
   simp only [hb, Bool.false_eq_true, if_false, pure_bind]
   rw [ih]
   show _ = pure (clOf env r (if (k == NameKind.free) = true then _ else _))
   rw [hb]; rfl
theorem closureFor_clOf {env : Env} {scope : Scope} (h : ∀ y ∈ scope.names, y.2 = .free → ∃ c, env.cells.lookup y.1 = some c) : closureFor scope env = pure (clOf env scope.names []) := by
 unfold closureFor
 have e := clos_forIn (env := env) scope.names [] h
 show ((forIn scope.names [] _ : Sem (List (Str × Addr))) >>= fun cs => pure cs) = _
 rw [bind_pure]
 refine Eq.trans ?_ e
 first
  | rfl
  | (congr 1; funext x r; obtain ⟨n, k⟩ := x; dsimp only; split <;> simp)
theorem mem_clOf {env : Env} {x : Str} {c : Addr} : ∀ (names : List (Str × NameKind)) (cs : List (Str × Addr)), (x, c) ∈ clOf env names cs → (x, c) ∈ cs ∨ ((x, NameKind.free) ∈ names ∧ c = (env.cells.lookup x).getD 0)
 | [], cs, h => .inl h
 | (n, k) :: r, cs, h => by
  have h' : (x, c) ∈ clOf env r (if (k == NameKind.free) = true then (n, (env.cells.lookup n).getD 0) :: cs else cs) := h
  rcases mem_clOf r _ h' with z | ⟨z1, z2⟩
  ·by_cases hk : k = .free
   ·subst hk
    simp only [beq_self_eq_true, if_true, List.mem_cons] at z
    rcases z with z | z
    ·cases z; exact .inr ⟨List.mem_cons_self, rfl⟩
    ·exact .inl z
   ·have hb : (k == NameKind.free) = false := by simpa using hk
    rw [hb] at z
    exact .inl z
  ·exact .inr ⟨List.mem_cons_of_mem _ z1, z2⟩
theorem clOf_mono {env : Env} {p : Str × Addr} : ∀ (names : List (Str × NameKind)) (cs : List (Str × Addr)), p ∈ cs → p ∈ clOf env names cs
 | [], cs, h => h
 | (n, k) :: r, cs, h => by
  show p ∈ clOf env r (if (k == NameKind.free) = true then (n, (env.cells.lookup n).getD 0) :: cs else cs)
  refine clOf_mono r _ ?_
  split
  ·exact List.mem_cons_of_mem _ h
  ·exact h
theorem clOf_has {env : Env} {x : Str} : ∀ (names : List (Str × NameKind)) (cs : List (Str × Addr)), (x, NameKind.free) ∈ names → (x, (env.cells.lookup x).getD 0) ∈ clOf env names cs
 | [], _, h => by cases h
 | (n, k) :: r, cs, h => by
  show _ ∈ clOf env r (if (k == NameKind.free) = true then (n, (env.cells.lookup n).getD 0) :: cs else cs)
  rcases List.mem_cons.mp h with z | z
  ·cases z
   exact clOf_mono r _ (by simp)
  ·exact clOf_has r _ z
theorem mem_of_lookup' {α β : Type} [BEq α] [LawfulBEq α] {x : α} {c : β} : ∀ {l : List (α × β)}, l.lookup x = some c → (x, c) ∈ l
 | [], h => by simp at h
 | (n, k) :: r, h => by
  rw [List.lookup_cons] at h
  by_cases e : x = n
  ·subst e; simp at h; subst h; exact List.mem_cons_self
  ·have : (x == n) = false := by simpa using e
   rw [this] at h
   exact List.mem_cons_of_mem _ (mem_of_lookup' h)
theorem lookup_of_mem' {α β : Type} [BEq α] [LawfulBEq α] {x : α} {c : β} : ∀ {l : List (α × β)}, (x, c) ∈ l → ∃ c', l.lookup x = some c'
 | [], h => by cases h
 | (n, k) :: r, h => by
  rw [List.lookup_cons]
  by_cases e : x = n
  ·subst e; simp
  ·have q : (x == n) = false := by simpa using e
   rw [q]
   rcases List.mem_cons.mp h with z | z
   ·cases z; exact absurd rfl e
   ·exact lookup_of_mem' z
theorem lookup_relabel_mem {env : Env} {x : Str} {k' : NameKind} : ∀ {names : List (Str × NameKind)},
  (names.map fun (n, k) => if (k == NameKind.free && env.scope.kind == .function && env.kindOf n == some .cell) then (n, NameKind.cell) else (n, k)).lookup x = some k' →
  (x, k') ∈ names ∨ (k' = .cell ∧ (x, NameKind.free) ∈ names)
 | [], h => by simp at h
 | (n, k) :: r, h => by
  rw [List.map_cons, List.lookup_cons] at h
  dsimp only at h
  by_cases e : x = n
  ·subst e
   by_cases hc : (k == NameKind.free && env.scope.kind == .function && env.kindOf x == some .cell) = true
   ·rw [if_pos hc] at h
    simp at h
    have hk : k = .free := by
     simp only [Bool.and_eq_true, beq_iff_eq] at hc
     exact hc.1.1
    subst hk
    exact .inr ⟨h.symm, List.mem_cons_self⟩
   ·rw [if_neg hc] at h
    simp at h
    subst h
    exact .inl List.mem_cons_self
  ·have q : (x == (if (k == NameKind.free && env.scope.kind == .function && env.kindOf n == some .cell) = true then (n, NameKind.cell) else (n, k)).1) = false := by
    split <;> simpa using e
   rw [q] at h
   rcases lookup_relabel_mem h with z | ⟨z1, z2⟩
   ·exact .inl (List.mem_cons_of_mem _ z)
   ·exact .inr ⟨z1, List.mem_cons_of_mem _ z2⟩
structure CompScope (X : Cx) (scope : Scope) (own frn : List Str) (frj : List Nat) : Prop where
 cell : ∀ y ∈ scope.names, y.2 ≠ .cell
 kind : scope.kind = .function
 names : ∀ y ∈ scope.names, y.2 = .local → scope.names.lookup y.1 = some .local
 free : ∀ y ∈ scope.names, y.2 = .free → X.env.scope.names.lookup y.1 = some .cell ∨ X.env.scope.names.lookup y.1 = some .free
 frl : frj.length = frn.length
 frN : ∀ (i j : Nat), frj[i]? = some j → X.N[j]? = frn[i]?
 frF : ∀ x ∈ frn, (x, NameKind.free) ∈ scope.names ∧ scope.names.lookup x = some .free
def cxComp (X : Cx) (own frn : List Str) (scope : Scope) (C : Addr) (s₃ : Shared) (H₃ : Hp) (fp : List Addr) : Cx :=
 { X with N := own ++ frn, s₀ := s₃, H₀ := H₃, env := compEnvC scope (clOf X.env scope.names []) C X.env, outer := X.stack, stack := X.stack, ex := fp, fn := fun _ => false, pn := [], xe := fun _ _ => False }
def startC (own : List Str) (frj : List Nat) (σ : St) : St := List.replicate own.length none ++ frj.map fun j => (σ[j]?).join
section
variable {X : Cx} {pins : List (Addr × Obj)} {σ : List (Option V)} {H : Hp} {s : Shared} {scope : Scope} {own frn : List Str} {frj : List Nat}
theorem CompScope.cells (sc : CompScope X scope own frn frj) (ok : X.Ok) : ∀ y ∈ scope.names, y.2 = .free → ∃ c, X.env.cells.lookup y.1 = some c := fun y hy hf => by
 rcases sc.free y hy hf with z | z
 ·exact ok.has y.1 (.inl z)
 ·exact ok.has y.1 (.inr z)
theorem CompScope.look (sc : CompScope X scope own frn frj) (ok : X.Ok) {x : Str} {c : Addr} (h : (clOf X.env scope.names []).lookup x = some c) : X.env.cells.lookup x = some c ∧ (x, NameKind.free) ∈ scope.names := by
 rcases mem_clOf _ _ (mem_of_lookup' h) with z | ⟨z1, z2⟩
 ·cases z
 ·obtain ⟨c', hc⟩ := sc.cells ok (x, .free) z1 rfl
  have hc' : X.env.cells.lookup x = some c' := hc
  rw [hc'] at z2
  have z3 : c = c' := z2
  subst z3
  exact ⟨hc', z1⟩
theorem CompScope.lookF (sc : CompScope X scope own frn frj) (ok : X.Ok) {x : Str} (h : (x, NameKind.free) ∈ scope.names) : ∃ c, (clOf X.env scope.names []).lookup x = some c ∧ X.env.cells.lookup x = some c := by
 obtain ⟨c, hc⟩ := lookup_of_mem' (clOf_has (env := X.env) scope.names [] h)
 exact ⟨c, hc, (sc.look ok hc).1⟩
theorem Inv.block {fp : List Addr} {h₄ : Heap} {tk : Nat} (I : Inv X pins σ H s) (sc : CompScope X scope own frn frj) (hfp : ∀ b ∈ fp, FpOk X pins H b) (hfl : ∀ b ∈ fp, b < s.heap.objs.size)
  (k : ∀ b o, s.heap.get? b = some o → h₄.get? b = some o) (hn : h₄.Ns s.heap.objs.size fun _ => none) :
  Inv (cxComp X own frn scope s.heap.objs.size s H fp) [] (startC own frj σ) H { s with heap := h₄, toks := tk } := by
 have ok := I.ok
 refine ⟨⟨ok.mod, by show (relabel scope X.env).kind = _; exact sc.kind, ok.glob, ok.blt, Nat.le_refl _, ?_, ?_, fun x c h => (nomatch h), ok.hd, ok.frames, .inl rfl, ?_, fun b o e => I.bs b o e, Nat.le_trans ok.bsz I.sz, ?_, ?_, I.stack, I.stkFree⟩, rfl, I.bare, Un.kept k, ?_, ?_, I.fresh, ?_, fun p hp => (nomatch hp), I.hok.kept k, ?_⟩
 ·intro x y c e1 e2
  exact ok.inj x y c (sc.look ok e1).1 (sc.look ok e2).1
 ·intro x h
  have mem : (x, NameKind.free) ∈ scope.names := by
   rcases h with h | h
   ·rcases lookup_relabel_mem h with z | ⟨_, z⟩
    ·exact absurd rfl (sc.cell _ z)
    ·exact z
   ·rcases lookup_relabel_mem h with z | ⟨z, _⟩
    ·exact z
    ·cases z
  obtain ⟨c, hc, _⟩ := sc.lookF ok mem
  exact ⟨c, hc⟩
 ·intro b hb
  obtain ⟨f0, f1, f2, f3, f4, f5⟩ := hfp b hb
  exact ⟨Nat.ne_of_lt (hfl b hb), fun x c e => f4 x c (sc.look ok e).1⟩
 ·intro b o e hb
  rcases (hfp b hb).2.2.2.1 with z | z
  ·exact ok.noex b o e z
  ·exact absurd (Nat.lt_of_lt_of_le (Heap.lt_size e) (Nat.le_trans ok.bsz z)) (Nat.lt_irrefl _)
 ·intro b hb hfs
  obtain ⟨f0, f1, f2, _⟩ := hfp b hb
  rcases List.mem_cons.mp (I.stkSub b hfs) with z | z
  ·exact f1 z
  ·exact f2 z
 ·refine ⟨_, hn, fun i x v e1 e2 e3 => ?_⟩
  have e1' : (own ++ frn)[i]? = some x := e1
  have e2' : (List.replicate own.length none ++ frj.map fun j => (σ[j]?).join)[i]? = some (some v) := e2
  by_cases hi : i < own.length
  ·rw [List.getElem?_append_left (by simpa using hi)] at e2'
   rw [List.getElem?_replicate] at e2'
   split at e2' <;> cases e2'
  ·rw [List.getElem?_append_right (by simp; omega), List.length_replicate] at e2'
   rw [List.getElem?_append_right (by omega)] at e1'
   rw [List.getElem?_map] at e2'
   cases ej : frj[i - own.length]? with
   | none => rw [ej] at e2'; cases e2'
   | some j =>
    rw [ej] at e2'
    have e2'' : (σ[j]?).join = some v := by simpa using e2'
    have e4 : σ[j]? = some (some v) := by
     cases q : σ[j]? with
     | none => rw [q] at e2''; cases e2''
     | some o => rw [q] at e2''; simpa using e2''
    have e5 := (sc.frN _ j ej).trans e1'
    obtain ⟨hm, hlk⟩ := sc.frF x (List.mem_of_getElem? e1')
    obtain ⟨m, hnL, hl⟩ := I.loc
    have hv : Vis X.env.scope x := by
     rcases sc.free (x, .free) hm rfl with z | z
     ·exact .inr (.inl z)
     ·exact .inr (.inr z)
    obtain ⟨u, r, lk⟩ := hl j x v e5 e4 hv
    refine ⟨u, r, .inr ?_⟩
    obtain ⟨c, hc, hc'⟩ := sc.lookF ok hm
    have cellOk : h₄.IsCell c (some u) := by
     rcases lk with ⟨z, _⟩ | ⟨_, c', hx, ⟨o, ho, hd⟩⟩
     ·exfalso
      have z' : X.env.scope.names.lookup x = some .local := z
      rcases sc.free (x, .free) hm rfl with q | q
      ·rw [show X.env.scope.names.lookup x = some .cell from q] at z'; cases z'
      ·rw [show X.env.scope.names.lookup x = some .free from q] at z'; cases z'
     ·rw [hc'] at hx; cases hx
      exact ⟨o, k _ o ho, hd⟩
    refine ⟨?_, c, hc, cellOk⟩
    have e3' : Vis (relabel scope X.env) x := e3
    rcases e3' with z | z | z
    ·exfalso
     rcases lookup_relabel_mem z with q | ⟨q, _⟩
     ·have := sc.names _ q rfl
      rw [show scope.names.lookup x = some .local from this] at hlk
      cases hlk
     ·cases q
    ·exact .inl z
    ·exact .inr z
 ·intro x c e
  obtain ⟨v, o, ho, hd⟩ := I.cell x c (sc.look ok e).1
  exact ⟨v, o, k _ o ho, hd⟩
 ·intro x c e
  exact I.freeC x c (sc.look ok e).1
 ·show (List.replicate own.length none ++ frj.map fun j => (σ[j]?).join).length = (own ++ frn).length
  simp [sc.frl]
end
theorem codeAny_compLoop_any {prog : Program} {w : World} {A : Around} {R : Result → Shared → Prop} {s : Shared} {elt target iter : Expr} {ifs : List Expr} {scope : Scope} {pos : Pos} {it acc : Value} {env : Env} (I : Nat → Shared → Prop)
  (turn : ∀ n s, I n s → wpAny (model prog w) A (pyNext it) (fun r s₁ => match r with
   | none => R (.ok .next) s₁
   | some v => wpAny (model prog w) A (letOwnedTupleGo target it v) (fun _ s₁' => wpAny (model prog w) A (assign target env v) (fun _ s₂ =>
     wpAny (model prog w) A (forIn ifs true fun c r => if r = true then do let ok ← isTrue c env (eval c env); pure (ForInStep.yield ok) else pure (ForInStep.yield r)) (fun ok s₃ =>
      if ok = true then wpAny (model prog w) A (eval elt env) (fun x s₄ =>
       wpAny (model prog w) A (call (.builtin "list.append") [acc, x]) (fun _ s₅ => ∃ m, m < n ∧ I m s₅) (fun _ _ => False) s₄) (fun _ _ => False) s₃
      else ∃ m, m < n ∧ I m s₃) (fun _ _ => False) s₂) (fun _ _ => False) s₁') (fun _ _ => False) s₁) (fun _ _ => False) s)
  (n : Nat) (h : I n s) :
  codeAny (model prog w) A (.compLoop (.ListComp elt [⟨target, iter, ifs, 0⟩] scope pos) 0 it acc env) R s := by
 refine codeAny_loop rfl I (fun n s hI => ?_) n h
 show wpAny _ A ((compTurn (.ListComp elt [⟨target, iter, ifs, 0⟩] scope pos) 0 it acc env).onRaise (fun x => do noteFrame x env; theTreesLotGoes x)) _ _ s
 refine wpAny_noted ?_
 rw [compTurn_list]
 refine wpAny_bind (wpAny_standAt (wpAny_bind (wpAny_mono (turn n s hI) (fun r s₁ h₁ => ?_) fun _ _ h' => h'.elim)))
 cases r with
 | none => exact wpAny_pure h₁
 | some v =>
  refine wpAny_bind (wpAny_mono h₁ (fun _ s₁' h₁' => ?_) fun _ _ h' => h'.elim)
  refine wpAny_bind (wpAny_mono h₁' (fun _ s₂ h₂ => wpAny_bind (wpAny_mono h₂ (fun ok s₃ h₃ => ?_) fun _ _ h' => h'.elim)) fun _ _ h' => h'.elim)
  cases ok with
  | false => exact wpAny_pure ⟨rfl, h₃⟩
  | true =>
   exact wpAny_bind (wpAny_bind (wpAny_mono h₃ (fun x s₄ h₄ => wpAny_bind (wpAny_mono h₄ (fun _ s₅ h₅ => wpAny_pure (wpAny_pure ⟨rfl, h₅⟩)) fun _ _ h' => h'.elim)) fun _ _ h' => h'.elim))
def PIfs (X : Cx) (ifs : List Expr) (t : TT) : Prop :=
 ∀ (pins : List (Addr × Obj)) (s : Shared) (σ : St) (H : Hp) (Q : Bool → Hp → Prop), Inv X pins σ H s → t σ H Q →
  wpAny (model X.prog X.w) X.A (forIn ifs true fun c r => if r = true then do let ok ← isTrue c X.env (eval c X.env); pure (ForInStep.yield ok) else pure (ForInStep.yield r)) (TP X pins σ Q) X.xe s
def tTrue : TT := fun _ H Q => Q true H
theorem pifs_nil {X : Cx} : PIfs X [] tTrue := fun _ _ _ H _ I h => wpAny_tests_nil ⟨H, I, h⟩
theorem pifs_one {X : Cx} {c : Expr} {t : TT} (h : PT X c t) : PIfs X [c] t := fun pins s σ H Q I hq => wpAny_tests_one (h pins s σ H Q I hq)
def cLoop (J : It) (g : TG) (tt : TT) (te : TE) (D : Addr) (σ : St) (H : Hp) (R : Hp → Prop) : Prop :=
 ∃ W : Nat → Nat → St → Hp → Prop, (∃ m, W 0 m σ H) ∧ ∀ i m σ H, W i m σ H → (J.stop i H ∧ R H) ∨ (J.go i H ∧ ∃ N : St → Hp → Prop, (∀ σ' H', N σ' H' → ∃ m', m' < m ∧ W (i + 1) m' σ' H') ∧
  ∀ x H', J.yld i H x H' → g x σ H' fun σ2 H2 => tt σ2 H2 fun b H3 => if b = true then te σ2 H3 fun y H4 => ∃ ys, H4 D = some (.lst ys) ∧ ys.length < sizeLine ∧ N σ2 (upd H4 D (.lst (ys ++ [y]))) else N σ2 H3)
section
variable {X : Cx} {scope : Scope} {own frn : List Str} {frj : List Nat} {elt tg iter : Expr} {ifs : List Expr} {pos : Pos} {g : TG} {tt : TT} {te : TE}
theorem comp_block {pins : List (Addr × Obj)} {σ : St} {H : Hp} {s : Shared} {J : It} {fp : List Addr} {it : Addr} {tn : Nat → Heap → Prop} {R : Addr → Hp → Prop} {RR : Value → Addr → Result → Shared → Prop} {E : Value → Shared → Prop}
  (sc : CompScope X scope own frn frj) (hc : X.calm = true)
  (hg : ∀ C s₃ H₃ fp, PG (cxComp X own frn scope C s₃ H₃ fp) tg g) (ht : ∀ C s₃ H₃ fp, PIfs (cxComp X own frn scope C s₃ H₃ fp) ifs tt) (he : ∀ C s₃ H₃ fp, PE (cxComp X own frn scope C s₃ H₃ fp) elt te)
  (I : Inv X pins σ H s) (T : Turn X.prog X.w X.K tg J fp it tn) (st : tn 0 s.heap) (hfp : ∀ b ∈ fp, FpOk X pins H b)
  (h : ∀ D, H D = none → cLoop J g tt te D (startC own frj σ) (upd H D (.lst [])) (R D))
  (hRR : ∀ D C H' s' m, Inv X pins σ H' s' → s.heap.objs.size ≤ C → s'.heap.Ns C m → H' C = none → R D H' → RR (.ref D) C (.ok .next) s') :
  wpAny (model X.prog X.w) X.A (newList []) (fun acc s₃ => wpAny (model X.prog X.w) X.A (newFunctionEnv scope X.env.globals (clOf X.env scope.names []) [] X.env.qual none .none (some X.env)) (fun cenv s₄ =>
   codeAny (model X.prog X.w) X.A (.compStart (.ListComp elt [⟨tg, iter, ifs, 0⟩] scope pos) 0 (.ref it) acc { cenv with scope := relabel scope X.env }) (RR acc cenv.locals) s₄) E s₃) E s := by
 refine wpAny_newObj_type (wpAny_newFunctionEnv sc.cell (by intro y hy; simp at hy) (fun h₁ hns₁ hsb₁ => ?_) sc.kind)
 dsimp only at hns₁ hsb₁ ⊢
 have hD := I.fresh
 have I3 : Inv X pins σ (upd H s.heap.objs.size (.lst [])) { s with heap := s.heap.push { cls := .type "list", dict := none, data := .seq ([] : List Value).toArray } } := I.lnew (its := []) (t' := s.toks) .nil (Nat.zero_le _)
 have hsz : (s.heap.push { cls := .type "list", dict := none, data := .seq ([] : List Value).toArray }).objs.size = s.heap.objs.size + 1 := Heap.size_push ..
 generalize hs3 : ({ s with heap := s.heap.push { cls := .type "list", dict := none, data := .seq ([] : List Value).toArray } } : Shared) = s₃ at I3
 have hh3 : s.heap.push { cls := .type "list", dict := none, data := .seq ([] : List Value).toArray } = s₃.heap := by rw [← hs3]
 rw [hh3] at hns₁ hsb₁ hsz ⊢
 have hfl : ∀ b ∈ fp, b < s.heap.objs.size := fun b hb => by
  obtain ⟨o, e, _⟩ := T.obj 0 _ st b hb
  exact Heap.lt_size e
 have hfp3 : ∀ b ∈ fp, FpOk X pins (upd H s.heap.objs.size (.lst [])) b := fun b hb => by
  obtain ⟨f0, f⟩ := hfp b hb
  exact ⟨by rw [upd_ne (Nat.ne_of_lt (hfl b hb))]; exact f0, f⟩
 have hfl3 : ∀ b ∈ fp, b < s₃.heap.objs.size := fun b hb => by rw [hsz]; exact Nat.lt_succ_of_lt (hfl b hb)
 have k4 : ∀ b o, s₃.heap.get? b = some o → h₁.get? b = some o := fun b o e => (hsb₁.2 b (Nat.ne_of_lt (Heap.lt_size e))).trans (Heap.get?_push_of_some _ e)
 have k3 : ∀ b o, s.heap.get? b = some o → s₃.heap.get? b = some o := fun b o e => by rw [← hh3]; exact Heap.get?_push_of_some _ e
 have hnone : (fun x : Str => List.lookup x ([] : List (Str × Value)).reverse) = fun _ => none := by funext x; rfl
 have hns₁' : h₁.Ns s₃.heap.objs.size fun _ => none := by
  have q := hns₁
  first
   | exact q
   | (rw [hnone] at q; exact q)
 have I4 := I3.block (own := own) (tk := s.toks + ([] : List (Str × Value)).length) sc hfp3 hfl3 k4 hns₁'
 have st4 : tn 0 h₁ := T.keep _ _ _ st fun b hb o e => k4 b o (k3 b o e)
 generalize hX : cxComp X own frn scope s₃.heap.objs.size s₃ (upd H s.heap.objs.size (.lst [])) fp = X' at I4
 have hXp : X'.prog = X.prog := by rw [← hX]; rfl
 have hXw : X'.w = X.w := by rw [← hX]; rfl
 have hXK : X'.K = X.K := by rw [← hX]; rfl
 have hXA : X'.A = X.A := by rw [← hX]; rfl
 have hXc : X'.calm = true := by rw [← hX]; exact hc
 have hXx : X'.xe = fun _ _ => False := by rw [← hX]; rfl
 have hXe : X'.env = compEnvC scope (clOf X.env scope.names []) s₃.heap.objs.size X.env := by rw [← hX]; rfl
 have hg' : PG X' tg g := by rw [← hX]; exact hg _ _ _ _
 have ht' : PIfs X' ifs tt := by rw [← hX]; exact ht _ _ _ _
 have he' : PE X' elt te := by rw [← hX]; exact he _ _ _ _
 have ofX : ∀ {H' : Hp} {s' : Shared} {σ' : St}, Inv X' [] σ' H' s' → Inv X pins σ H' s' ∧ (∃ m, s'.heap.Ns s₃.heap.objs.size m) ∧ H' s₃.heap.objs.size = none := by
  intro H' s' σ' I'
  subst hX
  refine ⟨I3.call' (ch := fp) I'.os I'.base I'.hok I'.bare fun b hb => ?_, let ⟨m, hn, _⟩ := I'.loc; ⟨m, hn⟩, I'.free⟩
  obtain ⟨f0, f1, f2, f3, f4, f5⟩ := hfp3 b hb
  exact ⟨f3, f1, f4, f5⟩
 have stat : ∀ {H' : Hp}, (∀ b ∈ fp, H' b = none) → ∀ b ∈ fp, FpOk X' [] H' b := by
  intro H' hn b hb
  subst hX
  obtain ⟨a1, a2⟩ := I4.ok.exf b hb
  exact ⟨hn b hb, a1, I4.ok.exfs b hb, .inl hb, a2, fun p hp => by cases hp⟩
 obtain ⟨W, ⟨m0, w0⟩, turn⟩ := h s.heap.objs.size hD
 have loop : codeAny (model X.prog X.w) X.A (.compLoop (.ListComp elt [⟨tg, iter, ifs, 0⟩] scope pos) 0 (.ref it) (.ref s.heap.objs.size) X'.env) (RR (.ref s.heap.objs.size) s₃.heap.objs.size)
   { s₃ with heap := h₁, toks := s.toks + ([] : List (Str × Value)).length } := by
  refine codeAny_compLoop_any (fun n s' => ∃ i σ' H', Inv X' [] σ' H' s' ∧ tn i s'.heap ∧ (∀ b ∈ fp, H' b = none) ∧ W i n σ' H') ?_ m0 ⟨0, _, _, I4, st4, fun b hb => (hfp3 b hb).1, w0⟩
  rintro n s5 ⟨i, σ5, H5, I5, st5, fr5, w5⟩
  rw [← hXp, ← hXw, ← hXA]
  have hxe : ∀ {α : Type} {t : Sem α} {Q : α → Shared → Prop} {s : Shared}, wpAny (model X'.prog X'.w) X'.A t Q X'.xe s → wpAny (model X'.prog X'.w) X'.A t Q (fun _ _ => False) s := fun h => by rw [hXx] at h; exact h
  have T' : Turn X'.prog X'.w X'.K tg J fp it tn := by rw [hXp, hXw, hXK]; exact T
  rcases turn i n σ5 H5 w5 with ⟨stop, q⟩ | ⟨go, N, hN, step⟩
  ·refine thn (T'.done X' rfl rfl rfl hXc i [] s5 σ5 H5 _ I5 (stat fr5) st5 stop) fun r s6 ⟨hr, I6⟩ => ?_
   subst hr
   obtain ⟨J1, ⟨m, J2⟩, J3⟩ := ofX I6
   exact hRR _ _ H5 s6 m J1 (by rw [hsz]; exact Nat.le_succ _) J2 J3 q
  ·refine thn (T'.item X' rfl rfl rfl hXc i [] s5 σ5 H5 _ I5 (stat fr5) st5 go) fun r s6 ⟨u, hr, h6⟩ => ?_
   subst hr
   refine thn h6 fun _ s7 ⟨x, H7, I7, r7, y7, st7, fr7⟩ => ?_
   have I7' := I7.pinned (stat fr7) (T'.obj _ _ st7)
   have again : ∀ {s9 : Shared} {σ9 : St} {H9 : Hp}, Inv X' ([] ++ pinsAt fp s7.heap) σ9 H9 s9 → N σ9 H9 → ∃ m, m < n ∧ ∃ i σ' H', Inv X' [] σ' H' s9 ∧ tn i s9.heap ∧ (∀ b ∈ fp, H' b = none) ∧ W i m σ' H' := fun {s9 σ9 H9} I9 n9 => by
    obtain ⟨m', hm, w9⟩ := hN σ9 H9 n9
    refine ⟨m', hm, i + 1, σ9, H9, I9.unpinned, T'.keep _ _ _ st7 fun b hb o e => (I9.pin (b, o) (List.mem_append_right _ (List.mem_append_right _ (mem_pinsAt hb e)))).1, fun b hb => ?_, w9⟩
    obtain ⟨o, e, d⟩ := T'.obj _ _ st7 b hb
    exact (I9.pin (b, o) (List.mem_append_right _ (List.mem_append_right _ (mem_pinsAt hb e)))).2.1
   refine thn (hxe (hg' _ s7 σ5 H7 x u _ I7' r7 (step x H7 y7))) fun _ s8 ⟨σ8, H8, I8, q8⟩ => ?_
   refine thn (hxe (ht' _ s8 σ8 H8 _ I8 q8)) fun b s9 ⟨H9, I9, q9⟩ => ?_
   cases b with
   | false => exact again I9 (by simpa using q9)
   | true =>
    rw [if_pos rfl] at q9
    refine thn (hxe (he' _ s9 σ8 H9 _ I9 q9)) fun y s10 ⟨v, H10, I10, r10, q10⟩ => ?_
    obtain ⟨ys, e10, z10, n10⟩ := q10
    refine thn (hxe (mt_append _ s10 σ8 H10 (.ref s.heap.objs.size) [v] (.ref s.heap.objs.size) [y] (fun _ H' => H' = upd H10 s.heap.objs.size (.lst (ys ++ [v]))) I10 rfl (.cons r10 .nil) ⟨_, ys, v, rfl, rfl, e10, z10, rfl⟩)) fun u s11 ⟨v', H11, I11, _, e11⟩ => ?_
    subst e11
    exact again I11 n10
 rw [hXe] at loop
 have e4 : ({ s with heap := h₁, toks := s.toks + ([] : List (Str × Value)).length } : Shared) = { s₃ with heap := h₁, toks := s.toks + ([] : List (Str × Value)).length } := by rw [← hs3]
 rw [e4]
 exact codeAny_compStart_list loop (T.self _ 0 _ _ _ st4 loop)
end
def tComp (own : List Str) (frj : List Nat) (wi : TI) (g : TG) (tt : TT) (te : TE) : TE := fun σ H Q => wi σ H fun J H1 => ∀ D, H1 D = none → cLoop J g tt te D (startC own frj σ) (upd H1 D (.lst [])) fun H' => Q (.ref D) H'
section
variable {X : Cx} {scope : Scope} {own frn : List Str} {frj : List Nat} {elt tg iter : Expr} {ifs : List Expr} {pos : Pos} {wi : TI} {g : TG} {tt : TT} {te : TE}
theorem pe_comp (sc : CompScope X scope own frn frj) (hc : X.calm = true) (hi : PI X tg iter wi)
  (hg : ∀ C s₃ H₃ fp, PG (cxComp X own frn scope C s₃ H₃ fp) tg g) (ht : ∀ C s₃ H₃ fp, PIfs (cxComp X own frn scope C s₃ H₃ fp) ifs tt) (he : ∀ C s₃ H₃ fp, PE (cxComp X own frn scope C s₃ H₃ fp) elt te)
  (hs : ∀ x, foldedSetIterable iter X.env x = pure x := by intro _; rfl) : PE X (.ListComp elt [⟨tg, iter, ifs, 0⟩] scope pos) (tComp own frj wi g tt te) := by
 intro pins s σ H Q I h
 rw [eval_ListComp]
 refine wpAny_comprehension_free (use := none) rfl hs (closureFor_clOf (sc.cells I.ok)) sc.kind sc.names (thn (hi pins s σ H _ I h) fun v s1 h1 => thn h1 fun itv s2 h2 => ?_)
 obtain ⟨it, fp, tn, J, H2, e, I2, T, st2, f2, q⟩ := h2
 subst e
 refine comp_block (RR := fun acc C => compPost (model X.prog X.w) X.A X.xe none (EP X pins σ Q) acc C) (R := fun D H' => Q (.ref D) H') sc hc hg ht he I2 T st2 f2 q ?_
 intro D C H' s' m I' hC hn hf hq
 refine ⟨m, hn, fun h' sb => ?_⟩
 obtain ⟨f0, f1, f2, f3, f4, f5⟩ := I2.fpOk (H' := H') hC hf
 exact ⟨.ref D, H', I'.turned (t' := s'.toks) (it := C) (fun b o hb e => (sb.2 b hb).trans e) f0 f1 f3 f4 f5, rfl, hq⟩
theorem ps_setComp {i : Nat} {y : Str} {py spos : Pos} (sc : CompScope X scope own frn frj) (hc : X.calm = true) (hi : PI X tg iter wi)
  (hg : ∀ C s₃ H₃ fp, PG (cxComp X own frn scope C s₃ H₃ fp) tg g) (ht : ∀ C s₃ H₃ fp, PIfs (cxComp X own frn scope C s₃ H₃ fp) ifs tt) (he : ∀ C s₃ H₃ fp, PE (cxComp X own frn scope C s₃ H₃ fp) elt te)
  (hN : X.N.Nodup) (hi' : X.N[i]? = some y) (hx : X.env.scope.names.lookup y = some .local)
  (hsw : swapsWith (.ListComp elt [⟨tg, iter, ifs, 0⟩] scope pos) (some (.Name y py)) spos.line X.env = pure true := by rfl)
  (hs : ∀ x, foldedSetIterable iter X.env x = pure x := by intro _; rfl) : PS X (.Assign [.Name y py] (.ListComp elt [⟨tg, iter, ifs, 0⟩] scope pos) spos) (tAsg (tComp own frj wi g tt te) (gName i)) := by
 intro pins s σ H D I h
 rw [exec_Assign_Name_used _ _ _ _ hsw]
 refine wpAny_bind (wpAny_standAt (wpAny_bind ?_))
 show wpAny _ X.A (do let _ ← comprehension (.ListComp elt [⟨tg, iter, ifs, 0⟩] scope pos) scope X.env _ (newList []) false (eval iter X.env) (some (assign (.Name y py) X.env))) _ _ s
 refine wpAny_bind (wpAny_mono (wpAny_comprehension_free (use := some (assign (.Name y py) X.env)) (Q := fun _ s' => SP X pins D .next s') rfl hs (closureFor_clOf (sc.cells I.ok)) sc.kind sc.names
  (thn (hi pins s σ H _ I h) fun v s1 h1 => thn h1 fun itv s2 h2 => ?_)) (fun _ s' hq => wpAny_pure (wpAny_pure hq)) fun _ _ e => e)
 obtain ⟨it, fp, tn, J, H2, e, I2, T, st2, f2, q⟩ := h2
 subst e
 refine comp_block (RR := fun acc C => compPost (model X.prog X.w) X.A X.xe (some (assign (.Name y py) X.env)) (fun _ s' => SP X pins D .next s') acc C) (R := fun E H' => D.nx (σ.set i (some (.ref E))) H') sc hc hg ht he I2 T st2 f2 q ?_
 intro E C H' s' m I' hC hn hf hq
 show wpAny _ X.A (assign (.Name y py) X.env (.ref E)) _ _ _
 obtain ⟨f0, f1, f2, f3, f4, f5⟩ := I2.fpOk (H' := H') hC hf
 refine wpAny_assign_Name (store_ok2 I' hN hi' (.inl hx) (v := .ref E) (u := .ref E) rfl (fun s3 I3 ⟨a, sb, ha⟩ => ?_) (.inr hx))
 have hCa : C ≠ a := by
  rcases ha with z | z
  ·rw [z]; exact f1
  ·exact (f4 y a z).symm
 refine ⟨m, hn.sameBut sb hCa, fun h' sb' => ?_⟩
 exact ⟨_, H', I3.turned (t' := s3.toks) (it := C) (fun b o hb e => (sb'.2 b hb).trans e) f0 f1 f3 f4 f5, hq⟩
end
theorem comp_range {lo : Int} {n : Nat} {g : TG} {tt : TT} {te : TE} {D : Addr} {σ : St} {H : Hp} {R : Hp → Prop} (Pv : Nat → St → Hp → Prop) (h0 : Pv 0 σ H)
  (hs : ∀ i σ H, i < n → Pv i σ H → g (.int (lo + i)) σ H fun σ2 H2 => tt σ2 H2 fun b H3 => if b = true then te σ2 H3 fun y H4 => ∃ ys, H4 D = some (.lst ys) ∧ ys.length < sizeLine ∧ Pv (i + 1) σ2 (upd H4 D (.lst (ys ++ [y]))) else Pv (i + 1) σ2 H3)
  (hd : ∀ σ H, Pv n σ H → R H) : cLoop (Itr lo n) g tt te D σ H R := by
 refine ⟨fun i m σ H => m = n - i ∧ i ≤ n ∧ Pv i σ H, ⟨n, by simp, Nat.zero_le _, h0⟩, ?_⟩
 rintro i m σ H ⟨rfl, hi, p⟩
 by_cases hlt : i < n
 ·refine .inr ⟨hlt, Pv (i + 1), fun σ' H' p' => ⟨n - (i + 1), by omega, rfl, hlt, p'⟩, fun x H' y => ?_⟩
  obtain ⟨e, y⟩ := y
  subst e y
  exact hs i σ _ hlt p
 ·have e : i = n := by omega
  subst e
  exact .inl ⟨Nat.le_refl _, hd σ H p⟩
theorem comp_list {K : PySem.W.Frag} {a : Addr} {xs : List V} {g : TG} {tt : TT} {te : TE} {D : Addr} {σ : St} {H : Hp} {R : Hp → Prop} (Pv : Nat → St → Hp → Prop) (h0 : Pv 0 σ H) (hl : ∀ i σ H, i ≤ xs.length → Pv i σ H → SqL K H a xs)
  (hs : ∀ i x σ H, xs[i]? = some x → Pv i σ H → g x σ H fun σ2 H2 => tt σ2 H2 fun b H3 => if b = true then te σ2 H3 fun y H4 => ∃ ys, H4 D = some (.lst ys) ∧ ys.length < sizeLine ∧ Pv (i + 1) σ2 (upd H4 D (.lst (ys ++ [y]))) else Pv (i + 1) σ2 H3)
  (hd : ∀ σ H, Pv xs.length σ H → R H) : cLoop (Itl K a) g tt te D σ H R := by
 refine ⟨fun i m σ H => m = xs.length - i ∧ i ≤ xs.length ∧ Pv i σ H, ⟨xs.length, by simp, Nat.zero_le _, h0⟩, ?_⟩
 rintro i m σ H ⟨rfl, hi, p⟩
 have q := hl i σ H hi p
 by_cases hlt : i < xs.length
 ·refine .inr ⟨⟨xs, xs[i], q, by simp [hlt]⟩, Pv (i + 1), fun σ' H' p' => ⟨xs.length - (i + 1), by omega, rfl, hlt, p'⟩, fun x H' y => ?_⟩
  obtain ⟨e, y⟩ := y
  subst e
  exact hs i x σ _ (y xs q) p
 ·have e : i = xs.length := by omega
  subst e
  exact .inl ⟨⟨xs, q, Nat.le_refl _⟩, hd σ H p⟩
theorem comp_tup {K : PySem.W.Frag} {a : Addr} {xs : List V} {g : TG} {tt : TT} {te : TE} {D : Addr} {σ : St} {H : Hp} {R : Hp → Prop} (Pv : Nat → St → Hp → Prop) (h0 : Pv 0 σ H) (hl : ∀ i σ H, i ≤ xs.length → Pv i σ H → SqT K H a xs)
  (hs : ∀ i x σ H, xs[i]? = some x → Pv i σ H → g x σ H fun σ2 H2 => tt σ2 H2 fun b H3 => if b = true then te σ2 H3 fun y H4 => ∃ ys, H4 D = some (.lst ys) ∧ ys.length < sizeLine ∧ Pv (i + 1) σ2 (upd H4 D (.lst (ys ++ [y]))) else Pv (i + 1) σ2 H3)
  (hd : ∀ σ H, Pv xs.length σ H → R H) : cLoop (Itt K a) g tt te D σ H R := by
 refine ⟨fun i m σ H => m = xs.length - i ∧ i ≤ xs.length ∧ Pv i σ H, ⟨xs.length, by simp, Nat.zero_le _, h0⟩, ?_⟩
 rintro i m σ H ⟨rfl, hi, p⟩
 have q := hl i σ H hi p
 by_cases hlt : i < xs.length
 ·refine .inr ⟨⟨xs, xs[i], q, by simp [hlt]⟩, Pv (i + 1), fun σ' H' p' => ⟨xs.length - (i + 1), by omega, rfl, hlt, p'⟩, fun x H' y => ?_⟩
  obtain ⟨e, y⟩ := y
  subst e
  exact hs i x σ _ (y xs q) p
 ·have e : i = xs.length := by omega
  subst e
  exact .inl ⟨⟨xs, q, Nat.le_refl _⟩, hd σ H p⟩
section
variable {X : Cx}
def CDivB (i j : Int) : Prop := 0 < j ∧ j.natAbs.log2 < 9000
theorem op_fdivB : OpR X (binaryOp .FloorDiv) (rI CDivB fun i j => .int (i / j)) := opI fun i j _ _ _ _ _ hc q => by
 obtain ⟨h0, h1⟩ := hc
 refine floordiv_int (by omega) ?_ (.inl (PyProof.noPylong_of_log2 h1))
 rw [Int.fdiv_eq_ediv_of_nonneg _ (by omega)]
 exact q
theorem op_cat0 : OpR X (binaryOp .Add) (fun x y H Q => ∃ (a b : Addr) (ys : List V), x = .ref a ∧ y = .ref b ∧ SqT X.K H a [] ∧ SqT X.K H b ys ∧ Q (.ref b) H) := by
 intro pins s σ H x y v u Q I rx ry h
 obtain ⟨a, b, ys, rfl, rfl, ha, hb, q⟩ := h
 cases rx
 cases ry
 obtain ⟨its, r1, p1, _⟩ := I.tuple ha
 obtain ⟨its2, r2, p2, _⟩ := I.tuple hb
 cases r1
 obtain ⟨⟨cls, dd, data, sl⟩, ho, hc, n, hd⟩ := id p1
 obtain ⟨⟨cls2, dd2, data2, sl2⟩, ho2, hc2, n2, hd2⟩ := id p2
 simp only at hc hd hc2 hd2
 subst hc hd hc2 hd2
 exact concat_meets ⟨_, ho, rfl⟩ ⟨_, ho2, rfl⟩ noFill_tuple_add seq_tuple_add PySem.F.slot_tuple_add PySem.F.entry_tuple_add (PySem.F.args_tuple_add_2 _ _)
  (tuple_addW0 a b #[] its2.toArray n n2 dd dd2 sl sl2 rfl) ⟨ho, ho2, ⟨.ref b, H, I, rfl, q⟩⟩
def rCatN (K : PySem.W.Frag) : R2 := fun x y H Q => ∃ (a b : Addr) (xs ys : List V), x = .ref a ∧ y = .ref b ∧ SqT K H a xs ∧ SqT K H b ys ∧ ys ≠ [] ∧ xs.length + ys.length ≤ sizeLine ∧
 (xs = [] → Q (.ref b) H) ∧ (xs ≠ [] → ∀ p, H p = none → Q (.ref p) (upd H p (.tup (xs ++ ys))))
theorem op_catN : OpR X (binaryOp .Add) (rCatN X.K) := by
 intro pins s σ H x y v u Q I rx ry h
 obtain ⟨a, b, xs, ys, rfl, rfl, ha, hb, hy, hz, q1, q2⟩ := h
 by_cases hx : xs = []
 ·subst hx
  exact op_cat0 pins s σ H _ _ v u Q I rx ry ⟨a, b, ys, rfl, rfl, ha, hb, q1 rfl⟩
 ·exact op_catT pins s σ H _ _ v u Q I rx ry ⟨a, b, xs, ys, rfl, rfl, ha, hb, hx, hz, fun z => absurd z hy, fun _ => q2 hx⟩
end
def compCheck (scope esc : Scope) (N own frn : List Str) (frj : List Nat) : Bool :=
 scope.names.all (fun y => y.2 != .cell) && scope.kind == .function && scope.names.all (fun y => y.2 != .local || scope.names.lookup y.1 == some .local)
 && scope.names.all (fun y => y.2 != .free || (esc.names.lookup y.1 == some .cell || esc.names.lookup y.1 == some .free))
 && frj.length == frn.length && (List.range frj.length).all (fun i => (frj[i]?).bind (fun j => N[j]?) == frn[i]?)
 && frn.all (fun x => scope.names.contains (x, NameKind.free) && scope.names.lookup x == some .free)
theorem CompScope.mk' {X : Cx} {scope esc : Scope} {N own frn : List Str} {frj : List Nat} (hs : X.env.scope = esc) (hN : X.N = N) (h : compCheck scope esc N own frn frj = true) : CompScope X scope own frn frj := by
 unfold compCheck at h
 simp only [Bool.and_eq_true, List.all_eq_true, bne_iff_ne, beq_iff_eq, Bool.or_eq_true, List.contains_iff_mem] at h
 obtain ⟨⟨⟨⟨⟨⟨h1, h2⟩, h3⟩, h4⟩, h5⟩, h6⟩, h7⟩ := h
 refine ⟨h1, h2, fun y hy hl => ?_, fun y hy hf => ?_, h5, fun i j e => ?_, fun x hx => h7 x hx⟩
 ·rcases h3 y hy with z | z
  ·exact absurd hl z
  ·exact z
 ·rw [hs]
  rcases h4 y hy with z | z
  ·exact absurd hf z
  ·exact z
 ·have hi : i < frj.length := (List.getElem?_eq_some_iff.mp e).1
  have q := h6 i (List.mem_range.mpr hi)
  rw [e] at q
  rw [hN]
  exact q
def KB (d : Addr) (H H' : Hp) : Prop := ∀ b o, H b = some o → b ≠ d → H' b = some o
theorem KB.refl (d : Addr) (H : Hp) : KB d H H := fun _ _ h _ => h
theorem KB.trans {d : Addr} {H H1 H2 : Hp} (a : KB d H H1) (b : KB d H1 H2) : KB d H H2 := fun c o h n => b c o (a c o h n) n
theorem KB.write {d : Addr} {H : Hp} {o : HO} : KB d H (upd H d o) := fun b o h n => by rw [upd_ne n]; exact h
theorem Same.kb {d : Addr} {H H' : Hp} (s : Same H H') : KB d H H' := fun b o h _ => s b o h
theorem Same.new {H : Hp} {p : Addr} {o : HO} (h : H p = none) : Same H (upd H p o) := fun b u e => by rw [upd_ne (ne_of_none e h)]; exact e
theorem Same.kbn {d : Addr} {H H1 H2 : Hp} (s : Same H H1) (h : H d = none) (k : KB d H1 H2) : Same H H2 := fun b o e => k b o (s b o e) (ne_of_none e h)
theorem KB.seq {K : PySem.W.Frag} {d : Addr} {H H' : Hp} {a : Addr} {xs : List V} (e : KB d H H') (n : a ≠ d) (h : SqL K H a xs) : SqL K H' a xs := by
 rcases h with (h | ⟨o, h⟩) | h
 ·exact .inl (.inl (e _ _ h n))
 ·exact .inl (.inr ⟨o, e _ _ h n⟩)
 ·exact .inr h
theorem Same.seqT {K : PySem.W.Frag} {H H' : Hp} {a : Addr} {xs : List V} (e : Same H H') (h : SqT K H a xs) : SqT K H' a xs := by
 rcases h with (h | ⟨o, h⟩) | h
 ·exact .inl (.inl (e _ _ h))
 ·exact .inl (.inr ⟨o, e _ _ h⟩)
 ·exact .inr h
def KTu (H H' : Hp) : Prop := ∀ b xs, H b = some (.tup xs) → H' b = some (.tup xs)
theorem KTu.trans {H H1 H2 : Hp} (a : KTu H H1) (b : KTu H1 H2) : KTu H H2 := fun c o h => b c o (a c o h)
theorem Same.kt {H H' : Hp} (s : Same H H') : KTu H H' := fun b xs h => s b _ h
theorem KTu.lst {H : Hp} {d : Addr} {xs : List V} {o : HO} (h : H d = some (.lst xs)) : KTu H (upd H d o) := fun b ys e => by
 rw [upd_ne (ne_of e h (fun z => nomatch z))]; exact e
theorem KTu.kb {d : Addr} {xs : List V} {H H' : Hp} (h : H d = some (.lst xs)) (k : KB d H H') : KTu H H' := fun b ys e => k b _ e (ne_of e h (fun z => nomatch z))
def Tups (H : Hp) (ps : List Addr) (ls : List (List Int)) : Prop := Paired (fun p (l : List Int) => H p = some (.tup (l.map V.int))) ps ls
theorem Tups.keep {H H' : Hp} {ps : List Addr} {ls : List (List Int)} (t : Tups H ps ls) (k : KTu H H') : Tups H' ps ls := Paired.mapP t fun _ _ h => k _ _ h
theorem paired_append {α β : Type} {F : α → β → Prop} : ∀ {xs ys : List α} {us ws : List β}, Paired F xs us → Paired F ys ws → Paired F (xs ++ ys) (us ++ ws)
 | _, _, _, _, .nil, s => s
 | _, _, _, _, .cons r t, s => .cons r (paired_append t s)
end L2
namespace L2
open PySem
theorem bt_len : bootBuiltins "len" = some (.builtin "len") := by decide +kernel
theorem bt_min : bootBuiltins "min" = some (.builtin "min") := by decide +kernel
theorem bt_isinstance : bootBuiltins "isinstance" = some (.builtin "isinstance") := by decide +kernel
theorem bt_sorted : bootBuiltins "sorted" = some (.builtin "sorted") := by decide +kernel
theorem bt_list : bootBuiltins "list" = some (.type "list") := by decide +kernel
theorem bt_tuple : bootBuiltins "tuple" = some (.type "tuple") := by decide +kernel
theorem bt_int : bootBuiltins "int" = some (.type "int") := by decide +kernel
theorem bt_set : bootBuiltins "set" = some (.type "set") := by decide +kernel
theorem bt_reversed : bootBuiltins "reversed" = some (.type "reversed") := by decide +kernel
end L2
namespace L2
open PySem PySem.Spec PyProof.Rows
def rLen (K : PySem.W.Frag) : List V → Hp → VK → Prop := fun xs H Q => ∃ x n, xs = [x] ∧ LenV K x H n ∧ Q (.int n) H
section
variable {X : Cx}
theorem call_lenK (K : PySem.W.Frag) (hK : X.K = K := by rfl) : CallR X (.builtin "len") (rLen K) := by subst hK; exact call_len
theorem ix_listK (K : PySem.W.Frag) (hK : X.K = K := by rfl) : IxR X (rIxL K) := by subst hK; exact ix_list
theorem ix_tupK (K : PySem.W.Frag) (hK : X.K = K := by rfl) : IxR X (rIxT K) := by subst hK; exact ix_tup
theorem sl_listK (K : PySem.W.Frag) (hK : X.K = K := by rfl) : SlR X (rSlL K) := by subst hK; exact sl_list
theorem op_catNK (K : PySem.W.Frag) (hK : X.K = K := by rfl) : OpR X (binaryOp .Add) (rCatN K) := by subst hK; exact op_catN
theorem op_inK (K : PySem.W.Frag) (hK : X.K = K := by rfl) : OpR X (compareOp .In) (rIn K false) := by subst hK; exact op_in_seq
theorem op_notInK (K : PySem.W.Frag) (hK : X.K = K := by rfl) : OpR X (compareOp .NotIn) (rIn K true) := by subst hK; exact op_notIn_seq
def CPos (_ j : Int) : Prop := 0 < j
theorem cpos {i j : Int} (h : 0 < j) : CPos i j := h
theorem op_modP : OpR X (binaryOp .Mod) (rI CPos fun i j => .int (i % j)) := op_mod
end
end L2
namespace L2
theorem seq_rest {t u : TS} {D : Ends} {σ : St} {H : Hp} (Pv : St → Hp → Prop) (h1 : ∀ σ H, Pv σ H → u D σ H) (h2 : (∀ σ H, Pv σ H → u D σ H) → t { D with nx := u D } σ H) : tSeq t u D σ H := h2 h1
end L2
namespace L2
open PySem PySem.Spec PyProof.Rows
inductive Dt where
 | non | bl (b : Bool) | int (i : Int) | str (x : Str) | tup (xs : List Dt) | lst (xs : List Dt)
mutual
def Dt.beq : Dt → Dt → Bool
 | .non, .non => true
 | .bl a, .bl b => a == b
 | .bl a, .int b => (if a then 1 else 0) == b
 | .int a, .bl b => a == (if b then 1 else 0)
 | .int a, .int b => a == b
 | .str a, .str b => a == b
 | .tup xs, .tup ys => Dt.beqs xs ys
 | .lst xs, .lst ys => Dt.beqs xs ys
 | _, _ => false
def Dt.beqs : List Dt → List Dt → Bool
 | [], [] => true
 | x :: xs, y :: ys => x.beq y && Dt.beqs xs ys
 | _, _ => false
end
mutual
def Dt.dep : Dt → Nat
 | .tup xs => Dt.deps xs + 1
 | .lst xs => Dt.deps xs + 1
 | _ => 0
def Dt.deps : List Dt → Nat
 | [] => 0
 | x :: xs => max x.dep (Dt.deps xs)
end
mutual
def DatAt (K : PySem.W.Frag) (H : Hp) : V → Dt → Prop
 | x, .non => x = .non
 | x, .bl b => x = .bl b
 | x, .int i => x = .int i
 | x, .str z => x = .str z
 | x, .tup ds => ∃ a xs, x = .ref a ∧ SqT K H a xs ∧ DatsAt K H xs ds
 | x, .lst ds => ∃ a xs, x = .ref a ∧ SqL K H a xs ∧ DatsAt K H xs ds
def DatsAt (K : PySem.W.Frag) (H : Hp) : List V → List Dt → Prop
 | [], [] => True
 | x :: xs, d :: ds => DatAt K H x d ∧ DatsAt K H xs ds
 | _, _ => False
end
theorem Dt.beq_refl (d : Dt) : d.beq d = true := by
 induction d using Dt.rec (motive_2 := fun xs => Dt.beqs xs xs = true) with
 | non => simp [Dt.beq]
 | bl b => simp [Dt.beq]
 | int b => simp [Dt.beq]
 | str b => simp [Dt.beq]
 | tup xs ih => simp [Dt.beq, ih]
 | lst xs ih => simp [Dt.beq, ih]
 | nil => simp [Dt.beqs]
 | cons x xs h1 h2 => simp [Dt.beqs, h1, h2]
theorem DatsAt.length {K : PySem.W.Frag} {H : Hp} : ∀ {xs : List V} {ds : List Dt}, DatsAt K H xs ds → xs.length = ds.length
 | [], [], _ => rfl
 | [], _ :: _, h => by simp [DatsAt] at h
 | _ :: _, [], h => by simp [DatsAt] at h
 | x :: xs, d :: ds, h => by
  rw [DatsAt] at h
  rw [List.length_cons, List.length_cons, DatsAt.length h.2]
theorem DatsAt.get {K : PySem.W.Frag} {H : Hp} : ∀ {xs : List V} {ds : List Dt} {i : Nat} {x : V}, DatsAt K H xs ds → xs[i]? = some x → ∃ d, ds[i]? = some d ∧ DatAt K H x d
 | [], _, _, _, _, e => by simp at e
 | _ :: _, [], _, _, h, _ => by simp [DatsAt] at h
 | x :: xs, d :: ds, 0, y, h, e => by
  rw [DatsAt] at h
  simp at e; subst e
  exact ⟨d, rfl, h.1⟩
 | x :: xs, d :: ds, i + 1, y, h, e => by
  rw [DatsAt] at h
  obtain ⟨d', h1, h2⟩ := DatsAt.get (i := i) (x := y) h.2 (by simpa using e)
  exact ⟨d', by simpa using h1, h2⟩
theorem Dt.deps_mem {d : Dt} : ∀ {ds : List Dt}, d ∈ ds → d.dep ≤ Dt.deps ds
 | [], h => by cases h
 | x :: xs, h => by
  rw [Dt.deps]
  rcases List.mem_cons.mp h with rfl | h
  ·exact Nat.le_max_left ..
  ·exact Nat.le_trans (Dt.deps_mem h) (Nat.le_max_right ..)
def beqAt (xs ys : List Dt) (j : Nat) : Bool := match xs[j]?, ys[j]? with
 | some x, some y => x.beq y
 | _, _ => false
theorem all_range_succ (n : Nat) (e : Nat → Bool) : (List.range (n + 1)).all e = (e 0 && (List.range n).all fun j => e (j + 1)) := by
 rw [List.range_succ_eq_map, List.all_cons, List.all_map]; rfl
theorem beqs_all : ∀ (xs ys : List Dt), xs.length = ys.length → (List.range xs.length).all (beqAt xs ys) = Dt.beqs xs ys
 | [], [], _ => by simp [Dt.beqs]
 | x :: xs, y :: ys, h => by
  have h' : xs.length = ys.length := by simpa using h
  rw [List.length_cons, all_range_succ, Dt.beqs, ← beqs_all xs ys h']
  rfl
theorem beqs_len : ∀ (xs ys : List Dt), xs.length ≠ ys.length → Dt.beqs xs ys = false
 | [], [], h => absurd rfl h
 | [], _ :: _, _ => by simp [Dt.beqs]
 | _ :: _, [], _ => by simp [Dt.beqs]
 | x :: xs, y :: ys, h => by
  have h' : xs.length ≠ ys.length := fun z => h (by simp [z])
  rw [Dt.beqs, beqs_len xs ys h', Bool.and_false]
section
variable {X : Cx} {pins : List (Addr × Obj)} {σ : St} {H : Hp} {s : Shared}
theorem list_not_tuple {a : Addr} {xs ys : List V} (I : Inv X pins σ H s) (h1 : SqL X.K H a xs) (h2 : SqT X.K H a ys) : False := by
 obtain ⟨its, _, p, _⟩ := I.list h1
 obtain ⟨its2, _, q, _⟩ := I.tuple h2
 exact SeqAt.ne_of_list_tuple p.isList (show s.heap.IsTuple a its2.toArray from q) rfl
theorem dat_inj (I : Inv X pins σ H s) (d : Dt) : ∀ (x : V) (d' : Dt), DatAt X.K H x d → DatAt X.K H x d' → d = d' := by
 induction d using Dt.rec (motive_2 := fun ds => ∀ (xs : List V) (ds' : List Dt), DatsAt X.K H xs ds → DatsAt X.K H xs ds' → ds = ds') with
 | non => intro x d' h h'; cases d' <;> simp_all [DatAt]
 | bl b => intro x d' h h'; cases d' <;> simp_all [DatAt]
 | int b => intro x d' h h'; cases d' <;> simp_all [DatAt]
 | str b => intro x d' h h'; cases d' <;> simp_all [DatAt]
 | tup ds ih =>
  intro x d' h h'
  rw [DatAt] at h
  obtain ⟨a, xs, rfl, hq, hd⟩ := h
  cases d' with
  | tup ds' =>
   rw [DatAt] at h'
   obtain ⟨a', xs', e, hq', hd'⟩ := h'
   cases e
   rw [I.tuple_inj hq' hq] at hd'
   rw [ih xs ds' hd hd']
  | lst ds' =>
   rw [DatAt] at h'
   obtain ⟨a', xs', e, hq', hd'⟩ := h'
   cases e
   exact (list_not_tuple I hq' hq).elim
  | _ => simp [DatAt] at h'
 | lst ds ih =>
  intro x d' h h'
  rw [DatAt] at h
  obtain ⟨a, xs, rfl, hq, hd⟩ := h
  cases d' with
  | lst ds' =>
   rw [DatAt] at h'
   obtain ⟨a', xs', e, hq', hd'⟩ := h'
   cases e
   rw [I.list_inj hq' hq] at hd'
   rw [ih xs ds' hd hd']
  | tup ds' =>
   rw [DatAt] at h'
   obtain ⟨a', xs', e, hq', hd'⟩ := h'
   cases e
   exact (list_not_tuple I hq hq').elim
  | _ => simp [DatAt] at h'
 | nil =>
  rename_i xs ds' h h'
  cases xs with
  | nil => cases ds' with
   | nil => rfl
   | cons _ _ => simp [DatsAt] at h'
  | cons _ _ => simp [DatsAt] at h
 | cons d ds h1 h2 =>
  rename_i xs ds' h h'
  cases xs with
  | nil => simp [DatsAt] at h
  | cons x xs => cases ds' with
   | nil => simp [DatsAt] at h'
   | cons d' ds' =>
    rw [DatsAt] at h h'
    rw [h1 x d' h.1 h'.1, h2 xs ds' h.2 h'.2]
theorem items_eq {A : Around} {xs ys : List V} {ds ds' : List Dt} {its its2 : List Value} (r1 : Vals xs its) (r2 : Vals ys its2) (h1 : DatsAt X.K H xs ds) (h2 : DatsAt X.K H ys ds')
  (ih : ∀ d ∈ ds, ∀ (d' : Dt) (x y : V) (u v : Value), DatAt X.K H x d → DatAt X.K H y d' → RelV x u → RelV y v → SeqAt.EqAt A s u v (d.beq d')) :
  ∀ j (a : j < its.toArray.size) (b : j < its2.toArray.size), SeqAt.EqAt A s its.toArray[j] its2.toArray[j] (beqAt ds ds' j) := fun j a b => by
 have a' : j < its.length := by simpa using a
 have b' : j < its2.length := by simpa using b
 have la := r1.length
 have lb := r2.length
 have ex : xs[j]? = some (xs[j]'(by omega)) := List.getElem?_eq_getElem (by omega)
 have ey : ys[j]? = some (ys[j]'(by omega)) := List.getElem?_eq_getElem (by omega)
 obtain ⟨u, eu, ru⟩ := r1.get ex
 obtain ⟨v, ev, rv⟩ := r2.get ey
 obtain ⟨d, ed, hd⟩ := h1.get ex
 obtain ⟨d', ed', hd'⟩ := h2.get ey
 have e1 : its.toArray[j] = u := by
  rw [List.getElem?_eq_getElem a'] at eu
  simpa using Option.some.inj eu
 have e2 : its2.toArray[j] = v := by
  rw [List.getElem?_eq_getElem b'] at ev
  simpa using Option.some.inj ev
 rw [e1, e2]
 have e3 : beqAt ds ds' j = d.beq d' := by unfold beqAt; rw [ed, ed']
 rw [e3]
 exact ih d (List.mem_of_getElem? ed) d' _ _ u v hd hd' ru rv
theorem rc_lists {A : Around} {a b : Addr} {xs ys : List V} {ds ds' : List Dt} (I : Inv X pins σ H s) (q1 : SqL X.K H a xs) (q2 : SqL X.K H b ys) (h1 : DatsAt X.K H xs ds) (h2 : DatsAt X.K H ys ds') (hu : A.units < cLine)
  (ih : ∀ d ∈ ds, ∀ (d' : Dt) (x y : V) (u v : Value), DatAt X.K H x d → DatAt X.K H y d' → RelV x u → RelV y v → SeqAt.EqAt A.in1 s u v (d.beq d')) : SeqAt.RcAt A s (.ref a) (.ref b) (Dt.beqs ds ds') := by
 obtain ⟨its, r1, p1, _⟩ := I.list q1
 obtain ⟨its2, r2, p2, _⟩ := I.list q2
 have l1 := r1.length
 have l2 := r2.length
 have l3 := h1.length
 have l4 := h2.length
 by_cases hl : ds.length = ds'.length
 ·have := SeqAt.RcAt.lists p1.isList p2.isList (by simp; omega) hu (items_eq r1 r2 h1 h2 ih)
  rw [show its.toArray.size = ds.length by simp; omega, beqs_all ds ds' hl] at this
  exact this
 ·rw [beqs_len ds ds' hl]
  exact SeqAt.RcAt.lists_lengths p1.isList p2.isList (by simp; omega) hu
theorem rc_tuples {A : Around} {a b : Addr} {xs ys : List V} {ds ds' : List Dt} (I : Inv X pins σ H s) (q1 : SqT X.K H a xs) (q2 : SqT X.K H b ys) (h1 : DatsAt X.K H xs ds) (h2 : DatsAt X.K H ys ds') (hu : A.units < cLine)
  (ih : ∀ d ∈ ds, ∀ (d' : Dt) (x y : V) (u v : Value), DatAt X.K H x d → DatAt X.K H y d' → RelV x u → RelV y v → SeqAt.EqAt A.in1 s u v (d.beq d')) : SeqAt.RcAt A s (.ref a) (.ref b) (Dt.beqs ds ds') := by
 obtain ⟨its, r1, p1, _⟩ := I.tuple q1
 obtain ⟨its2, r2, p2, _⟩ := I.tuple q2
 have l1 := r1.length
 have l2 := r2.length
 have l3 := h1.length
 have l4 := h2.length
 have := SeqAt.RcAt.tuples (show s.heap.IsTuple a its.toArray from p1) (show s.heap.IsTuple b its2.toArray from p2) hu (items_eq r1 r2 h1 h2 ih)
 by_cases hl : ds.length = ds'.length
 ·rw [show min its.toArray.size its2.toArray.size = ds.length by simp; omega, beqs_all ds ds' hl, show (its.toArray.size == its2.toArray.size) = true by simp; omega, Bool.and_true] at this
  exact this
 ·rw [show (its.toArray.size == its2.toArray.size) = false by simp; omega, Bool.and_false] at this
  rw [beqs_len ds ds' hl]
  exact this
theorem dat_eqAt (I : Inv X pins σ H s) (d : Dt) : ∀ (A : Around) (d' : Dt) (x y : V) (u v : Value), A.units + d.dep < cLine → DatAt X.K H x d → DatAt X.K H y d' → RelV x u → RelV y v → SeqAt.EqAt A s u v (d.beq d') := by
 have flat : ∀ {A : Around} {d d' : Dt} {x y : V} {u v : Value}, flatV x = true → flatV y = true → eqV x y = d.beq d' → RelV x u → RelV y v → SeqAt.EqAt A s u v (d.beq d') := fun fx fy e ru rv => e ▸ eqAt_V ru rv fx fy
 have lOf : ∀ {a : Addr} {xs : List V}, SqL X.K H a xs → ∃ its : Array Value, s.heap.IsList a its := fun q => let ⟨its, _, p, _⟩ := I.list q; ⟨_, p.isList⟩
 have tOf : ∀ {a : Addr} {xs : List V}, SqT X.K H a xs → ∃ its : Array Value, s.heap.IsTuple a its := fun q => let ⟨its, _, p, _⟩ := I.tuple q; ⟨_, p⟩
 have refs : ∀ {A : Around} {a b : Addr} {d d' : Dt}, DatAt X.K H (.ref a) d → DatAt X.K H (.ref b) d' → SeqAt.RcAt A s (.ref a) (.ref b) (d.beq d') → SeqAt.EqAt A s (.ref a) (.ref b) (d.beq d') := by
  intro A a b d d' h h' r
  by_cases e : a = b
  ·subst e
   rw [← dat_inj I d _ _ h h', Dt.beq_refl]
   exact SeqAt.EqAt.same _
  ·exact SeqAt.EqAt.of_refs e r
 induction d using Dt.rec (motive_2 := fun ds => ∀ d ∈ ds, ∀ (A : Around) (d' : Dt) (x y : V) (u v : Value), A.units + d.dep < cLine → DatAt X.K H x d → DatAt X.K H y d' → RelV x u → RelV y v → SeqAt.EqAt A s u v (d.beq d')) with
 | non =>
  intro A d' x y u v hu h h' ru rv
  rw [DatAt] at h
  subst h
  have hu' : A.units < cLine := by omega
  cases d' with
  | tup ds' =>
   rw [DatAt] at h'; obtain ⟨b, ys, rfl, q, _⟩ := h'
   cases ru; cases rv
   obtain ⟨its, p⟩ := tOf q
   exact SeqAt.EqAt.none_tuple p hu'
  | lst ds' =>
   rw [DatAt] at h'; obtain ⟨b, ys, rfl, q, _⟩ := h'
   cases ru; cases rv
   obtain ⟨its, p⟩ := lOf q
   exact SeqAt.EqAt.none_list p hu'
  | _ => rw [DatAt] at h'; subst h'; exact flat rfl rfl (by simp [Dt.beq, eqV]) ru rv
 | bl b0 =>
  intro A d' x y u v hu h h' ru rv
  rw [DatAt] at h
  subst h
  have hu' : A.units < cLine := by omega
  cases d' with
  | tup ds' =>
   rw [DatAt] at h'; obtain ⟨b, ys, rfl, q, _⟩ := h'
   cases ru; cases rv
   obtain ⟨its, p⟩ := tOf q
   exact SeqAt.EqAt.bool_tuple _ p hu'
  | lst ds' =>
   rw [DatAt] at h'; obtain ⟨b, ys, rfl, q, _⟩ := h'
   cases ru; cases rv
   obtain ⟨its, p⟩ := lOf q
   exact SeqAt.EqAt.bool_list _ p hu'
  | _ => rw [DatAt] at h'; subst h'; exact flat rfl rfl (by simp [Dt.beq, eqV]) ru rv
 | int i0 =>
  intro A d' x y u v hu h h' ru rv
  rw [DatAt] at h
  subst h
  have hu' : A.units < cLine := by omega
  cases d' with
  | tup ds' =>
   rw [DatAt] at h'; obtain ⟨b, ys, rfl, q, _⟩ := h'
   obtain ⟨t, rfl⟩ := ru; cases rv
   obtain ⟨its, p⟩ := tOf q
   exact SeqAt.EqAt.int_tuple _ _ p hu'
  | lst ds' =>
   rw [DatAt] at h'; obtain ⟨b, ys, rfl, q, _⟩ := h'
   obtain ⟨t, rfl⟩ := ru; cases rv
   obtain ⟨its, p⟩ := lOf q
   exact SeqAt.EqAt.int_list _ _ p hu'
  | _ => rw [DatAt] at h'; subst h'; exact flat rfl rfl (by simp [Dt.beq, eqV]) ru rv
 | str z0 =>
  intro A d' x y u v hu h h' ru rv
  rw [DatAt] at h
  subst h
  have hu' : A.units < cLine := by omega
  cases d' with
  | tup ds' =>
   rw [DatAt] at h'; obtain ⟨b, ys, rfl, q, _⟩ := h'
   obtain ⟨t, rfl⟩ := ru; cases rv
   obtain ⟨its, p⟩ := tOf q
   exact SeqAt.EqAt.str_tuple _ _ p hu'
  | lst ds' =>
   rw [DatAt] at h'; obtain ⟨b, ys, rfl, q, _⟩ := h'
   obtain ⟨t, rfl⟩ := ru; cases rv
   obtain ⟨its, p⟩ := lOf q
   exact SeqAt.EqAt.str_list _ _ p hu'
  | _ => rw [DatAt] at h'; subst h'; exact flat rfl rfl (by simp [Dt.beq, eqV]) ru rv
 | tup ds ih =>
  intro A d' x y u v hu h h' ru rv
  have hD := h
  have hD' := h'
  rw [DatAt] at h
  obtain ⟨a, xs, rfl, q, hd⟩ := h
  cases ru
  obtain ⟨its, p⟩ := tOf q
  have hu' : A.units < cLine := by omega
  cases d' with
  | non => rw [DatAt] at h'; subst h'; cases rv; exact SeqAt.EqAt.tuple_none p hu'
  | bl b => rw [DatAt] at h'; subst h'; cases rv; exact SeqAt.EqAt.tuple_bool _ p hu'
  | int b => rw [DatAt] at h'; subst h'; obtain ⟨t, rfl⟩ := rv; exact SeqAt.EqAt.tuple_int _ _ p hu'
  | str b => rw [DatAt] at h'; subst h'; obtain ⟨t, rfl⟩ := rv; exact SeqAt.EqAt.tuple_str _ _ p hu'
  | lst ds' =>
   rw [DatAt] at h'; obtain ⟨b, ys, rfl, q', _⟩ := h'
   cases rv
   obtain ⟨its2, p2⟩ := lOf q'
   exact SeqAt.EqAt.tuple_list p p2 hu'
  | tup ds' =>
   rw [DatAt] at h'; obtain ⟨b, ys, rfl, q', hd'⟩ := h'
   cases rv
   refine refs hD hD' ?_
   have := rc_tuples (A := A) I q q' hd hd' hu' fun d hm d' x y u v h1 h2 r1 r2 => ih d hm A.in1 d' x y u v (by
    have := Dt.deps_mem hm
    rw [Dt.dep] at hu
    show A.units + 1 + d.dep < cLine
    omega) h1 h2 r1 r2
   simpa [Dt.beq] using this
 | lst ds ih =>
  intro A d' x y u v hu h h' ru rv
  have hD := h
  have hD' := h'
  rw [DatAt] at h
  obtain ⟨a, xs, rfl, q, hd⟩ := h
  cases ru
  obtain ⟨its, p⟩ := lOf q
  have hu' : A.units < cLine := by omega
  cases d' with
  | non => rw [DatAt] at h'; subst h'; cases rv; exact SeqAt.EqAt.list_none p hu'
  | bl b => rw [DatAt] at h'; subst h'; cases rv; exact SeqAt.EqAt.list_bool _ p hu'
  | int b => rw [DatAt] at h'; subst h'; obtain ⟨t, rfl⟩ := rv; exact SeqAt.EqAt.list_int _ _ p hu'
  | str b => rw [DatAt] at h'; subst h'; obtain ⟨t, rfl⟩ := rv; exact SeqAt.EqAt.list_str _ _ p hu'
  | tup ds' =>
   rw [DatAt] at h'; obtain ⟨b, ys, rfl, q', _⟩ := h'
   cases rv
   obtain ⟨its2, p2⟩ := tOf q'
   exact SeqAt.EqAt.list_tuple p p2 hu'
  | lst ds' =>
   rw [DatAt] at h'; obtain ⟨b, ys, rfl, q', hd'⟩ := h'
   cases rv
   refine refs hD hD' ?_
   have := rc_lists (A := A) I q q' hd hd' hu' fun d hm d' x y u v h1 h2 r1 r2 => ih d hm A.in1 d' x y u v (by
    have := Dt.deps_mem hm
    rw [Dt.dep] at hu
    show A.units + 1 + d.dep < cLine
    omega) h1 h2 r1 r2
   simpa [Dt.beq] using this
 | nil =>
  rename_i d hd A d' x y u v a1 a2 a3 a4 a5
  cases hd
 | cons d ds h1 h2 =>
  rename_i d0 hd A d' x y u v a1 a2 a3 a4 a5
  rcases List.mem_cons.mp hd with e | hd
  ·subst e; exact h1 A d' x y u v a1 a2 a3 a4 a5
  ·exact h2 d0 hd A d' x y u v a1 a2 a3 a4 a5
def Dt.isSq : Dt → Bool
 | .tup _ => true
 | .lst _ => true
 | _ => false
def rEqD (K : PySem.W.Frag) (neg : Bool) : R2 := fun x y H Q => ∃ d d' : Dt, DatAt K H x d ∧ DatAt K H y d' ∧ d.isSq = true ∧ d'.isSq = true ∧ d.dep ≤ 40 ∧ Q (.bl (if neg then !d.beq d' else d.beq d')) H
theorem op_eqD (K : PySem.W.Frag) (hu : X.A.units + 64 < cLine) (hK : X.K = K := by rfl) : OpR X (compareOp .Eq) (rEqD K false) := by
 subst hK
 intro pins s σ H x y v u Q I rx ry h
 obtain ⟨d, d', h, h', sq, sq', hd, q⟩ := h
 have hA : ∀ e : Dt, e.dep ≤ 40 → X.A.in1.units + e.dep < cLine := fun e he => by show X.A.units + 1 + e.dep < cLine; omega
 have hu' : X.A.units < cLine := by omega
 cases d with
 | tup ds =>
  rw [DatAt] at h
  obtain ⟨a, xs, rfl, q1, hd1⟩ := h
  cases rx
  have ih : ∀ d ∈ ds, ∀ (d' : Dt) (x y : V) (u v : Value), DatAt X.K H x d → DatAt X.K H y d' → RelV x u → RelV y v → SeqAt.EqAt X.A.in1 s u v (d.beq d') := fun d hm d' x y u v h1 h2 r1 r2 =>
   dat_eqAt I d X.A.in1 d' x y u v (hA d (by have := Dt.deps_mem hm; rw [Dt.dep] at hd; omega)) h1 h2 r1 r2
  cases d' with
  | tup ds' =>
   rw [DatAt] at h'
   obtain ⟨b, ys, rfl, q2, hd2⟩ := h'
   cases ry
   exact rc_tuples I q1 q2 hd1 hd2 hu' ih _ _ _ _ ⟨.bl _, H, I, rfl, by simpa [Dt.beq] using q⟩
  | lst ds' =>
   rw [DatAt] at h'
   obtain ⟨b, ys, rfl, q2, hd2⟩ := h'
   cases ry
   obtain ⟨its, _, p, _⟩ := I.tuple q1
   obtain ⟨its2, _, p2, _⟩ := I.list q2
   exact SeqAt.RcAt.tuple_list (show s.heap.IsTuple a its.toArray from p) p2.isList hu' _ _ _ _ ⟨.bl _, H, I, rfl, by simpa [Dt.beq] using q⟩
  | _ => cases sq'
 | lst ds =>
  rw [DatAt] at h
  obtain ⟨a, xs, rfl, q1, hd1⟩ := h
  cases rx
  have ih : ∀ d ∈ ds, ∀ (d' : Dt) (x y : V) (u v : Value), DatAt X.K H x d → DatAt X.K H y d' → RelV x u → RelV y v → SeqAt.EqAt X.A.in1 s u v (d.beq d') := fun d hm d' x y u v h1 h2 r1 r2 =>
   dat_eqAt I d X.A.in1 d' x y u v (hA d (by have := Dt.deps_mem hm; rw [Dt.dep] at hd; omega)) h1 h2 r1 r2
  cases d' with
  | lst ds' =>
   rw [DatAt] at h'
   obtain ⟨b, ys, rfl, q2, hd2⟩ := h'
   cases ry
   exact rc_lists I q1 q2 hd1 hd2 hu' ih _ _ _ _ ⟨.bl _, H, I, rfl, by simpa [Dt.beq] using q⟩
  | tup ds' =>
   rw [DatAt] at h'
   obtain ⟨b, ys, rfl, q2, hd2⟩ := h'
   cases ry
   obtain ⟨its, _, p, _⟩ := I.list q1
   obtain ⟨its2, _, p2, _⟩ := I.tuple q2
   exact SeqAt.RcAt.list_tuple p.isList (show s.heap.IsTuple b its2.toArray from p2) hu' _ _ _ _ ⟨.bl _, H, I, rfl, by simpa [Dt.beq] using q⟩
  | _ => cases sq'
 | _ => cases sq
theorem op_neD (K : PySem.W.Frag) (hu : X.A.units + 64 < cLine) (hK : X.K = K := by rfl) : OpR X (compareOp .NotEq) (fun x y H Q => rEqD K true x y H Q ∧ ∃ d d' : Dt, DatAt K H x d ∧ DatAt K H y d' ∧ ((∃ ds ds', d = .tup ds ∧ d' = .tup ds') ∨ ∃ ds ds', d = .lst ds ∧ d' = .lst ds')) := by
 subst hK
 intro pins s σ H x y v u Q I rx ry h
 obtain ⟨⟨d, d', h, h', sq, sq', hd, q⟩, e, e', g, g', hk⟩ := h
 have e1 := dat_inj I d x e h g
 have e2 := dat_inj I d' y e' h' g'
 subst e1 e2
 have hA : ∀ e : Dt, e.dep ≤ 40 → X.A.in1.units + e.dep < cLine := fun e he => by show X.A.units + 1 + e.dep < cLine; omega
 have hu' : X.A.units < cLine := by omega
 rcases hk with ⟨ds, ds', rfl, rfl⟩ | ⟨ds, ds', rfl, rfl⟩
 ·rw [DatAt] at h h'
  obtain ⟨a, xs, rfl, q1, h1⟩ := h
  obtain ⟨b, ys, rfl, q2, h2⟩ := h'
  cases rx
  cases ry
  have ih : ∀ d ∈ ds, ∀ (d' : Dt) (x y : V) (u v : Value), DatAt X.K H x d → DatAt X.K H y d' → RelV x u → RelV y v → SeqAt.EqAt X.A.in1 s u v (d.beq d') := fun d hm d' x y u v h1 h2 r1 r2 =>
   dat_eqAt I d X.A.in1 d' x y u v (hA d (by have := Dt.deps_mem hm; rw [Dt.dep] at hd; omega)) h1 h2 r1 r2
  obtain ⟨its, r1, p1, _⟩ := I.tuple q1
  obtain ⟨its2, r2, p2, _⟩ := I.tuple q2
  have l1 := r1.length
  have l2 := r2.length
  have l3 := h1.length
  have l4 := h2.length
  have z := SeqAt.RcNeAt.tuples (show s.heap.IsTuple a its.toArray from p1) (show s.heap.IsTuple b its2.toArray from p2) hu' (items_eq r1 r2 h1 h2 ih)
  have fin : SeqAt.RcNeAt X.A s (.ref a) (.ref b) (!Dt.beqs ds ds') := by
   by_cases hl : ds.length = ds'.length
   ·rw [show min its.toArray.size its2.toArray.size = ds.length by simp; omega, beqs_all ds ds' hl, show (its.toArray.size == its2.toArray.size) = true by simp; omega, Bool.and_true] at z
    exact z
   ·rw [show (its.toArray.size == its2.toArray.size) = false by simp; omega, Bool.and_false] at z
    rw [beqs_len ds ds' hl]
    exact z
  exact fin _ _ _ _ ⟨.bl _, H, I, rfl, by simpa [Dt.beq] using q⟩
 ·rw [DatAt] at h h'
  obtain ⟨a, xs, rfl, q1, h1⟩ := h
  obtain ⟨b, ys, rfl, q2, h2⟩ := h'
  cases rx
  cases ry
  have ih : ∀ d ∈ ds, ∀ (d' : Dt) (x y : V) (u v : Value), DatAt X.K H x d → DatAt X.K H y d' → RelV x u → RelV y v → SeqAt.EqAt X.A.in1 s u v (d.beq d') := fun d hm d' x y u v h1 h2 r1 r2 =>
   dat_eqAt I d X.A.in1 d' x y u v (hA d (by have := Dt.deps_mem hm; rw [Dt.dep] at hd; omega)) h1 h2 r1 r2
  obtain ⟨its, r1, p1, _⟩ := I.list q1
  obtain ⟨its2, r2, p2, _⟩ := I.list q2
  have l1 := r1.length
  have l2 := r2.length
  have l3 := h1.length
  have l4 := h2.length
  have fin : SeqAt.RcNeAt X.A s (.ref a) (.ref b) (!Dt.beqs ds ds') := by
   by_cases hl : ds.length = ds'.length
   ·have z := SeqAt.RcNeAt.lists p1.isList p2.isList (by simp; omega) hu' (items_eq r1 r2 h1 h2 ih)
    rw [show its.toArray.size = ds.length by simp; omega, beqs_all ds ds' hl] at z
    exact z
   ·rw [beqs_len ds ds' hl]
    exact SeqAt.RcNeAt.lists_lengths p1.isList p2.isList (by simp; omega) hu'
  exact fin _ _ _ _ ⟨.bl _, H, I, rfl, by simpa [Dt.beq] using q⟩
end
theorem dats_ints {K : PySem.W.Frag} {H : Hp} : ∀ (ns : List Int), DatsAt K H (ns.map V.int) (ns.map Dt.int)
 | [] => by simp [DatsAt]
 | n :: ns => by rw [List.map_cons, List.map_cons, DatsAt]; exact ⟨by rw [DatAt], dats_ints ns⟩
theorem beqs_ints : ∀ (ns ms : List Int), Dt.beqs (ns.map Dt.int) (ms.map Dt.int) = decide (ns = ms)
 | [], [] => by simp [Dt.beqs]
 | [], _ :: _ => by simp [Dt.beqs]
 | _ :: _, [] => by simp [Dt.beqs]
 | n :: ns, m :: ms => by
  rw [List.map_cons, List.map_cons, Dt.beqs, Dt.beq, beqs_ints ns ms]
  by_cases h : n = m
  ·subst h; simp
  ·simp [h]
theorem deps_ints : ∀ (ns : List Int), Dt.deps (ns.map Dt.int) = 0
 | [] => by simp [Dt.deps]
 | n :: ns => by rw [List.map_cons, Dt.deps, deps_ints ns]; simp [Dt.dep]
section
variable {X : Cx}
def rTuple (K : PySem.W.Frag) : List V → Hp → VK → Prop := fun xs H Q => ∃ (p : Addr) (ys : List V), xs = [.ref p] ∧ ((SqL K H p ys ∧ ∀ l, H l = none → Q (.ref l) (upd H l (.tup ys))) ∨ (SqT K H p ys ∧ Q (.ref p) H))
theorem call_tupleK (K : PySem.W.Frag) (hK : X.K = K := by rfl) : CallR X (.type "tuple") (rTuple K) := by subst hK; exact call_tuple_of
end
end L2
namespace L2
open PySem
theorem dI {i j : Int} (h : i = j) : decide (V.int i = V.int j) = true := by rw [h]; simp
theorem dIn {i j : Int} (h : i ≠ j) : decide (V.int i = V.int j) = false := by simp [h]
end L2
namespace L2
open PySem PySem.Spec PyProof.Rows
theorem strsAre_of {ys : List Str} : ∀ {us : List Value}, Vals (ys.map V.str) us → StrsAre us ys := by
 induction ys with
 | nil => intro us r; cases r; exact .nil
 | cons y ys ih =>
  intro us r
  rw [List.map_cons] at r
  cases r with
  | cons a b =>
   obtain ⟨t, rfl⟩ := a
   exact .cons y t (ih b)
theorem vals_strs : ∀ {us : List Value} {ys : List Str}, StrsAre us ys → Vals (ys.map V.str) us
 | _, _, .nil => .nil
 | _, _, .cons y t r => .cons ⟨t, rfl⟩ (vals_strs r)
theorem join_len (sep : Str) (ys : List Str) (h : (ys.map (·.length)).sum + ys.length * sep.length ≤ 16777216) : (Txt.join sep ys).length ≤ sizeLine := by
 have hok := joinOk_of h
 unfold JoinOk at hok
 rw [Bool.not_eq_true'] at hok
 have e : ys = (ys.map fun y => (y, (0 : Tok))).map (·.1) := by rw [List.map_map]; exact (List.map_id ys).symm
 rw [e] at hok ⊢
 exact joinFit_length hok
section
variable {X : Cx}
def rJoin (K : PySem.W.Frag) : V → List V → Hp → VK → Prop := fun x vs H Q => ∃ (sep : Str) (a : Addr) (ys : List Str), x = .str sep ∧ vs = [.ref a] ∧ SqL K H a (ys.map V.str) ∧ (ys.map (·.length)).sum + ys.length * sep.length ≤ 16777216 ∧ ∀ z : Str, z.length ≤ sizeLine → z = Txt.join sep ys → Q (.str z) H
theorem mt_joinK (K : PySem.W.Frag) (hK : X.K = K := by rfl) : MtM X "str.join" (rJoin K) := by
 subst hK
 intro pins s σ H x vs v us Q I rx rv h
 obtain ⟨sep, a, ys, rfl, rfl, hq, hz, q⟩ := h
 obtain ⟨t, rfl⟩ := rx
 obtain ⟨u, rfl, ru⟩ := rv.one
 cases ru
 obtain ⟨its, r, p, _⟩ := I.list hq
 exact join_list p.isList (show StrsAre its.toArray.toList ys from strsAre_of r) hz fun t' k => ⟨.str _, H, I.tok k, ⟨t', rfl⟩, q _ (join_len sep ys hz) rfl⟩
def rSortS (K : PySem.W.Frag) : List V → Hp → VK → Prop := fun xs H Q => ∃ (a : Addr) (ss : List Str), xs = [.ref a] ∧ SqL K H a (ss.map V.str) ∧ ss.length < 64 ∧
 ∀ (p : Addr) (ss' : List Str), H p = none → ss'.Perm ss → PyProof.Rows.sortedS ss' = true → Q (.ref p) (upd H p (.lst (ss'.map V.str)))
theorem call_sortSK (K : PySem.W.Frag) (hK : X.K = K := by rfl) : CallR X (.builtin "sorted") (rSortS K) := by
 subst hK
 intro pins s σ H xs us Q I r h
 obtain ⟨a, ss, rfl, hq, hl, q⟩ := h
 obtain ⟨u, rfl, ru⟩ := vals1 r
 cases ru
 obtain ⟨its, rv, p, hz⟩ := I.list hq
 have hlen := rv.length
 rw [List.length_map] at hlen
 refine sorted_strs p.isList (strsAre_of rv) (by omega) fun out ss' a1 a2 a3 => ?_
 obtain ⟨e, he⟩ := sortedAll_at s.heap its out
 have hp : s.heap.objs.size ≤ s.heap.objs.size + 1 := Nat.le_succ _
 refine ⟨.ref (s.heap.objs.size + 1), upd H (s.heap.objs.size + 1) (.lst (ss'.map V.str)), ?_, rfl, q _ ss' (I.hok.fresh hp) a2 a3⟩
 refine I.laid (t' := s.toks) (h' := sortedAll s.heap its out) (fun _ _ => sortedAll_old) hp ⟨?_, out.toList, e, vals_strs a1, ?_⟩
 ·rw [List.length_map, a2.length_eq]
  rw [List.length_map] at hz
  exact hz
 ·rw [he]
  first
   | done
   | rfl
def rSlS : V → Option Int → Option Int → Hp → VK → Prop := fun x lo hi H Q => ∃ z : Str, x = .str z ∧ z.length ≤ sizeLine ∧ Q (.str (Txt.slice z lo hi)) H
theorem isPart_part {v : Value} {o : Option Int} (p : IsPart v o) : ∃ l : Option (Int × Tok), v = partValue l ∧ l.map (·.1) = o := by
 cases p with
 | none => exact ⟨none, rfl, rfl⟩
 | int i t => exact ⟨some (i, t), rfl, rfl⟩
theorem sl_str : SlR X rSlS := by
 intro pins s σ H x v vl vu lo hi sl Q I rx hs pl pu h
 obtain ⟨z, rfl, hz, q⟩ := h
 obtain ⟨t, rfl⟩ := rx
 obtain ⟨l, rfl, hl⟩ := isPart_part pl
 obtain ⟨u, rfl, hu⟩ := isPart_part pu
 subst hl hu
 obtain ⟨o, ho, hc, hd⟩ := hs
 refine ⟨"str", _, PySem.F.slot_str_getitem.lookup, typeIs_str _ _ _, wpAny_getItem_str_slice (l := l) (u := u) (st := none) ⟨o, ho, hc, hd⟩ rfl ?_⟩
 exact post_val_or_str ⟨Nat.le_trans (Txt.slice_le z _ _) hz, fun t' k => ⟨.str _, H, I.tok k, ⟨t', rfl⟩, q⟩⟩
structure TopDict (K : PySem.W.Frag) (P : Params) (a : Addr) (tab : List (Str × Option V)) : Prop where
 ex : ∃ (es : Array DictEntry) (n : Nat), K.lookup a = some ⟨.type "dict", none, .dict es n, #[]⟩ ∧ PySem.W.KeysLit P es.toList ∧ ∀ x r, (x, r) ∈ tab → RelO r (findBy Value.isStrOf es x)
 lo : (a == sysModules) = false
def tTopGet (tab : List (Str × Option V)) (ty tx : TE) : TE := fun σ H Q => ty σ H fun y H1 => tx σ H1 fun z H2 => ∃ x r, y = .str x ∧ (x, r) ∈ tab ∧ Q (r.getD z) H2
theorem pe_topget {x : Str} {p apos cpos : Pos} {e f : Expr} {ty tx : TE} {a : Addr} {tab : List (Str × Option V)} (D : TopDict X.K X.w.params a tab) (hg : Gl X x) (hm : X.mg x = some (.ref a)) (he : PE X e ty) (hf : PE X f tx)
  (m : M2 X (.Name x p) "get" apos e f cpos := by exact ⟨rfl, rfl, rfl, rfl⟩) (hdb : (x == ("__debug__" : Str)) = false := by decide) : PE X (.Call (.Attribute (.Name x p) "get" apos) [e, f] [] cpos) (tTopGet tab ty tx) := by
 intro pins s σ H Q I h
 obtain ⟨es, n, hl, hk, ht⟩ := D.ex
 refine wpAny_Call_method m.base m.few m.line PySem.F.plainAttrs_dict PySem.F.slot_dict_get PySem.F.type_dict_get (ld_glob I hg hm ?_ hdb)
 have hm0 := PySem.W.mapOf_K (prog := X.prog) I.kIn hl hk
 refine ⟨hm0.typeIs, hm0.noDict, ?_⟩
 rw [m.trees]
 refine Calls.callWith_builtin rfl (Calls.evalArgs_plain (Calls.spliced_cons (thn (he pins s σ H _ I h) fun iv s2 ⟨y, H2, I2, ry, q2⟩ =>
  Calls.spliced_cons (thn (hf pins s2 σ H2 _ I2 q2) fun fv s3 ⟨z, H3, I3, rz, x', r, ey, hmem, q3⟩ => Calls.spliced_nil ?_))))
 subst ey
 obtain ⟨t, rfl⟩ := ry
 have hm3 := PySem.W.mapOf_K (prog := X.prog) I3.kIn hl hk
 refine call_meetsIn PySem.F.slot_dict_get hm3.typeIs PySem.F.entry_dict_get (PySem.F.args_dict_get_3 _ _ _) (meets_dict_get_default (strKind X.prog X.w) a (strKind_is X.prog X.w x' t) D.lo fv) ⟨_, hm3, ?_⟩
 refine ⟨r.getD z, H3, I3.tok _, ?_, q3⟩
 have := ht x' r hmem
 cases r with
 | none =>
  rw [this.none_of]
  exact rz
 | some v =>
  obtain ⟨u, eu, ru⟩ := this.some_of
  rw [eu]
  exact ru
theorem sqT_top {K : PySem.W.Frag} {H : Hp} {a : Addr} {xs : List V} {us : List Value} {n : Nat} (h : K.lookup a = some ⟨.type "tuple", none, .seq us.toArray n, #[]⟩) (r : Vals xs us) (hz : xs.length ≤ sizeLine) : SqT K H a xs :=
 .inr ⟨_, us.toArray, n, h, rfl, rfl, by rw [List.size_toArray, ← r.length]; exact hz, by simpa using r⟩
end
mutual
def Dt.noL : Dt → Bool
 | .lst _ => false
 | .tup xs => Dt.noLs xs
 | _ => true
def Dt.noLs : List Dt → Bool
 | [] => true
 | x :: xs => x.noL && Dt.noLs xs
end
def KTs (K : PySem.W.Frag) (H H' : Hp) : Prop := ∀ a xs, SqT K H a xs → SqT K H' a xs
theorem KTs.trans {K : PySem.W.Frag} {H H1 H2 : Hp} (a : KTs K H H1) (b : KTs K H1 H2) : KTs K H H2 := fun c o h => b c o (a c o h)
theorem Same.kts {K : PySem.W.Frag} {H H' : Hp} (s : Same H H') : KTs K H H' := fun _ _ h => s.seqT h
theorem KB.kts {K : PySem.W.Frag} {d : Addr} {xs : List V} {H H' : Hp} (h : H d = some (.lst xs)) (k : KB d H H') : KTs K H H' := fun a ys e => by
 rcases e with (e | ⟨o, e⟩) | e
 ·exact .inl (.inl (k _ _ e (ne_of e h (fun z => nomatch z))))
 ·exact .inl (.inr ⟨o, k _ _ e (ne_of e h (fun z => nomatch z))⟩)
 ·exact .inr e
theorem dat_stay {K : PySem.W.Frag} {H H' : Hp} (k : KTs K H H') (d : Dt) : ∀ x : V, d.noL = true → DatAt K H x d → DatAt K H' x d := by
 induction d using Dt.rec (motive_2 := fun ds => ∀ xs : List V, Dt.noLs ds = true → DatsAt K H xs ds → DatsAt K H' xs ds) with
 | non => intro x _ h; simpa [DatAt] using h
 | bl b => intro x _ h; simpa [DatAt] using h
 | int b => intro x _ h; simpa [DatAt] using h
 | str b => intro x _ h; simpa [DatAt] using h
 | tup ds ih =>
  intro x hn h
  rw [DatAt] at h ⊢
  rw [Dt.noL] at hn
  obtain ⟨a, xs, e, q, hd⟩ := h
  exact ⟨a, xs, e, k _ _ q, ih xs hn hd⟩
 | lst ds ih => intro x hn; simp [Dt.noL] at hn
 | nil =>
  rename_i xs hn h
  cases xs with
  | nil => simp [DatsAt]
  | cons _ _ => simp [DatsAt] at h
 | cons d ds h1 h2 =>
  rename_i xs hn h
  rw [Dt.noLs, Bool.and_eq_true] at hn
  cases xs with
  | nil => simp [DatsAt] at h
  | cons x xs =>
   rw [DatsAt] at h ⊢
   exact ⟨h1 x hn.1 h.1, h2 xs hn.2 h.2⟩
theorem dats_stay {K : PySem.W.Frag} {H H' : Hp} (k : KTs K H H') : ∀ (ds : List Dt) (xs : List V), Dt.noLs ds = true → DatsAt K H xs ds → DatsAt K H' xs ds
 | [], xs, _, h => by
  cases xs with
  | nil => simp [DatsAt]
  | cons _ _ => simp [DatsAt] at h
 | d :: ds, xs, hn, h => by
  rw [Dt.noLs, Bool.and_eq_true] at hn
  cases xs with
  | nil => simp [DatsAt] at h
  | cons x xs =>
   rw [DatsAt] at h ⊢
   exact ⟨dat_stay k d x hn.1 h.1, dats_stay k ds xs hn.2 h.2⟩
theorem dat_int {K : PySem.W.Frag} {H : Hp} {i : Int} : DatAt K H (.int i) (.int i) := by rw [DatAt]
theorem dat_str {K : PySem.W.Frag} {H : Hp} {z : Str} : DatAt K H (.str z) (.str z) := by rw [DatAt]
theorem dat_tup {K : PySem.W.Frag} {H : Hp} {a : Addr} {xs : List V} {ds : List Dt} (h : SqT K H a xs) (d : DatsAt K H xs ds) : DatAt K H (.ref a) (.tup ds) := by rw [DatAt]; exact ⟨a, xs, rfl, h, d⟩
theorem dat_lst {K : PySem.W.Frag} {H : Hp} {a : Addr} {xs : List V} {ds : List Dt} (h : SqL K H a xs) (d : DatsAt K H xs ds) : DatAt K H (.ref a) (.lst ds) := by rw [DatAt]; exact ⟨a, xs, rfl, h, d⟩
theorem dats_nil {K : PySem.W.Frag} {H : Hp} : DatsAt K H [] [] := by simp [DatsAt]
theorem dats_cons {K : PySem.W.Frag} {H : Hp} {x : V} {xs : List V} {d : Dt} {ds : List Dt} (h : DatAt K H x d) (t : DatsAt K H xs ds) : DatsAt K H (x :: xs) (d :: ds) := by rw [DatsAt]; exact ⟨h, t⟩
theorem dats_app {K : PySem.W.Frag} {H : Hp} : ∀ {xs ys : List V} {ds es : List Dt}, DatsAt K H xs ds → DatsAt K H ys es → DatsAt K H (xs ++ ys) (ds ++ es)
 | [], _, [], _, _, h => h
 | [], _, _ :: _, _, h, _ => by simp [DatsAt] at h
 | _ :: _, _, [], _, h, _ => by simp [DatsAt] at h
 | x :: xs, _, d :: ds, _, h, g => by
  rw [DatsAt] at h
  exact dats_cons h.1 (dats_app h.2 g)
theorem dats_strs {K : PySem.W.Frag} {H : Hp} : ∀ (ys : List Str), DatsAt K H (ys.map V.str) (ys.map Dt.str)
 | [] => dats_nil
 | y :: ys => dats_cons dat_str (dats_strs ys)
theorem noLs_app : ∀ (ds es : List Dt), Dt.noLs (ds ++ es) = (Dt.noLs ds && Dt.noLs es)
 | [], es => by simp [Dt.noLs]
 | d :: ds, es => by rw [List.cons_append, Dt.noLs, Dt.noLs, noLs_app ds es, Bool.and_assoc]
theorem strItem {ns : List Str} {i : Nat} {x : V} (h : (ns.map V.str)[i]? = some x) : ∃ f, x = .str f ∧ ns[i]? = some f := by
 rw [List.getElem?_map] at h
 cases e : ns[i]? with
 | none => rw [e] at h; cases h
 | some f => rw [e] at h; exact ⟨f, (Option.some.inj h).symm, rfl⟩
end L2
namespace L2
theorem seq_const {v : V} {i : Nat} {u : TS} {D : Ends} {σ : St} {H : Hp} (h : u D (σ.set i (some v)) H) : tSeq (tAsg (tC v) (gName i)) u D σ H := h
end L2
namespace L2
open PySem
def KB2 (d e : Addr) (H H' : Hp) : Prop := ∀ b o, H b = some o → b ≠ d → b ≠ e → H' b = some o
theorem KB2.trans {d e : Addr} {H H1 H2 : Hp} (a : KB2 d e H H1) (b : KB2 d e H1 H2) : KB2 d e H H2 := fun c o h n m => b c o (a c o h n m) n m
theorem KB.l {d e : Addr} {H H' : Hp} (k : KB d H H') : KB2 d e H H' := fun b o h n _ => k b o h n
theorem KB.r {d e : Addr} {H H' : Hp} (k : KB e H H') : KB2 d e H H' := fun b o h _ n => k b o h n
theorem Same.kb2 {d e : Addr} {H H' : Hp} (s : Same H H') : KB2 d e H H' := fun b o h _ _ => s b o h
theorem KB2.kts {K : PySem.W.Frag} {d e : Addr} {xs ys : List V} {H H' : Hp} (hd : H d = some (.lst xs)) (he : H e = some (.lst ys)) (k : KB2 d e H H') : KTs K H H' := fun a zs z => by
 rcases z with (z | ⟨o, z⟩) | z
 ·exact .inl (.inl (k _ _ z (ne_of z hd (fun z => nomatch z)) (ne_of z he (fun z => nomatch z))))
 ·exact .inl (.inr ⟨o, k _ _ z (ne_of z hd (fun z => nomatch z)) (ne_of z he (fun z => nomatch z))⟩)
 ·exact .inr z
theorem KB2.seq {K : PySem.W.Frag} {d e : Addr} {H H' : Hp} {a : Addr} {xs : List V} (k : KB2 d e H H') (n : a ≠ d) (m : a ≠ e) (h : SqL K H a xs) : SqL K H' a xs := by
 rcases h with (h | ⟨o, h⟩) | h
 ·exact .inl (.inl (k _ _ h n m))
 ·exact .inl (.inr ⟨o, k _ _ h n m⟩)
 ·exact .inr h
theorem FnOk.none {P : Program} {w : World} {K : PySem.W.Frag} {mg : Str → Option Value} {base : Heap} {CX : CXT} {k : Nat} {f : Addr} {fd : FuncData} {ps : List Str} {sp : Sp} (h : ∀ vs H Q E, ¬ sp vs H Q E) : FnOk P w K mg base CX k f fd ps sp :=
 ⟨fun vs H Q E q => (h _ _ _ _ q).elim, fun A outer s H args us vs Q E _ _ _ _ hs => (h _ _ _ _ hs).elim⟩
end L2
namespace L2
open PySem PySem.Spec PyProof.Rows
theorem nolen_lr : typeLookup (.type "list_reverseiterator") "__len__" = pure none := by rw [typeLookup_type, builtinLookup_eq_fast]; kernel_rfl
theorem hint_lr : typeLookup (.type "list_reverseiterator") "__length_hint__" = pure (some (.builtin "list_reverseiterator.__length_hint__")) := by rw [typeLookup_type, builtinLookup_eq_fast]; kernel_rfl
section
variable {prog : Program} {w : World} {A : Around} {s : Shared} {R : Result → Shared → Prop}
theorem extend_rev {I l S : Addr} {its : Array Value} {res : Value} {c0 : Nat} (hh : A.handled = none) (hlI : l ≠ I) (hSI : S ≠ I) (hSl : S ≠ l) (hit : s.heap.IsRevIter I l ((its.size : Int) - 1)) (hl : s.heap.IsList l its) (hz : its.size ≤ sizeLine)
  (hS : s.heap.get? S = some { cls := .type "list", data := .seq #[] c0 })
  (hR : ∀ h' tk acc c, (∀ b o, b ≠ S → b ≠ I → s.heap.get? b = some o → h'.get? b = some o) → h'.get? S = some { cls := .type "list", dict := none, data := .seq acc c, slots := #[] } → ItemsOf (fun i v => its[its.size - 1 - i]? = some v) acc its.size →
   R (.ok (.ret res)) { s with heap := h', toks := tk }) :
  wpAny (model prog w) A.in1 (Builtin.List.listExtendWith (.ref S) (.ref I) res) (fun fin s' => match fin with | .done f => R (.ok f) s' | .again c' => c'.quiet = true ∧ codeAny (model prog w) A c' R s') (fun e s' => R (.error e) s') s := by
 have hSf : S ∉ [I, l] := fun hm => by
  rcases List.mem_cons.mp hm with z | z
  ·exact hSI z
  ·exact hSl (List.mem_singleton.mp z)
 have W := (Walks.listRev (prog := prog) (w := w) (A := A.in1) hh I l hlI its).toS
 unfold Builtin.List.listExtendWith
 (refine wpAny_bind (wpAny_typeOf hit.typeIs ?_))
 have g1 : Builtin.List.listSameRef (.ref S) (.ref I) = false := by simp [Builtin.List.listSameRef, hSI]
 rw [if_neg (by rw [g1]; decide)]; refine wpAny_bind (wpAny_pyIter_revIter hit ?_)
 (refine wpAny_bind (wpAny_holding ?_)); unfold Builtin.List.listLengthHint
 refine wpAny_bind (wpAny_specialOf hit.typeIs nolen_lr ?_)
 show wpAny _ A.in1 (specialOf (Value.ref I) (Str.ofString "__length_hint__") >>= _) _ _ s
 refine wpAny_bind (wpAny_specialOf hit.typeIs hint_lr ?_)
 generalize hid : ("list_reverseiterator.__length_hint__" : String) = id0
 wp_delta
 rw [show splitId id0 = some ("list_reverseiterator", "__length_hint__") from by subst hid; decide +kernel]; subst hid
 refine wpAny_bind (wpAny_isInstance (T := "list_reverseiterator") (b := true) hit.typeIs (by rw [isSubtype_type]; kernel_rfl) ?_)
 (refine wpAny_pure ?_); rw [if_neg (by decide)]
 refine wpAny_pure ⟨plainId_quiet F.plain_extend_loop _, codeAny_extend_loopS W hz S hSf res its.size 0 s _ c0 rfl (Nat.zero_le _) ⟨Nat.zero_le _, by simpa using hit, hl⟩ hS (ItemsOf.nil _) fun s' acc c hm hS' ha => ?_⟩
 rw [Moved.eq_with hm]
 refine hR s'.heap s'.toks acc c (fun b o hb hb' e => hm.heap b o (fun z => ?_) e) hS' ha
 rcases List.mem_cons.mp z with z | z
 ·exact hb z
 ·exact hb' (List.mem_singleton.mp z)
end
section
variable {prog : Program} {w : World} {A : Around} {E : Value → Shared → Prop} {s : Shared}
theorem call_list_rev {Q : Value → Shared → Prop} {I l : Addr} {its : Array Value} (hh : A.handled = none) (hlI : l ≠ I) (hit : s.heap.IsRevIter I l ((its.size : Int) - 1)) (hl : s.heap.IsList l its) (hz : its.size ≤ sizeLine)
  (hQ : ∀ h' tk acc c, (∀ b o, b ≠ I → s.heap.get? b = some o → h'.get? b = some o) → h'.get? s.heap.objs.size = some { cls := .type "list", dict := none, data := .seq acc c, slots := #[] } → ItemsOf (fun i v => its[its.size - 1 - i]? = some v) acc its.size →
   Q (.ref s.heap.objs.size) { s with heap := h', toks := tk }) : wpAny (model prog w) A (call (.type "list") [.ref I]) Q E s := by
 have bI : I < s.heap.objs.size := by obtain ⟨o, e, _⟩ := hit; exact Heap.lt_size e
 have bl : l < s.heap.objs.size := by obtain ⟨o, e, _⟩ := hl; exact Heap.lt_size e
 refine callType_codes (Q₁ := fun obj s1 => obj = .ref s.heap.objs.size ∧ s1 = { s with heap := s.heap.push { cls := .type "list", data := .seq #[] } }) F.called_list (F.typeCall_list_1 _) F.entry_list_init (code_list_new _ ⟨rfl, rfl⟩) fun obj s1 e1 => ?_
 obtain ⟨rfl, rfl⟩ := e1
 have hS : (s.heap.push { cls := .type "list", data := .seq #[] }).get? s.heap.objs.size = some { cls := .type "list", data := .seq #[] } := Heap.get?_push_size _ rfl
 have old : ∀ b o, s.heap.get? b = some o → b ≠ s.heap.objs.size := fun b o e => Nat.ne_of_lt (Heap.lt_size e)
 refine ⟨⟨_, hS, rfl⟩, F.args_list_init_2 _ _, ?_⟩
 show wpAny _ _ (do let old ← Builtin.List.listItems (.ref s.heap.objs.size); Builtin.List.listUpdate (.ref s.heap.objs.size) (fun _ => #[]); letGo old.toList.reverse; Builtin.List.listExtendWith (.ref s.heap.objs.size) (.ref I) .none) _ _ _
 (refine wpAny_bind ?_); unfold Builtin.List.listItems; refine wpAny_bind (wpAny_seqItems hS rfl (wpAny_pure ?_))
 show wpAny _ _ (updateSeq s.heap.objs.size (fun _ => #[]) >>= fun _ => letGo (#[] : Array Value).toList.reverse >>= fun _ => Builtin.List.listExtendWith (.ref s.heap.objs.size) (.ref I) .none) _ _ _
 refine wpAny_bind (wpAny_updateSeq hS rfl ?_)
 have hS2 := Heap.get?_update_self (Obj.mapSeq (fun _ => (#[] : Array Value))) hS rfl
 have oth : ∀ b o, s.heap.get? b = some o → ((s.heap.push { cls := .type "list", data := .seq #[] }).update s.heap.objs.size (Obj.mapSeq (fun _ => (#[] : Array Value)))).get? b = some o :=
  fun b o e => (Heap.get?_update_other _ _ (Ne.symm (old b o e))).trans (Heap.get?_push_of_some _ e)
 (refine wpAny_bind (wpAny_letGo ?_)); refine extend_rev (A := A.in1) hh hlI (Nat.ne_of_gt bI) (Nat.ne_of_gt bl) (hit.at fun o e => oth _ o e) (hl.at fun o e => oth _ o e) hz hS2 fun h' tk acc c k e a => ?_
 exact ⟨rfl, hQ h' tk acc c (fun b o hb e => k b o (old b o e) hb (oth b o e)) e a⟩
end
theorem paired_reverse {α β : Type} {r : α → β → Prop} {xs : List α} {ys : List β} (h : Paired r xs ys) : Paired r xs.reverse ys.reverse := by
 induction h with
 | nil => exact .nil
 | cons a _ ih => rw [List.reverse_cons, List.reverse_cons]; exact paired_append ih (.cons a .nil)
theorem items_rev {its : List Value} {acc : Array Value} (h : ItemsOf (fun i v => its.toArray[its.toArray.size - 1 - i]? = some v) acc its.toArray.size) : acc.toList = its.reverse := by
 obtain ⟨hs, hv⟩ := h
 simp only [List.size_toArray, List.getElem?_toArray] at hs hv
 apply List.ext_getElem?
 intro j
 by_cases hj : j < its.length
 ·have e1 : acc[j]? = some acc[j] := Array.getElem?_eq_getElem (by omega)
  have e2 := hv j _ e1
  rw [List.getElem?_reverse hj, e2, Array.getElem?_toList, e1]
 ·rw [List.getElem?_eq_none (by rw [Array.length_toList]; omega), List.getElem?_eq_none (by rw [List.length_reverse]; omega)]
section
variable {X : Cx}
def tLR (K : PySem.W.Frag) (ta : TA) : TE := fun σ H Q => ta σ H fun vs H1 => ∃ (a : Addr) (xs : List V), vs = [.ref a] ∧ SqL K H1 a xs ∧ ∀ l, H1 l = none → Q (.ref l) (upd H1 l (.lst xs.reverse))
theorem pe_listrev (K : PySem.W.Frag) {a : Expr} {ta : TA} {p p' pos pos' : Pos} (hc : X.calm = true) (hg : Gl X "list") (hm : X.mg "list" = none) (hg' : Gl X "reversed") (hm' : X.mg "reversed" = none) (ha : PA X [a] ta) (hK : X.K = K := by rfl)
  (hs : starEach [a] X.env = [(false, eval a X.env)] := by rfl) : PE X (.Call (.Name "list" p) [.Call (.Name "reversed" p') [a] [] pos'] [] pos) (tLR K ta) := by
 subst hK
 intro pins s σ H Q I h
 refine wpAny_Call_Name_kw (ld_blt I hg hm bt_list ?_)
 refine PyProof.Rows.callWith_type1 ?_ rfl rfl
 rw [show starEach [.Call (.Name "reversed" p') [a] [] pos'] X.env = [(false, eval (.Call (.Name "reversed" p') [a] [] pos') X.env)] from rfl]
 show wpAny _ _ (spliced [(false, eval (.Call (.Name "reversed" p') [a] [] pos') X.env)]) _ _ s
 refine Calls.spliced_cons ?_
 refine Call_ (ld_blt I hg' hm' bt_reversed (PyProof.Rows.callWith_type1 (thn (ha pos' pins s σ H _ I h) fun us s1 ⟨vs, H1, I1, r1, q1⟩ => ?_) hs rfl))
 obtain ⟨l, xs, e, hq, q⟩ := q1
 subst e
 cases r1 with
 | cons r rr =>
  cases rr
  cases r
  obtain ⟨its, rv, pl, hz⟩ := I1.list hq
  have hl := rv.length
  refine call_reversed_list pl.isList (Calls.spliced_nil ?_)
  have bl : l < s1.heap.objs.size := by obtain ⟨o, e, _⟩ := pl.isList; exact Heap.lt_size e
  refine call_list_rev (I1.ok.hd hc) (I := s1.heap.objs.size) (its := its.toArray) (Nat.ne_of_lt bl) ⟨_, Heap.get?_push_size _ rfl, rfl, rfl⟩ (pl.isList.push _) (by simp only [List.size_toArray]; omega) fun h' tk acc c k e it => ?_
  have ei := items_rev it
  have kp : ∀ b u, s1.heap.get? b = some u → h'.get? b = some u := fun b u e => k b u (Nat.ne_of_lt (Heap.lt_size e)) (Heap.get?_push_of_some _ e)
  rw [Heap.size_push] at e
  have hp : s1.heap.objs.size ≤ s1.heap.objs.size + 1 := Nat.le_succ _
  refine ⟨.ref (s1.heap.objs.size + 1), _, I1.laid (t' := tk) kp hp (show ObjOk X.prog X.w _ h' _ (.lst xs.reverse) from ⟨by rw [List.length_reverse]; exact hz, acc.toList, c, by rw [ei]; exact paired_reverse rv, e⟩), ?_, q _ (I1.hok.fresh hp)⟩
  show RelV (.ref _) _
  rw [show (s1.heap.push (revObj l ((its.toArray.size : Int) - 1))).objs.size = s1.heap.objs.size + 1 from Heap.size_push ..]
  rfl
theorem strsAre_by : ∀ {vs : List Value} {ss : List Str}, vs.length = ss.length → (∀ (i : Nat) (v : Value) (x : Str), vs[i]? = some v → ss[i]? = some x → ∃ t, v = .str x t) → StrsAre vs ss
 | [], [], _, _ => .nil
 | [], _ :: _, h, _ => by cases h
 | _ :: _, [], h, _ => by cases h
 | v :: vs, x :: ss, h, k => by
  obtain ⟨t, rfl⟩ := k 0 v x rfl rfl
  exact .cons x t (strsAre_by (Nat.succ.inj h) fun i v y e1 e2 => k (i + 1) v y e1 e2)
end
theorem lay_led (t : SetTable) (es : Array (Int × Value)) (h : Int) (x : Value) : (layNew t es h x).2.1.led = t.led := by
 unfold layNew
 split
 ·unfold SetTable.put SetTable.orStandIn SetTable.standIn
  dsimp only
  repeat' split
  all_goals rfl
 ·rfl
theorem relay_led (t : SetTable) (es : Array (Int × Value)) (n : Nat) : (relayAll t es n).2.1.led = t.led := by
 unfold relayAll
 split
 ·rename_i q r e
  unfold SetTable.relaid SetTable.laid at e
  dsimp only
  split
  ·simp only [Option.bind_eq_bind, Option.bind_eq_some_iff, Option.pure_def, Option.some.injEq, Prod.mk.injEq] at e
   obtain ⟨_, _, e1, _⟩ := e
   rw [← e1]
  ·rfl
 ·rfl
theorem relay_plain {t : SetTable} (es : Array (Int × Value)) (n : Nat) (hp : t.plain = false) : (relayAll t es n).2.1.plain = false := by
 unfold relayAll
 split
 ·rename_i q r e
  unfold SetTable.relaid SetTable.laid at e
  dsimp only
  split
  ·simp only [Option.bind_eq_bind, Option.bind_eq_some_iff, Option.pure_def, Option.some.injEq, Prod.mk.injEq] at e
   obtain ⟨_, _, e1, _⟩ := e
   rw [← e1]
   exact hp
  ·rfl
 ·rfl
structure SetS (P : Program) (w : World) (h : Heap) (a : Addr) (es : Array (Int × Value)) (ep : Nat) (t : SetTable) (ks : List Str) : Prop where
 obj : ∃ o, h.get? a = some o ∧ o.ExactSet ∧ o.data = .set es ep t
 elems : ElemsOf (strKind P w) es.toList
 small : es.size < scanBound
 fits : t.fits es.size = true
 led : t.led = !w.params.followText "set-order"
 plain : es.size ≠ 0 → t.plain = false
 vals : StrsAre (es.toList.map (·.2)) ks
 once : ks.Nodup
theorem SetS.at {P : Program} {w : World} {h h' : Heap} {a : Addr} {es : Array (Int × Value)} {ep : Nat} {t : SetTable} {ks : List Str} (s : SetS P w h a es ep t ks) (k : ∀ o, h.get? a = some o → h'.get? a = some o) : SetS P w h' a es ep t ks := by
 obtain ⟨o, e, r⟩ := s.obj
 exact ⟨⟨o, k o e, r⟩, s.elems, s.small, s.fits, s.led, s.plain, s.vals, s.once⟩
theorem SetS.len {P : Program} {w : World} {h : Heap} {a : Addr} {es : Array (Int × Value)} {ep : Nat} {t : SetTable} {ks : List Str} (s : SetS P w h a es ep t ks) : es.size = ks.length := by
 have := s.vals.length
 rw [List.length_map, Array.length_toList] at this
 exact this
theorem strs_perm {vs us : List Value} (p : vs.Perm us) : ∀ {ks : List Str}, StrsAre us ks → ∃ ks', StrsAre vs ks' ∧ ks'.Perm ks := by
 induction p with
 | nil => intro ks h; cases h; exact ⟨[], .nil, .refl _⟩
 | cons x _ ih =>
  intro ks h
  cases h with
  | cons y tk r =>
   obtain ⟨k', a, b⟩ := ih r
   exact ⟨y :: k', .cons y tk a, b.cons y⟩
 | swap x y l =>
  intro ks h
  cases h with
  | cons a ta r =>
   cases r with
   | cons b tb r => exact ⟨b :: a :: _, .cons b tb (.cons a ta r), .swap a b _⟩
 | trans _ _ ih1 ih2 =>
  intro ks h
  obtain ⟨k1, a1, b1⟩ := ih2 h
  obtain ⟨k2, a2, b2⟩ := ih1 a1
  exact ⟨k2, a2, b2.trans b1⟩
theorem strs_app {us vs : List Value} {ks ls : List Str} (h1 : StrsAre us ks) (h2 : StrsAre vs ls) : StrsAre (us ++ vs) (ks ++ ls) := by
 induction h1 with
 | nil => exact h2
 | cons x tk _ ih => exact .cons x tk ih
theorem strs_mem {us : List Value} {ks : List Str} (h : StrsAre us ks) {x : Str} : x ∈ ks ↔ ∃ tk, Value.str x tk ∈ us := by
 induction h with
 | nil => simp
 | cons y tk _ ih =>
  constructor
  ·intro m
   rcases List.mem_cons.mp m with e | m
   ·exact ⟨tk, by rw [e]; exact List.mem_cons_self⟩
   ·obtain ⟨t', m'⟩ := ih.mp m
    exact ⟨t', List.mem_cons_of_mem _ m'⟩
  ·rintro ⟨t', m⟩
   rcases List.mem_cons.mp m with e | m
   ·injection e with e1 _
    rw [e1]; exact List.mem_cons_self
   ·exact List.mem_cons_of_mem _ (ih.mpr ⟨t', m⟩)
section
variable {P : Program} {w : World} {A : Around} {E : Value → Shared → Prop} {s : Shared}
theorem add_text {a : Addr} {es : Array (Int × Value)} {ep : Nat} {t : SetTable} {ks : List Str} {x : Str} {tk : Tok} {Q : Bool → Shared → Prop} (S : SetS P w s.heap a es ep t ks) (room : ks.length + 1 < scanBound)
  (hold : x ∈ ks → Q false s)
  (hnew : x ∉ ks → ∀ h' es' ep' t' ks', Heap.SameBut a s.heap h' → SetS P w h' a es' ep' t' ks' → (∀ y, y ∈ ks' ↔ y ∈ ks ∨ y = x) → ks'.length = ks.length + 1 → Q true { s with heap := h' }) :
  wpAny (model P w) A (setAddHashed a (.str x tk) (hashStr w x)) Q E s := by
 obtain ⟨o, ho, hex, hd⟩ := S.obj
 have hln := S.len
 have isx : (strKind P w).is x (.str x tk) = true := strKind_is P w x tk
 have scx : (Value.str x tk).scannable = true := rfl
 have hhash : hashStr w x = (strKind P w).hash x := rfl
 rw [hhash]
 unfold setAddHashed setAddHashedIn
 refine wpAny_holding (wpAny_bind (wpAny_setState_of ho hd S.fits ?_))
 dsimp only
 rw [byScan_of scx S.small S.elems, if_pos rfl]
 unfold setAddByScan
 refine wpAny_bind (wpAny_bind (wpAny_rule (wpAny_bind (wpAny_setScan_of isx ho hd S.fits S.elems ?_))))
 have memk : x ∈ ks ↔ ∃ e ∈ es.toList, (strKind P w).is x e.2 = true := by
  rw [strs_mem S.vals]
  constructor
  ·rintro ⟨t', m⟩
   obtain ⟨e, he, e2⟩ := List.mem_map.mp m
   exact ⟨e, he, by rw [e2]; exact strKind_is P w x t'⟩
  ·rintro ⟨e, he, hi⟩
   obtain ⟨t', e2⟩ := Value.isStrOf_shape (x := x) (v := e.2) hi
   exact ⟨t', by rw [← e2]; exact List.mem_map.mpr ⟨e, he, rfl⟩⟩
 cases hr : List.findIdx? (fun e => (strKind P w).is x e.2) es.toList with
 | some j =>
  dsimp only
  obtain ⟨hj, hpj, _⟩ := List.findIdx?_eq_some_iff_getElem.mp hr
  exact wpAny_pure (wpAny_pure (hold (memk.mpr ⟨_, List.getElem_mem hj, hpj⟩)))
 | none =>
  dsimp only
  have nk : x ∉ ks := fun m => by
   obtain ⟨e, he, hp⟩ := memk.mp m
   have := List.findIdx?_eq_none_iff.mp hr e he
   rw [hp] at this
   cases this
  have hperm := layNew_perm t es ((strKind P w).hash x) (.str x tk)
  have hfits := layNew_fits t es ((strKind P w).hash x) (.str x tk)
  have hled := lay_led t es ((strKind P w).hash x) (.str x tk)
  generalize layNew t es ((strKind P w).hash x) (.str x tk) = L at hperm hfits hled ⊢
  obtain ⟨es1, t1, wasDummy, gave⟩ := L
  dsimp only at hperm hfits hled ⊢
  rw [Array.toList_push] at hperm
  have el1 : ElemsOf (strKind P w) es1.toList := (S.elems.push isx scx).perm hperm
  have sz1 : es1.size = es.size + 1 := by rw [← Array.length_toList, hperm.length_eq, List.length_append, Array.length_toList]; rfl
  have sm1 : es1.size < scanBound := by omega
  obtain ⟨ks1, v1, p1⟩ := strs_perm (hperm.map (·.2)) (ks := ks ++ [x]) (by rw [List.map_append]; exact strs_app S.vals (.cons x tk .nil))
  have on1 : ks1.Nodup := p1.nodup_iff.mpr (List.nodup_append.mpr ⟨S.once, by simp, fun y hy z hz => by rw [List.mem_singleton.mp hz]; exact fun e => nk (e ▸ hy)⟩)
  have mem1 : ∀ y, y ∈ ks1 ↔ y ∈ ks ∨ y = x := fun y => by rw [p1.mem_iff, List.mem_append, List.mem_singleton]
  have ln1 : ks1.length = ks.length + 1 := by rw [p1.length_eq, List.length_append]; rfl
  have fin : ∀ t2 : SetTable, t2.fits es1.size = true → t2.led = t.led → t2.plain = false →
    wpAny (model P w) A (do
     storeSet a es1 t2
     if (!wasDummy && t2.tooFull) = true then do
       (match (relayAll t2 es1 (SetTable.grown es1.size)).2.2 with | true => rule "set.scan.the-table-gave-way" | false => pure ())
       storeSet a (relayAll t2 es1 (SetTable.grown es1.size)).1 (relayAll t2 es1 (SetTable.grown es1.size)).2.1
       pure (some true)
      else pure (some true)) (fun r s' => r = some true ∧ Q true s') E s := fun t2 f2 l2 p2 => by
   refine wpAny_bind (wpAny_storeSet_of ho hd ?_ (fits_of_scanBound sm1))
   have hg : (s.heap.update a (Obj.putSet es1 t2)).get? a = some { o with data := .set es1 (ep + 1) t2 } := by
    have q := Heap.get?_update_self (Obj.putSet es1 t2) ho (by rw [putSet_of es1 t2 hd]; rfl)
    rw [putSet_of es1 t2 hd] at q
    exact q
   have sb1 := Heap.SameBut.update s.heap a (Obj.putSet es1 t2)
   have S1 : SetS P w (s.heap.update a (Obj.putSet es1 t2)) a es1 (ep + 1) t2 ks1 := ⟨⟨_, hg, hex, rfl⟩, el1, sm1, f2, by rw [l2]; exact S.led, fun _ => p2, v1, on1⟩
   split
   ·have pr := relayAll_perm t2 es1 (SetTable.grown es1.size)
    have fr := relayAll_fits t2 es1 (SetTable.grown es1.size)
    have lr := relay_led t2 es1 (SetTable.grown es1.size)
    have plr := relay_plain es1 (SetTable.grown es1.size) p2
    generalize relayAll t2 es1 (SetTable.grown es1.size) = Rl at pr fr lr plr ⊢
    obtain ⟨es2, t3, gv⟩ := Rl
    dsimp only at pr fr lr plr ⊢
    have sz2 : es2.size = es1.size := by rw [← Array.length_toList, pr.length_eq, Array.length_toList]
    have sm2 : es2.size < scanBound := by omega
    obtain ⟨ks2, v2, p2'⟩ := strs_perm (pr.map (·.2)) v1
    refine wpAny_bind ?_
    have rest : wpAny (model P w) A (do storeSet a es2 t3; pure (some true)) (fun r s' => r = some true ∧ Q true s') E { s with heap := s.heap.update a (Obj.putSet es1 t2) } := by
     refine wpAny_bind (wpAny_storeSet_of hg rfl (wpAny_pure ⟨rfl, ?_⟩) (fits_of_scanBound sm2))
     have hg2 := Heap.get?_update_self (Obj.putSet es2 t3) hg (by rw [putSet_of es2 t3 rfl]; rfl)
     rw [putSet_of es2 t3 rfl] at hg2
     exact hnew nk _ es2 (ep + 1 + 1) t3 ks2 (sb1.trans (Heap.SameBut.update _ a _)) ⟨⟨_, hg2, hex, rfl⟩, el1.perm pr, sm2, by rw [sz2] at fr ⊢; exact fr, by rw [lr, l2]; exact S.led, fun _ => plr, v2, p2'.nodup_iff.mpr on1⟩
      (fun y => by rw [p2'.mem_iff]; exact mem1 y) (by rw [p2'.length_eq]; exact ln1)
    cases gv
    ·exact wpAny_pure rest
    ·exact wpAny_rule rest
   ·exact wpAny_pure ⟨rfl, hnew nk _ es1 (ep + 1) t2 ks1 sb1 S1 mem1 ln1⟩
  refine wpAny_bind ?_
  have rest : wpAny (model P w) A (do
    let byValue ← if t1.plain = true then hashByValue 8 (.str x tk) else pure true
    storeSet a es1 (if byValue = true then t1 else { t1 with plain := false })
    if (!wasDummy && (if byValue = true then t1 else { t1 with plain := false }).tooFull) = true then do
      (match (relayAll (if byValue = true then t1 else { t1 with plain := false }) es1 (SetTable.grown es1.size)).2.2 with | true => rule "set.scan.the-table-gave-way" | false => pure ())
      storeSet a (relayAll (if byValue = true then t1 else { t1 with plain := false }) es1 (SetTable.grown es1.size)).1 (relayAll (if byValue = true then t1 else { t1 with plain := false }) es1 (SetTable.grown es1.size)).2.1
      pure (some true)
     else pure (some true)) (fun r s' => r = some true ∧ Q true s') E s := by
   cases hpl : t1.plain with
   | true =>
    rw [if_pos rfl, hashByValue_scannable 8 scx]
    refine wpAny_bind (wpAny_pure ?_)
    exact fin { t1 with plain := false } (SetTable.fits_plain_off hfits) hled rfl
   | false =>
    rw [if_neg (by decide)]
    refine wpAny_bind (wpAny_pure ?_)
    exact fin t1 hfits hled hpl
  have go : ∀ r s', (r = some true ∧ Q true s') → wpAny (model P w) A (match r with | some added => pure added | none => setAddHashedIn a (.str x tk) ((strKind P w).hash x) 99999) Q E s' := fun r s' ⟨e, q⟩ => by
   subst e
   exact wpAny_pure q
  cases gave
  ·exact wpAny_pure (thn rest go)
  ·exact wpAny_rule (thn rest go)
end
theorem strs_at {us : List Value} {xs : List Str} (hi : StrsAre us xs) : ∀ (i : Nat) (v : Value), us[i]? = some v → ∃ x t, xs[i]? = some x ∧ v = .str x t := by
 induction hi with
 | nil => intro i v hv; simp at hv
 | cons y ty _ ih =>
  intro i v hv
  cases i with
  | zero =>
   have e : Value.str y ty = v := by simpa using hv
   exact ⟨y, ty, rfl, e.symm⟩
  | succ i => exact ih i v (by simpa using hv)
section
variable {P : Program} {w : World} {A : Around} {R : Result → Shared → Prop} {I S : Addr} {fp wr : List Addr} {G : Array GenState → Array GenState → Prop} {n : Nat} {Pv : Nat → Value → Prop} {St : Nat → Shared → Prop}
theorem set_loop (W : WalksS P w A.in1 I fp wr G n Pv St) (hSf : S ∉ fp) (xs : List Str) (hxl : xs.length = n) (hval : ∀ i v, Pv i v → ∃ x t, xs[i]? = some x ∧ v = .str x t) (hb : n + 1 < scanBound) :
  ∀ (k i : Nat) (s : Shared) (es : Array (Int × Value)) (ep : Nat) (t : SetTable) (ks : List Str), n - i = k → i ≤ n → St i s → SetS P w s.heap S es ep t ks → (∀ y, y ∈ ks ↔ y ∈ xs.take i) → ks.length ≤ i →
   (∀ s' es' ep' t' ks', Moved (S :: wr) G s s' → SetS P w s'.heap S es' ep' t' ks' → (∀ y, y ∈ ks' ↔ y ∈ xs) → ks'.length ≤ n → R (.ok (.ret .none)) s') →
   codeAny (model P w) A (.builtin "set.update.loop" ⟨[.ref S, .ref I], []⟩) R s := by
 have hSw : S ∉ wr := fun z => hSf (W.sub _ z)
 have more : ∀ b ∈ wr, b ∈ S :: wr := fun b z => List.mem_cons_of_mem _ z
 intro k
 induction k with
 | zero =>
  intro i s es ep t ks hk hi st hS hm hl hR
  have e : i = n := by omega
  subst e
  refine codeAny_builtin PyProof.Rows.F.entry_set_update_loop ?_
  rw [Around.under_plainId PyProof.Rows.F.plain_set_update_loop]
  show wpAny (model P w) A.in1 (pyNext (.ref I) >>= _) _ _ s
  refine wpAny_bind (W.done s _ _ st fun s' mv => ?_)
  show wpAny (model P w) A.in1 (ret Value.none) _ _ s'
  refine wpAny_pure (hR s' es ep t ks (mv.mono more) (hS.at fun o q => mv.heap S o hSw q) (fun y => ?_) hl)
  rw [hm y, List.take_of_length_le (by omega)]
 | succ k ih =>
  intro i s es ep t ks hk hi st hS hm hl hR
  have lt : i < n := by omega
  refine codeAny_builtin PyProof.Rows.F.entry_set_update_loop ?_
  rw [Around.under_plainId PyProof.Rows.F.plain_set_update_loop]
  show wpAny (model P w) A.in1 (pyNext (.ref I) >>= _) _ _ s
  refine wpAny_bind (W.item i s _ _ lt st fun v s' hv st' mv => ?_)
  obtain ⟨x, tx, ex, rfl⟩ := hval i v hv
  have hS' : SetS P w s'.heap S es ep t ks := hS.at fun o q => mv.heap S o hSw q
  have tk1 : ∀ y, y ∈ xs.take (i + 1) ↔ y ∈ xs.take i ∨ y = x := fun y => by rw [List.take_add_one, ex]; simp
  show wpAny (model P w) A.in1 (holding [Value.str x tx] (setAdd S (.str x tx)) >>= _) _ _ s'
  refine wpAny_bind (wpAny_holding ?_)
  unfold setAdd
  refine wpAny_holding (wpAny_bind ((strKind P w).pyHash (k := x) (strKind_is _ _ _ _) ?_))
  refine add_text (s := { s' with toks := s'.toks + 1 }) hS' (by omega) (fun hx => ?_) (fun hx h' es' ep' t' ks' sb S2 m2 l2 => ?_)
  ·refine wpAny_pure ⟨plainId_quiet PyProof.Rows.F.plain_set_update_loop _, ih (i + 1) _ es ep t ks (by omega) lt (W.frame _ s' s'.heap _ st' (Nat.le_succ _) fun b _ o q => q) hS' (fun y => ?_) (by omega) fun s2 es2 ep2 t2 ks2 mv2 S2 m2 l2 => ?_⟩
   ·rw [hm y, tk1 y]
    constructor
    ·exact .inl
    ·rintro (z | z)
     ·exact z
     ·rw [z]; exact (hm x).mp hx
   ·exact hR s2 es2 ep2 t2 ks2 (Moved.trans W.gtrans ((mv.mono more).then_heap (Nat.le_succ _) fun b o _ q => q) mv2) S2 m2 l2
  ·refine wpAny_pure ⟨plainId_quiet PyProof.Rows.F.plain_set_update_loop _, ih (i + 1) _ es' ep' t' ks' (by omega) lt (W.frame _ s' h' _ st' (Nat.le_succ _) fun b hb o q => ?_) S2 (fun y => ?_) (by omega) fun s2 es2 ep2 t2 ks2 mv2 S2 m2 l2 => ?_⟩
   ·exact (sb.2 b (fun z => hSf (z ▸ hb))).trans q
   ·rw [m2 y, hm y, tk1 y]
   ·exact hR s2 es2 ep2 t2 ks2 (Moved.trans W.gtrans ((mv.mono more).then_heap (Nat.le_succ _) fun b o hb q => (sb.2 b (fun z => hb (z ▸ List.mem_cons_self))).trans q) mv2) S2 m2 l2
end
section
variable {P : Program} {w : World} {A : Around} {E : Value → Shared → Prop} {s : Shared}
abbrev emptySet (w : World) : Obj := { cls := .type "set", dict := none, data := .set #[] 0 (.fresh 0 0 (!w.params.followText "set-order")) }
theorem set_born (v : Value) {Q : Value → Shared → Prop} (h : Q (.ref s.heap.objs.size) { s with heap := s.heap.push (emptySet w) }) :
  codeAny (model P w) A (.call (.builtin "set.__new__") ⟨[.type "set", v], []⟩) (wants Q E) s := by
 refine codeAny_of_tree ?_
 show wpAny (model P w) A.in1 (do checkBuiltinCall "set.__new__" ⟨[.type "set", v], []⟩; again (.builtin "set.__new__" ⟨[.type "set", v], []⟩)) _ _ s
 refine wpAny_bind (wpAny_of_eq (PySem.F.newCall_set_1 v) (wpAny_pure ⟨plainId_quiet PySem.F.plain_set_new _, codeAny_builtin PySem.F.entry_set_new ?_⟩))
 rw [Around.under_plainId PySem.F.plain_set_new]
 unfold Builtin.«set.__new__» Builtin.Frozenset.newClass
 have hsub := sub_set_self
 obtain ⟨hp, g, d, tk, os⟩ := s
 dsimp only
 wp_walk
 refine wpAny_askSetting (wpAny_pure ?_)
 dsimp only
 simp only [newObj]
 exact wpAny_bind (wpAny_alloc (wpAny_pure (wpAny_pure h)))
theorem fresh_set (h : Heap) : SetS P w (h.push (emptySet w)) h.objs.size #[] 0 (.fresh 0 0 (!w.params.followText "set-order")) [] :=
 ⟨⟨_, Heap.get?_push_size _ rfl, ⟨rfl, rfl, rfl⟩, rfl⟩, fun e he => (by simp at he), by decide, rfl, rfl, fun z => absurd rfl z, .nil, by simp⟩
theorem set_of_texts {l : Addr} {its : Array Value} {xs : List Str} {Q : Value → Shared → Prop} (hh : A.handled = none) (hl : s.heap.IsList l its) (hi : StrsAre its.toList xs) (hb : its.size + 1 < scanBound)
  (h : ∀ (h' : Heap) (tk : Nat) es ep t ks, SetS P w h' s.heap.objs.size es ep t ks → (∀ y, y ∈ ks ↔ y ∈ xs) → ks.length ≤ its.size → (∀ b o, b < s.heap.objs.size → s.heap.get? b = some o → h'.get? b = some o) → Q (.ref s.heap.objs.size) { s with heap := h', toks := tk }) :
  wpAny (model P w) A (call (.type "set") [.ref l]) Q E s := by
 obtain ⟨c, tl, hmro⟩ := PySem.F.called_set.mro
 have hmade := PySem.F.called_set.made
 have hsub := PySem.F.called_set.sub
 refine wpAny_call (codeAny_of_tree ?_)
 show wpAny _ _ (callAny (.type "set") _) _ _ _
 refine wpAny_pure ⟨Code.quiet_builtin _ (by decide +kernel), codeAny_builtin PySem.F.entry_type_call ?_⟩
 rw [Around.under_plain (weight_type_call_type "set" [.ref l] []) rfl]
 have a1 := PySem.F.called_set.notType
 have a2 := PySem.F.called_set.canCreate
 have a3 := PySem.F.typeCall_set_1 (.ref l)
 repeat (any_goals (first | assumption | wp_step))
 refine codeAny_mono (set_born (.ref l) (E := E) (Q := fun obj s₁ => obj = .ref s.heap.objs.size ∧ s₁ = { s with heap := s.heap.push (emptySet w) }) ⟨rfl, rfl⟩) fun r s₁ hr => ?_
 cases r with
 | error e => exact hr
 | ok fl =>
  cases fl with
  | ret obj =>
   obtain ⟨rfl, rfl⟩ := hr
   have gS : (s.heap.push (emptySet w)).get? s.heap.objs.size = some (emptySet w) := Heap.get?_push_size _ rfl
   have hT : Shared.TypeIs { s with heap := s.heap.push (emptySet w) } (.ref s.heap.objs.size) "set" := ⟨_, gS, rfl⟩
   have a4 := PySem.F.called_set.init.lookup
   have a5 := PySem.F.called_set.init.bind (.ref s.heap.objs.size)
   repeat (any_goals (first | assumption | wp_step))
   refine codeAny_mono (codeAny_call_builtin (R := wants (fun r s₂ => r = .none ∧ ∃ h' tk es ep t ks, s₂ = { s with heap := h', toks := tk } ∧ SetS P w h' s.heap.objs.size es ep t ks ∧ (∀ y, y ∈ ks ↔ y ∈ xs) ∧ ks.length ≤ its.size ∧
     (∀ b o, b < s.heap.objs.size → s.heap.get? b = some o → h'.get? b = some o)) E) PySem.F.called_set.init.plain PySem.F.entry_set_init (check_set_init_1 hT ?_)) fun r₂ s₂ hr₂ => ?_
   ·obtain ⟨ol, hol, hcl, nl, hdl⟩ := hl
    obtain ⟨ocls, odict, odata, oslots⟩ := ol
    simp only at hcl hdl
    subst hcl hdl
    have hol' : (s.heap.push (emptySet w)).get? l = some { cls := .type "list", dict := odict, data := .seq its nl, slots := oslots } := Heap.get?_push_of_some _ hol
    have b1 := PySem.F.sub_list_set
    have b2 := PySem.F.sub_list_frozenset
    have b3 : (Value.type "list" == Value.type "dict") = false := by decide
    have hl1 : (s.heap.push (emptySet w)).IsList l its := ⟨_, hol', rfl, nl, rfl⟩
    unfold Builtin.«set.__init__» noKeywords Builtin.Frozenset.updateFrom
    generalize hPI : pyIter = PI
    wp_walk
    subst hPI
    refine wpAny_pyIter_list hl1 ?_
    refine wpAny_bind (wpAny_runValue ?_)
    have lS : l < s.heap.objs.size := Heap.lt_size hol
    have hh3 : A.in1.in1.in1.handled = none := by simp [hh]
    have neI : l ≠ (s.heap.push (emptySet w)).objs.size := by rw [Heap.size_push]; exact Nat.ne_of_lt (Nat.lt_succ_of_lt lS)
    have nf : s.heap.objs.size ∉ [(s.heap.push (emptySet w)).objs.size, l] := by
     rw [Heap.size_push]
     simp only [List.mem_cons, List.not_mem_nil, or_false, not_or]
     exact ⟨Nat.ne_of_lt (Nat.lt_succ_self _), Nat.ne_of_gt lS⟩
    have hxl : xs.length = its.size := by rw [← hi.length, Array.length_toList]
    have hval : ∀ (i : Nat) (v : Value), its[i]? = some v → ∃ x t, xs[i]? = some x ∧ v = .str x t := fun i v hv => strs_at hi i v (by rw [Array.getElem?_toList]; exact hv)
    refine set_loop ((Walks.list hh3 _ l neI its).toS) nf xs hxl hval hb (its.size - 0) 0 _ #[] 0 _ [] (by omega) (Nat.zero_le _) ⟨⟨_, Heap.get?_push_size _ rfl, rfl, rfl⟩, hl1.push _⟩ ((fresh_set s.heap).at fun o q => Heap.get?_push_of_some _ q) (fun y => by simp) (Nat.le_refl _) ?hR
    case hR =>
     intro s' es' ep' t' ks' hm hS' hmem hlen
     obtain ⟨h', g', d', tk', os'⟩ := s'
     have eg : g' = s.gens := hm.gens
     have ed : d' = s.drawn := hm.drawn
     have eo : os' = s.os := hm.os
     subst eg ed eo
     show wpAny _ _ _ _ _ _
     refine wpAny_pure ?_
     show wpAny _ _ (ret Value.none) _ _ _
     refine wpAny_pure ⟨rfl, h', tk', es', ep', t', ks', rfl, hS', hmem, hlen, fun b o hb e => ?_⟩
     refine hm.heap b o ?_ (Heap.get?_push_of_some _ (Heap.get?_push_of_some _ e))
     simp only [List.mem_cons, List.not_mem_nil, or_false, not_or]
     rw [Heap.size_push]
     exact ⟨Nat.ne_of_lt hb, Nat.ne_of_lt (Nat.lt_succ_of_lt hb)⟩
   ·cases r₂ with
    | error e => exact hr₂
    | ok fl₂ =>
     cases fl₂ with
     | ret r =>
      obtain ⟨rfl, h', tk, es, ep, t, ks, rfl, hS', hm, hln, hk'⟩ := hr₂
      repeat (any_goals (first | assumption | wp_step))
      exact h _ _ _ _ _ _ hS' hm hln hk'
     | _ => exact hr₂.elim
  | _ => exact hr.elim
end
namespace SI
theorem own_si : Manifest.owners.lookup (String.ofList ['r', 'o', 't', 'a', 'r', 'e', 't', 'i', '_', 't', 'e', 's'].reverse) = some Manifest.sig_set_iterator := by kernel_rfl
theorem slot_next : Slot "set_iterator" "__next__" "set_iterator.__next__" :=
 .of (owner := "set_iterator") (n := "__next__") (by rw [typeLookup_type, builtinLookup_eq_fast]; kernel_rfl) (by decide +kernel) (by decide +kernel) (by decide +kernel)
  (by first | exact .inl (by decide +kernel) | exact .inr (by decide +kernel)) (by rw [isSubtype_type]; kernel_rfl)
theorem slot_iter : Slot "set_iterator" "__iter__" "set_iterator.__iter__" :=
 .of (owner := "set_iterator") (n := "__iter__") (by rw [typeLookup_type, builtinLookup_eq_fast]; kernel_rfl) (by decide +kernel) (by decide +kernel) (by decide +kernel)
  (by first | exact .inl (by decide +kernel) | exact .inr (by decide +kernel)) (by rw [isSubtype_type]; kernel_rfl)
theorem entry_next : entryFor table "set_iterator.__next__" = some Builtin.«set_iterator.__next__» := entryFor_of_tree (by kernel_rfl)
theorem entry_iter : entryFor table "set_iterator.__iter__" = some Builtin.«dict_keyiterator.__iter__» :=
 entryFor_alias (id' := "dict_keyiterator.__iter__") (by kernel_rfl) (by first | rfl | decide +kernel | (unfold String.splitOn; simp +decide [String.splitOnAux])) (by decide +kernel) (by kernel_rfl)
theorem args_next (v : Value) : argsOk "set_iterator.__next__" ⟨[v], []⟩ := by
 unfold argsOk; rw [signature?_of (id := "set_iterator.__next__") (n := ['_', '_', 't', 'x', 'e', 'n', '_', '_']) (o := ['r', 'o', 't', 'a', 'r', 'e', 't', 'i', '_', 't', 'e', 's']) (by kernel_rfl) own_si]; kernel_rfl
theorem args_iter (v : Value) : argsOk "set_iterator.__iter__" ⟨[v], []⟩ := by
 unfold argsOk; rw [signature?_of (id := "set_iterator.__iter__") (n := ['_', '_', 'r', 'e', 't', 'i', '_', '_']) (o := ['r', 'o', 't', 'a', 'r', 'e', 't', 'i', '_', 't', 'e', 's']) (by kernel_rfl) own_si]; kernel_rfl
theorem entry_set_iter : entryFor table "set.__iter__" = some Builtin.«frozenset.__iter__» :=
 entryFor_alias (id' := "frozenset.__iter__") (by kernel_rfl) (by first | rfl | decide +kernel | (unfold String.splitOn; simp +decide [String.splitOnAux])) (by decide +kernel) (by kernel_rfl)
end SI
abbrev IsSI (h : Heap) (I : Addr) (F : Array Value) : Prop := h.get? I = some { cls := .type "set_iterator", dict := none, data := .fields F, slots := #[] }
section
variable {P : Program} {w : World} {A : Around} {E : Value → Shared → Prop} {s : Shared}
theorem si_self {I : Addr} {F : Array Value} {Q : Value → Shared → Prop} (hI : IsSI s.heap I F) (h : Q (.ref I) s) : wpAny (model P w) A (pyIter (.ref I)) Q E s := by
 have hT : s.TypeIs (.ref I) "set_iterator" := ⟨_, hI, rfl⟩
 refine wpAny_pyIter_slot hT SI.slot_iter (wpAny_call_entry SI.slot_iter hT SI.entry_iter ?_ (SI.args_iter _))
 show wpAny (model P w) _ (ret (.ref I)) _ _ s
 exact wpAny_pure ⟨_, rfl, "set_iterator", _, hT, SI.slot_next.lookup, h⟩
theorem si_item {I a : Addr} {sl i ep' : Nat} {es : Array (Int × Value)} {ep : Nat} {t : SetTable} {ks : List Str} {v : Value} {nx : Nat} {Q : Option Value → Shared → Prop} (hI : IsSI s.heap I #[rawInt sl, rawInt i, .ref a, rawInt es.size, rawInt ep'])
  (S : SetS P w s.heap a es ep t ks) (hn : ∀ (B : Around) (E' : Value → Shared → Prop) (Q' : Option (Value × Nat) → Shared → Prop), Q' (some (v, nx)) s → wpAny (model P w) B (setNext a sl i ep') Q' E' s)
  (h : ∀ h', IsSI h' I #[rawInt nx, rawInt (i + 1 : Nat), .ref a, rawInt es.size, rawInt ep'] → Heap.SameBut I s.heap h' → Q (some v) { s with heap := h' }) : wpAny (model P w) A (pyNext (.ref I)) Q E s := by
 have hT : s.TypeIs (.ref I) "set_iterator" := ⟨_, hI, rfl⟩
 obtain ⟨o, ho, hex, hd⟩ := S.obj
 unfold pyNext
 refine wpAny_bind (wpAny_attempt (wpAny_callSpecial?_slot (name := Str.ofString "__next__") hT SI.slot_next (wpAny_call_entry SI.slot_next hT SI.entry_next ?_ (SI.args_next _))))
 refine wpAny_bind (wpAny_pure ?_)
 refine wpAny_bind (wpAny_fieldsOf hI rfl ?_)
 refine wpAny_bind (wpAny_setEntries_of ho hd S.fits ?_)
 rw [if_neg (by simp [rawInt])]
 dsimp only [rawInt]
 rw [Int.toNat_natCast, Int.toNat_natCast, Int.toNat_natCast]
 refine wpAny_bind (hn _ _ _ ?_)
 dsimp only
 refine wpAny_bind (wpAny_setField_rec hI (by simp) fun h1 e1 b1 => ?_)
 refine wpAny_bind (wpAny_setField_rec e1 (by simp) fun h2 e2 b2 => ?_)
 refine wpAny_pure ⟨v, rfl, wpAny_pure (h h2 ?_ (b1.trans b2))⟩
 simpa [rawInt] using e2
theorem si_stop {I : Addr} {F : Array Value} {k0 : Option Nat} {Q : Option Value → Shared → Prop} (hh : A.handled = none) (hI : IsSI s.heap I F) (hk : 2 < F.size) (h : ∀ h', Heap.ExtBut I s.heap h' → Q none { s with heap := h' }) :
  wpAny (model P w) A.in1 (do setField (.ref I) 2 .none; raiseNew (← newExc (.type "StopIteration") []))
   (fun fin s' => ∃ v, fin = Fin.done (Flow.ret v) ∧ wpAny (model P w) A (pure (some v)) Q E s')
   (fun e s' => wpAny (model P w) A (do if ← isInstance e (.type "StopIteration") then pure none else throw e) Q E s') s := by
 refine wpAny_bind (wpAny_setField_rec hI hk fun h1 e1 b1 => ?_)
 refine wpAny_bind ?_
 simp only [newExc, newTuple]
 refine wpAny_bind (wpAny_newObj_type ?_ (by size_fits))
 refine wpAny_bind (m := firstArgMember _ _) (wpAny_of_eq (a := Value.none) (by first | rfl | (simp only [firstArgMember]; rfl)) ?_)
 refine wpAny_newObj_type ?_ (by size_fits)
 simp only [raiseNew]
 refine wpAny_bind (wpAny_handled ?_)
 rw [show A.in1.handled = none from hh]
 refine wpAny_bind (wpAny_pure (wpAny_throw ?_))
 refine wpAny_bind (wpAny_isInstance (T := "StopIteration") (b := true) ⟨_, Heap.get?_push_size _ rfl, rfl⟩ isSubtype_stop ?_)
 exact wpAny_pure (h _ ((b1.extBut.push _).push _))
theorem si_end {I a : Addr} {sl i ep' : Nat} {es : Array (Int × Value)} {ep : Nat} {t : SetTable} {ks : List Str} {Q : Option Value → Shared → Prop} (hh : A.handled = none) (hI : IsSI s.heap I #[rawInt sl, rawInt i, .ref a, rawInt es.size, rawInt ep'])
  (S : SetS P w s.heap a es ep t ks) (hn : ∀ (B : Around) (E' : Value → Shared → Prop) (Q' : Option (Value × Nat) → Shared → Prop), Q' none s → wpAny (model P w) B (setNext a sl i ep') Q' E' s)
  (h : ∀ h', Heap.ExtBut I s.heap h' → Q none { s with heap := h' }) : wpAny (model P w) A (pyNext (.ref I)) Q E s := by
 have hT : s.TypeIs (.ref I) "set_iterator" := ⟨_, hI, rfl⟩
 obtain ⟨o, ho, hex, hd⟩ := S.obj
 unfold pyNext
 refine wpAny_bind (wpAny_attempt (wpAny_callSpecial?_slot (name := Str.ofString "__next__") hT SI.slot_next (wpAny_call_entry SI.slot_next hT SI.entry_next ?_ (SI.args_next _))))
 refine wpAny_bind (wpAny_pure ?_)
 refine wpAny_bind (wpAny_fieldsOf hI rfl ?_)
 refine wpAny_bind (wpAny_setEntries_of ho hd S.fits ?_)
 rw [if_neg (by simp [rawInt])]
 dsimp only [rawInt]
 rw [Int.toNat_natCast, Int.toNat_natCast, Int.toNat_natCast]
 refine wpAny_bind (hn _ _ _ ?_)
 dsimp only
 exact si_stop (k0 := none) hh hI (by simp) h
theorem seq_items {T : Addr} {xs : Array Value} {B : Around} {E' : Value → Shared → Prop} {Q' : Option (Array Value) → Shared → Prop} (hT : s.heap.get? T = some { cls := .type "tuple", data := .seq xs }) (h : Q' (some xs) s) : wpAny (model P w) B (seqItems? (.ref T)) Q' E' s := by
 unfold seqItems?
 dsimp only
 refine wpAny_bind (wpAny_load hT ?_)
 exact wpAny_pure h
theorem sd_item {I a T : Addr} {i p : Nat} {es : Array (Int × Value)} {ep : Nat} {t : SetTable} {ks : List Str} {hv : Int} {v : Value} {ord : List Nat} {Q : Option Value → Shared → Prop} (hI : IsSI s.heap I #[.ref T, rawInt i, .ref a, rawInt es.size, rawInt ep])
  (hT' : s.heap.get? T = some { cls := .type "tuple", data := .seq (ord.map fun (i : Nat) => rawInt i).toArray }) (S : SetS P w s.heap a es ep t ks) (hp : ord[i]? = some p) (he : es[p]? = some (hv, v))
  (h : ∀ h', IsSI h' I #[.ref T, rawInt (i + 1 : Nat), .ref a, rawInt es.size, rawInt ep] → Heap.SameBut I s.heap h' → Q (some v) { s with heap := h' }) : wpAny (model P w) A (pyNext (.ref I)) Q E s := by
 have hT : s.TypeIs (.ref I) "set_iterator" := ⟨_, hI, rfl⟩
 obtain ⟨o, ho, hex, hd⟩ := S.obj
 unfold pyNext
 refine wpAny_bind (wpAny_attempt (wpAny_callSpecial?_slot (name := Str.ofString "__next__") hT SI.slot_next (wpAny_call_entry SI.slot_next hT SI.entry_next ?_ (SI.args_next _))))
 refine wpAny_bind (wpAny_pure ?_)
 refine wpAny_bind (wpAny_fieldsOf hI rfl ?_)
 refine wpAny_bind (wpAny_setEntries_of ho hd S.fits ?_)
 rw [if_neg (by simp [rawInt])]
 dsimp only [rawInt]
 refine wpAny_bind (seq_items hT' ?_)
 dsimp only
 have e1 : (ord.map fun (i : Nat) => rawInt i).toArray[((i : Nat) : Int).toNat]? = some (rawInt p) := by
  rw [Int.toNat_natCast, List.getElem?_toArray, List.getElem?_map, hp]; rfl
 rw [e1]
 dsimp only [rawInt]
 refine wpAny_bind ?_
 unfold setNextDrawn
 refine wpAny_bind (wpAny_setState_of ho hd S.fits ?_)
 dsimp only
 rw [Int.toNat_natCast, Int.toNat_natCast, if_neg (by simp), he]
 refine wpAny_pure ?_
 refine wpAny_bind (wpAny_setField_rec hI (by simp) fun h1 e1 b1 => ?_)
 refine wpAny_pure ⟨v, rfl, wpAny_pure (h h1 ?_ b1)⟩
 simpa [rawInt] using e1
theorem sd_end {I a T : Addr} {i : Nat} {es : Array (Int × Value)} {ep : Nat} {t : SetTable} {ks : List Str} {ord : List Nat} {Q : Option Value → Shared → Prop} (hh : A.handled = none) (hI : IsSI s.heap I #[.ref T, rawInt i, .ref a, rawInt es.size, rawInt ep])
  (hT' : s.heap.get? T = some { cls := .type "tuple", data := .seq (ord.map fun (i : Nat) => rawInt i).toArray }) (S : SetS P w s.heap a es ep t ks) (hp : ord[i]? = none)
  (h : ∀ h', Heap.ExtBut I s.heap h' → Q none { s with heap := h' }) : wpAny (model P w) A (pyNext (.ref I)) Q E s := by
 have hT : s.TypeIs (.ref I) "set_iterator" := ⟨_, hI, rfl⟩
 obtain ⟨o, ho, hex, hd⟩ := S.obj
 unfold pyNext
 refine wpAny_bind (wpAny_attempt (wpAny_callSpecial?_slot (name := Str.ofString "__next__") hT SI.slot_next (wpAny_call_entry SI.slot_next hT SI.entry_next ?_ (SI.args_next _))))
 refine wpAny_bind (wpAny_pure ?_)
 refine wpAny_bind (wpAny_fieldsOf hI rfl ?_)
 refine wpAny_bind (wpAny_setEntries_of ho hd S.fits ?_)
 rw [if_neg (by simp [rawInt])]
 dsimp only [rawInt]
 refine wpAny_bind (seq_items hT' ?_)
 dsimp only
 have e1 : (ord.map fun (i : Nat) => rawInt i).toArray[((i : Nat) : Int).toNat]? = none := by
  rw [Int.toNat_natCast, List.getElem?_toArray, List.getElem?_map, hp]; rfl
 rw [e1]
 dsimp only
 refine wpAny_bind (wpAny_setField_rec hI (by simp) fun h1 e1 b1 => ?_)
 exact si_stop (s := { s with heap := h1 }) (k0 := none) hh e1 (by simp) fun h2 x => h h2 (fun c o hc q => x c o hc (b1.extBut c o hc q))
theorem by_text {a : Addr} {Q : Bool → Shared → Prop} (h : Q (w.params.followText "set-order") s) : wpAny (model P w) A setsByText Q E s := by
 unfold setsByText
 exact wpAny_bind (wpAny_askSetting (wpAny_pure h))
theorem next_text {a : Addr} {es : Array (Int × Value)} {ep : Nat} {t : SetTable} {ks : List Str} {sl i : Nat} {Q : Option (Value × Nat) → Shared → Prop} (S : SetS P w s.heap a es ep t ks) (hb : w.params.followText "set-order" = true)
  (h : Q (((pickOrder (w.params.setOrder a ep) es)[i]?).map fun e => (e.2, sl)) s) : wpAny (model P w) A (setNext a sl i ep) Q E s := by
 obtain ⟨o, ho, hex, hd⟩ := S.obj
 unfold setNext
 refine wpAny_bind (wpAny_setState_of ho hd S.fits ?_)
 dsimp only
 refine wpAny_bind (by_text (a := a) ?_)
 rw [hb, if_pos rfl, if_neg (by simp)]
 refine wpAny_bind ?_
 unfold setWalk
 refine wpAny_bind (wpAny_setState_of ho hd S.fits ?_)
 dsimp only
 refine wpAny_bind (by_text (a := a) ?_)
 rw [hb, if_pos rfl]
 refine wpAny_bind (wpAny_askSetting (wpAny_pure ?_))
 exact wpAny_pure h
theorem next_few {a : Addr} {es : Array (Int × Value)} {ep : Nat} {t : SetTable} {ks : List Str} {sl i : Nat} {Q : Option (Value × Nat) → Shared → Prop} (S : SetS P w s.heap a es ep t ks) (hb : w.params.followText "set-order" = false) (h1 : es.size ≤ 1)
  (h : Q (match es[SetTable.below t.place sl]?, t.place[SetTable.below t.place sl]? with | some (_, x), some j => some (x, j + 1) | _, _ => none) s) : wpAny (model P w) A (setNext a sl i ep) Q E s := by
 obtain ⟨o, ho, hex, hd⟩ := S.obj
 have hl : t.led = true := by rw [S.led, hb]; rfl
 unfold setNext
 refine wpAny_bind (wpAny_setState_of ho hd S.fits ?_)
 dsimp only
 refine wpAny_bind (by_text (a := a) ?_)
 rw [hb, if_neg (by decide)]
 refine wpAny_ite_split (fun hab => ?_) (fun _ => ?_)
 ·have hab' : (!t.plain && decide (es.size > 1)) = true := hab
  simp at hab'
  omega
 refine wpAny_bind ?_
 show wpAny (model P w) A (if (!t.led && !es.isEmpty) = true then unsupported _ else pure ()) _ _ s
 rw [hl, if_neg (by simp)]
 exact wpAny_pure (wpAny_pure h)
end
theorem pick_perm {α : Type} (f : Nat → Nat) : ∀ (n k : Nat) (l : List α) (out : Array α), l.length = n → (pickOrder.go f n k l out).toList.Perm (out.toList ++ l)
 | 0, k, l, out, h => by
  have : l = [] := List.length_eq_zero_iff.mp h
  subst this
  unfold pickOrder.go
  rw [List.append_nil]
 | n + 1, k, l, out, h => by
  have lt : f k % l.length < l.length := Nat.mod_lt _ (by omega)
  unfold pickOrder.go
  rw [List.getElem?_eq_getElem lt]
  dsimp only
  refine (pick_perm f n (k + 1) _ _ (by rw [List.length_eraseIdx_of_lt lt]; omega)).trans ?_
  rw [Array.toList_push, List.append_assoc]
  refine List.Perm.append_left _ ?_
  have e : l = l.take (f k % l.length) ++ l[f k % l.length] :: l.drop (f k % l.length + 1) := by rw [← List.drop_eq_getElem_cons lt, List.take_append_drop]
  rw [List.eraseIdx_eq_take_drop_succ]
  conv => rhs; rw [e]
  show (l[f k % l.length] :: (l.take (f k % l.length) ++ l.drop (f k % l.length + 1))).Perm _
  exact List.perm_middle.symm
section
variable {P : Program} {w : World} {A : Around} {E : Value → Shared → Prop}
theorem draw_perm {α : Type} : ∀ (n : Nat) (l : List α) (s : Shared) (Q : List α → Shared → Prop), l.length = n → (∀ ys d', ys.Perm l → Q ys { s with drawn := d' }) → wpAny (model P w) A (drawOrder n l) Q E s
 | 0, l, s, Q, hl, h => by
  have : l = [] := List.length_eq_zero_iff.mp hl
  subst this
  unfold drawOrder
  exact wpAny_pure (h [] s.drawn (.refl _))
 | n + 1, [], s, Q, hl, h => by cases hl
 | n + 1, x :: l, s, Q, hl, h => by
  unfold drawOrder
  have go : ∀ i, i < (x :: l).length → wpAny (model P w) A (match (x :: l)[i]? with | some y => do return y :: (← drawOrder n ((x :: l).eraseIdx i)) | none => unsupported "internal:drawOrder") Q E { s with drawn := s.drawn.bump .order } := fun i hi => by
   rw [List.getElem?_eq_getElem hi]
   dsimp only
   refine wpAny_bind (draw_perm n _ _ _ (by rw [List.length_eraseIdx_of_lt hi]; omega) fun ys d' p => wpAny_pure ?_)
   refine h _ d' ?_
   have e : (x :: l) = (x :: l).take i ++ (x :: l)[i] :: (x :: l).drop (i + 1) := by rw [← List.drop_eq_getElem_cons hi, List.take_append_drop]
   refine (p.cons _).trans ?_
   rw [List.eraseIdx_eq_take_drop_succ]
   conv => rhs; rw [e]
   exact List.perm_middle.symm
  refine wpAny_bind ?_
  exact fun _ _ hΓ => ⟨by simp, go _ (Nat.mod_lt _ (by simp))⟩
end
section
variable {P : Program} {w : World} {A : Around} {E : Value → Shared → Prop} {s : Shared}
abbrev PvS (ks : List Str) : Nat → Value → Prop := fun i v => ∃ x tk, ks[i]? = some x ∧ v = .str x tk
theorem walk_text {I a : Addr} {es : Array (Int × Value)} {ep : Nat} {t : SetTable} {ks ks' : List Str} (hh : A.handled = none) (hne : a ≠ I) (hb : w.params.followText "set-order" = true)
  (hv : StrsAre ((pickOrder (w.params.setOrder a ep) es).toList.map (·.2)) ks') (hl : ks'.length = es.size) :
  Walks P w A I [I, a] [I] es.size (PvS ks') (fun i h => IsSI h I #[rawInt 0, rawInt i, .ref a, rawInt es.size, rawInt ep] ∧ SetS P w h a es ep t ks) where
 sub := fun b hb => by simp at hb; simp [hb]
 frame := fun _ _ _ st hk => ⟨hk I (by simp) _ st.1, st.2.at fun o q => hk a (by simp) o q⟩
 item := fun i s Q E hi st hQ => by
  have hsz : (pickOrder (w.params.setOrder a ep) es).size = es.size := by rw [← Array.length_toList, ← List.length_map (f := (·.2)), hv.length, hl]
  obtain ⟨e, he⟩ : ∃ e, (pickOrder (w.params.setOrder a ep) es)[i]? = some e := ⟨_, Array.getElem?_eq_getElem (by omega)⟩
  refine si_item (sl := 0) (v := e.2) (nx := 0) st.1 st.2 (fun B E' Q' q => next_text st.2 hb (by rw [he]; exact q)) fun h' e1 b1 => hQ e.2 h' s.toks ?_ ⟨e1, st.2.at fun o q => (b1.2 a hne).trans q⟩ fun b o hb q => (b1.2 b (by simpa using hb)).trans q
  obtain ⟨x, tk, ex, ev⟩ := strs_at hv i e.2 (by rw [List.getElem?_map, Array.getElem?_toList, he]; rfl)
  exact ⟨x, tk, ex, ev⟩
 done := fun s Q E st hQ => by
  have hsz : (pickOrder (w.params.setOrder a ep) es).size = es.size := by rw [← Array.length_toList, ← List.length_map (f := (·.2)), hv.length, hl]
  have he : (pickOrder (w.params.setOrder a ep) es)[es.size]? = none := Array.getElem?_eq_none (by omega)
  exact si_end (sl := 0) hh st.1 st.2 (fun B E' Q' q => next_text st.2 hb (by rw [he]; exact q)) fun h' x => hQ h' s.toks fun b o hb q => x b o (by simpa using hb) q
 self := fun _ _ _ _ st hQ => si_self st.1 hQ
theorem walk_drawn {I a T : Addr} {es : Array (Int × Value)} {ep : Nat} {t : SetTable} {ks ks' : List Str} {ord : List Nat} (hh : A.handled = none) (hne : a ≠ I) (hTI : T ≠ I) (hp : ord.Perm (List.range es.size))
  (hv : StrsAre (ord.map fun p => (es.getD p (0, .none)).2) ks') :
  Walks P w A I [I, a, T] [I] es.size (PvS ks') (fun i h => IsSI h I #[.ref T, rawInt i, .ref a, rawInt es.size, rawInt ep] ∧ SetS P w h a es ep t ks ∧ h.get? T = some { cls := .type "tuple", data := .seq (ord.map fun (i : Nat) => rawInt i).toArray }) where
 sub := fun b hb => by simp at hb; simp [hb]
 frame := fun _ _ _ st hk => ⟨hk I (by simp) _ st.1, st.2.1.at fun o q => hk a (by simp) o q, hk T (by simp) _ st.2.2⟩
 item := fun i s Q E hi st hQ => by
  have lo : ord.length = es.size := by rw [hp.length_eq, List.length_range]
  obtain ⟨p, ho⟩ : ∃ p, ord[i]? = some p := ⟨_, List.getElem?_eq_getElem (by omega)⟩
  have hlt : p < es.size := List.mem_range.mp (hp.mem_iff.mp (List.mem_of_getElem? ho))
  have he : es[p]? = some ((es.getD p (0, .none)).1, (es.getD p (0, .none)).2) := by
   rw [Array.getElem?_eq_getElem hlt, Array.getD_eq_getD_getElem?, Array.getElem?_eq_getElem hlt]; rfl
  refine sd_item st.1 st.2.2 st.2.1 ho he fun h' e1 b1 => hQ _ h' s.toks ?_ ⟨e1, st.2.1.at fun o q => (b1.2 a hne).trans q, (b1.2 T hTI).trans st.2.2⟩ fun b o hb q => (b1.2 b (by simpa using hb)).trans q
  obtain ⟨x, tk, ex, ev⟩ := strs_at hv i _ (by rw [List.getElem?_map, ho]; rfl)
  exact ⟨x, tk, ex, ev⟩
 done := fun s Q E st hQ => by
  have lo : ord.length = es.size := by rw [hp.length_eq, List.length_range]
  exact sd_end hh st.1 st.2.2 st.2.1 (List.getElem?_eq_none (by omega)) fun h' x => hQ h' s.toks fun b o hb q => x b o (by simpa using hb) q
 self := fun _ _ _ _ st hQ => si_self st.1 hQ
theorem below_one0 (p : Nat) : SetTable.below #[p] 0 = 0 := by
 unfold SetTable.below
 simp [SetTable.below.go]
theorem below_one1 (p : Nat) : SetTable.below #[p] (p + 1) = 1 := by
 unfold SetTable.below
 simp [SetTable.below.go]
theorem walk_few {I a : Addr} {es : Array (Int × Value)} {ep : Nat} {t : SetTable} {ks : List Str} (hh : A.handled = none) (hne : a ≠ I) (hb : w.params.followText "set-order" = false) (h1 : es.size ≤ 1) (hf : t.fits es.size = true) (hv : StrsAre (es.toList.map (·.2)) ks) :
  Walks P w A I [I, a] [I] es.size (PvS ks) (fun i h => IsSI h I #[rawInt (if i = 0 then 0 else t.place.getD 0 0 + 1 : Nat), rawInt i, .ref a, rawInt es.size, rawInt ep] ∧ SetS P w h a es ep t ks) where
 sub := fun b hb => by simp at hb; simp [hb]
 frame := fun _ _ _ st hk => ⟨hk I (by simp) _ st.1, st.2.at fun o q => hk a (by simp) o q⟩
 item := fun i s Q E hi st hQ => by
  have i0 : i = 0 := by omega
  subst i0
  have sz : es.size = 1 := by omega
  have tp : t.place.size = 1 := by
   unfold SetTable.fits at hf
   simp only [Bool.and_eq_true, beq_iff_eq] at hf
   omega
  obtain ⟨p, hp⟩ : ∃ p, t.place = #[p] := Array.size_eq_one_iff.mp tp
  obtain ⟨e, he⟩ : ∃ e, es[0]? = some e := ⟨_, Array.getElem?_eq_getElem (by omega)⟩
  refine si_item (sl := 0) (v := e.2) (nx := p + 1) st.1 st.2 (fun B E' Q' q => next_few st.2 hb h1 ?_) fun h' e1 b1 => hQ e.2 h' s.toks ?_ ⟨?_, st.2.at fun o q => (b1.2 a hne).trans q⟩ fun b o hb q => (b1.2 b (by simpa using hb)).trans q
  ·rw [hp, below_one0, he]
   exact q
  ·obtain ⟨x, tk, ex, ev⟩ := strs_at hv 0 e.2 (by rw [List.getElem?_map, Array.getElem?_toList, he]; rfl)
   exact ⟨x, tk, ex, ev⟩
  ·rw [hp]
   exact e1
 done := fun s Q E st hQ => by
  refine si_end hh st.1 st.2 (fun B E' Q' q => next_few st.2 hb h1 ?_) fun h' x => hQ h' s.toks fun b o hb q => x b o (by simpa using hb) q
  by_cases z : es.size = 0
  ·have ez : es = #[] := Array.size_eq_zero_iff.mp z
   rw [ez]
   simpa using q
  ·have sz : es.size = 1 := by omega
   have tp : t.place.size = 1 := by
    unfold SetTable.fits at hf
    simp only [Bool.and_eq_true, beq_iff_eq] at hf
    omega
   obtain ⟨p, hp⟩ : ∃ p, t.place = #[p] := Array.size_eq_one_iff.mp tp
   rw [if_neg z, hp]
   show Q' (match es[SetTable.below #[p] (p + 1)]?, (#[p] : Array Nat)[SetTable.below #[p] (p + 1)]? with | some (_, x), some j => some (x, j + 1) | _, _ => none) _
   rw [below_one1, Array.getElem?_eq_none (by omega)]
   exact q
 self := fun _ _ _ _ st hQ => si_self st.1 hQ
theorem iter_texts {a : Addr} {es : Array (Int × Value)} {ep : Nat} {t : SetTable} {ks : List Str} {Q : Value → Shared → Prop} (S : SetS P w s.heap a es ep t ks)
  (h : ∀ (I : Addr) (h1 : Heap) (d1 : Drawn) (fx : List Addr) (ks' : List Str) (St : Nat → Heap → Prop), ks'.Perm ks → s.heap.objs.size ≤ I → I < h1.objs.size → (∀ b ∈ fx, s.heap.objs.size ≤ b ∧ b < h1.objs.size) → (∀ b o, s.heap.get? b = some o → h1.get? b = some o) → St 0 h1 →
   (∀ B : Around, B.handled = none → Walks P w B I (I :: a :: fx) [I] es.size (PvS ks') St) → Q (.ref I) { s with heap := h1, drawn := d1 }) :
  wpAny (model P w) A (pyIter (.ref a)) Q E s := by
 obtain ⟨o, ho, hex, hd⟩ := S.obj
 have hT : s.TypeIs (.ref a) "set" := ⟨o, ho, hex.1⟩
 have la : a < s.heap.objs.size := Heap.lt_size ho
 have hsz := S.len
 refine wpAny_pyIter_slot hT PySem.F.slot_set_iter (wpAny_call_entry PySem.F.slot_set_iter hT SI.entry_set_iter ?_ (PySem.F.args_set_iter_1 _))
 unfold Builtin.«frozenset.__iter__» Builtin.Frozenset.slot0 slotArgs
 simp only [List.isEmpty_nil, Bool.not_true, Bool.false_eq_true, ↓reduceIte, bind_assoc, List.length_nil, bne_self_eq_false]
 unfold Builtin.Frozenset.addrOf Builtin.Frozenset.sizeOf
 refine wpAny_bind (wpAny_pure ?_)
 try dsimp only
 refine wpAny_bind (wpAny_pure ?_)
 refine wpAny_bind (wpAny_bind (wpAny_setEntries_of ho hd S.fits (wpAny_pure ?_)))
 unfold setDrawn
 refine wpAny_bind (wpAny_bind (wpAny_setState_of ho hd S.fits ?_))
 dsimp only
 refine wpAny_bind (by_text (a := a) (wpAny_pure ?_))
 refine wpAny_ite_split (fun hab => ?_) (fun hab => ?_)
 ·have hab' : (!w.params.followText "set-order" && (!t.plain && decide (es.size > 1))) = true := hab
  refine wpAny_bind (draw_perm _ _ _ _ (List.length_range) fun ys d' p => ?_)
  have ly : ys.length = es.size := by rw [p.length_eq, List.length_range]
  refine wpAny_bind (wpAny_newTuple ?_ (by rw [List.length_map, ly]; exact fits_of_scanBound S.small))
  have hoT : (s.heap.push { cls := .type "tuple", data := .seq (ys.map fun (i : Nat) => rawInt i).toArray }).get? s.heap.objs.size = some { cls := .type "tuple", data := .seq (ys.map fun (i : Nat) => rawInt i).toArray } := Heap.get?_push_size _ rfl
  have szT : (s.heap.push { cls := .type "tuple", data := .seq (ys.map fun (i : Nat) => rawInt i).toArray }).objs.size = s.heap.objs.size + 1 := Heap.size_push ..
  refine wpAny_bind (wpAny_setEpoch_of (s := { s with heap := s.heap.push { cls := .type "tuple", data := .seq (ys.map fun (i : Nat) => rawInt i).toArray }, drawn := d' }) (Heap.get?_push_of_some _ ho) hd S.fits ?_)
  have SS : SetS P w (s.heap.push { cls := .type "tuple", data := .seq (ys.map fun (i : Nat) => rawInt i).toArray }) a es ep t ks := S.at fun o q => Heap.get?_push_of_some _ q
  have old : ∀ b o, s.heap.get? b = some o → (s.heap.push { cls := .type "tuple", data := .seq (ys.map fun (i : Nat) => rawInt i).toArray }).get? b = some o := fun b o q => Heap.get?_push_of_some _ q
  generalize s.heap.push { cls := .type "tuple", data := .seq (ys.map fun (i : Nat) => rawInt i).toArray } = h1 at hoT szT SS old ⊢
  refine wpAny_bind (wpAny_newObj_type (wpAny_pure ⟨_, rfl, "set_iterator", _, ⟨_, Heap.get?_push_size _ rfl, rfl⟩, SI.slot_next.lookup, ?_⟩))
  have ent : ((List.range es.size).map fun p => (es.getD p (0, .none)).2) = es.toList.map (·.2) := by
   apply List.ext_getElem?
   intro i
   rw [List.getElem?_map, List.getElem?_map, show es.toList[i]? = es[i]? from Array.getElem?_toList]
   by_cases hi : i < es.size
   ·rw [List.getElem?_range hi, Array.getElem?_eq_getElem hi]
    show some (es.getD i (0, .none)).2 = some es[i].2
    rw [Array.getD_eq_getD_getElem?, Array.getElem?_eq_getElem hi]; rfl
   ·rw [List.getElem?_eq_none (by rw [List.length_range]; omega), Array.getElem?_eq_none (by omega)]; rfl
  obtain ⟨ks', v', p'⟩ := strs_perm (p.map fun p => (es.getD p (0, .none)).2) (ks := ks) (by rw [ent]; exact S.vals)
  refine h h1.objs.size (h1.push _) d' [s.heap.objs.size] ks' _ p' (by rw [szT]; exact Nat.le_succ _) (by rw [Heap.size_push]; exact Nat.lt_succ_self _) (fun b hb => ?_) (fun b o q => Heap.get?_push_of_some _ (old b o q)) ?_ (fun B hB => walk_drawn (ep := ep) (t := t) (ks := ks) hB ?_ ?_ p v')
  ·rw [List.mem_singleton.mp hb, Heap.size_push, szT]
   exact ⟨Nat.le_refl _, Nat.lt_succ_of_lt (Nat.lt_succ_self _)⟩
  ·exact ⟨Heap.get?_push_size _ rfl, SS.at fun o q => Heap.get?_push_of_some _ q, Heap.get?_push_of_some _ hoT⟩
  ·rw [szT]; exact Nat.ne_of_lt (Nat.lt_succ_of_lt la)
  ·rw [szT]; exact Nat.ne_of_lt (Nat.lt_succ_self _)
 ·have hab' : ¬ (!w.params.followText "set-order" && (!t.plain && decide (es.size > 1))) = true := hab
  refine wpAny_bind (wpAny_pure ?_)
  refine wpAny_bind (wpAny_setEpoch_of ho hd S.fits ?_)
  refine wpAny_bind (wpAny_newObj_type (wpAny_pure ⟨_, rfl, "set_iterator", _, ⟨_, Heap.get?_push_size _ rfl, rfl⟩, SI.slot_next.lookup, ?_⟩))
  have neI : a ≠ s.heap.objs.size := Nat.ne_of_lt la
  cases hb : w.params.followText "set-order" with
  | true =>
   obtain ⟨ks', v', p'⟩ := strs_perm ((pick_perm (w.params.setOrder a ep) es.size 0 es.toList #[] (by simp)).map (·.2)) (ks := ks) (by simpa using S.vals)
   exact h s.heap.objs.size (s.heap.push _) s.drawn [] ks' _ p' (Nat.le_refl _) (by rw [Heap.size_push]; exact Nat.lt_succ_self _) (fun b hb => by simp at hb) (fun b o q => Heap.get?_push_of_some _ q) ⟨Heap.get?_push_size _ rfl, S.at fun o q => Heap.get?_push_of_some _ q⟩
    (fun B hB => walk_text (ep := ep) (t := t) (ks := ks) hB neI hb v' (by rw [p'.length_eq, hsz]))
  | false =>
   have few : es.size ≤ 1 := by
    rw [hb] at hab'
    by_cases z : es.size ≤ 1
    ·exact z
    ·exfalso
     refine hab' ?_
     rw [S.plain (by omega), decide_eq_true (show es.size > 1 by omega)]
     rfl
   exact h s.heap.objs.size (s.heap.push _) s.drawn [] ks _ (.refl _) (Nat.le_refl _) (by rw [Heap.size_push]; exact Nat.lt_succ_self _) (fun b hb => by simp at hb) (fun b o q => Heap.get?_push_of_some _ q) ⟨Heap.get?_push_size _ rfl, S.at fun o q => Heap.get?_push_of_some _ q⟩
    (fun B hB => walk_few (ep := ep) (t := t) (ks := ks) hB neI hb few S.fits S.vals)
theorem set_hint {r : Addr} {Q : Bool → Shared → Prop} (hT : s.TypeIs (.ref r) "set") (h : Q false s) : wpAny (model P w) A (Builtin.List.listLengthHint (.ref r)) Q E s := by
 unfold Builtin.List.listLengthHint
 refine wpAny_bind (wpAny_specialOf hT PySem.F.slot_set_len.lookup ?_)
 generalize hid : ("set.__len__" : String) = id0
 wp_delta
 rw [show splitId id0 = some ("set", "__len__") from by subst hid; decide +kernel]
 subst hid
 refine wpAny_bind (wpAny_isInstance (T := "set") (b := true) hT (by rw [isSubtype_type]; kernel_rfl) ?_)
 refine wpAny_ite_split (fun hab => absurd hab (by decide)) (fun _ => ?_)
 refine wpAny_ite_split (fun _ => ?_) (fun hab => absurd (by decide +kernel) hab)
 exact wpAny_bind (wpAny_typeOf hT (wpAny_pure h))
theorem set_collect {a : Addr} {es : Array (Int × Value)} {ep : Nat} {t : SetTable} {ks : List Str} {Q : List Value → Shared → Prop} (S : SetS P w s.heap a es ep t ks) (hh : A.handled = none)
  (h : ∀ (h' : Heap) (tk : Nat) (d' : Drawn) (acc : List Value) (ks' : List Str), (∀ b o, s.heap.get? b = some o → h'.get? b = some o) → StrsAre acc ks' → ks'.Perm ks → Q acc { s with heap := h', toks := tk, drawn := d' }) :
  wpAny (model P w) A (collect (.ref a)) Q E s := by
 obtain ⟨o, ho, hex, hd⟩ := S.obj
 have la : a < s.heap.objs.size := Heap.lt_size ho
 have hsz := S.len
 unfold collect
 refine wpAny_bind (wpAny_runValue (codeAny_builtin entry_proto_collect' ?_))
 rw [Around.under_plainId PySem.F.plain_proto_collect]
 show wpAny (model P w) A.in1 (newList [] >>= fun l => again (.builtin "list.__iadd__" ⟨[l, .ref a], []⟩)) _ _ s
 refine wpAny_bind (wpAny_newObj_type ?_)
 refine wpAny_pure ⟨plainId_quiet PySem.F.plain_list_iadd _, codeAny_builtin entry_list_iadd' ?_⟩
 rw [Around.under_plainId PySem.F.plain_list_iadd]
 have g1 : (s.heap.push { cls := .type "list", data := .seq ([] : List Value).toArray }).get? s.heap.objs.size = some { cls := .type "list", data := .seq #[] } := Heap.get?_push_size _ rfl
 have z1 : (s.heap.push { cls := .type "list", data := .seq ([] : List Value).toArray }).objs.size = s.heap.objs.size + 1 := Heap.size_push ..
 have k1 : ∀ b o, s.heap.get? b = some o → (s.heap.push { cls := .type "list", data := .seq ([] : List Value).toArray }).get? b = some o := fun b o q => Heap.get?_push_of_some _ q
 show wpAny (model P w) A.in1 (Builtin.List.listExtendWith (.ref s.heap.objs.size) (.ref a) (.ref s.heap.objs.size)) _ _ _
 generalize s.heap.push { cls := .type "list", data := .seq ([] : List Value).toArray } = h1 at g1 z1 k1 ⊢
 have S1 : SetS P w h1 a es ep t ks := S.at fun o q => k1 a o q
 have T1 : Shared.TypeIs { s with heap := h1 } (.ref a) "set" := ⟨o, k1 a o ho, hex.1⟩
 unfold Builtin.List.listExtendWith
 refine wpAny_bind (wpAny_typeOf T1 ?_)
 have n1 : Builtin.List.listSameRef (.ref s.heap.objs.size) (.ref a) = false := by simp [Builtin.List.listSameRef]; exact Nat.ne_of_gt la
 rw [if_neg (by rw [n1]; decide)]
 refine wpAny_bind (iter_texts (s := { s with heap := h1 }) S1 fun I h2 d2 fx ks' St pk leI ltI fxo k2 st W => ?_)
 refine wpAny_bind (wpAny_holding (set_hint ⟨o, k2 a o (k1 a o ho), hex.1⟩ ?_))
 refine wpAny_ite_split (fun _ => ?_) (fun hab => absurd (by decide +kernel) hab)
 have lS : s.heap.objs.size < h1.objs.size := by rw [z1]; exact Nat.lt_succ_self _
 have nf : s.heap.objs.size ∉ I :: a :: fx := fun m => by
  rcases List.mem_cons.mp m with q | m
  ·exact absurd leI (by rw [← q]; exact Nat.not_le.mpr lS)
  ·rcases List.mem_cons.mp m with q | m
   ·exact absurd la (by rw [← q]; exact Nat.lt_irrefl _)
   ·exact absurd (fxo _ m).1 (Nat.not_le.mpr lS)
 refine wpAny_bind (wpAny_rule (wpAny_bind ?_))
 have g2 := k2 _ _ g1
 show wpAny (model P w) A.in1 (updateSeq s.heap.objs.size (·.push .none) >>= fun _ => updateSeq s.heap.objs.size (·.pop)) _ _ _
 refine wpAny_bind (wpAny_updateSeq g2 rfl ?_)
 have g3 := Heap.get?_update_self (Obj.mapSeq (·.push Value.none)) g2 rfl
 refine wpAny_updateSeq (hz := by seq_fits) g3 rfl ?_
 have g4 := Heap.get?_update_self (Obj.mapSeq (·.pop)) g3 rfl
 have k4 : ∀ b o, b ≠ s.heap.objs.size → h2.get? b = some o → ((h2.update s.heap.objs.size (Obj.mapSeq (·.push Value.none))).update s.heap.objs.size (Obj.mapSeq (·.pop))).get? b = some o := fun b o nb q =>
  (Heap.get?_update_other _ _ (Ne.symm nb)).trans ((Heap.get?_update_other _ _ (Ne.symm nb)).trans q)
 have st4 := (W A.in1 hh).frame 0 _ _ st fun b hb o q => k4 b o (fun z => nf (z ▸ hb)) q
 refine wpAny_pure ⟨plainId_quiet PySem.F.plain_extend_loop _, codeAny_extend_loopS (W A.in1 hh).toS (fits_of_scanBound S.small) s.heap.objs.size nf _ es.size 0 _ #[] _ rfl (Nat.zero_le _) st4 g4 (ItemsOf.nil _) fun s' acc' c' hm hS' hacc => ?_⟩
 show wpAny (model P w) A (load s.heap.objs.size >>= _) _ _ s'
 refine wpAny_bind (wpAny_load hS' ?_)
 refine wpAny_pure ?_
 rw [Moved.eq_with hm]
 refine h s'.heap s'.toks d2 acc'.toList ks' (fun b o q => hm.heap b o (fun m => ?_) (k4 b o (Nat.ne_of_lt (Heap.lt_size q)) (k2 b o (k1 b o q)))) ?_ pk
 ·have lb := Heap.lt_size q
  rcases List.mem_cons.mp m with z | m
  ·exact absurd lb (by rw [z]; exact Nat.lt_irrefl _)
  ·have z := List.mem_singleton.mp m
   exact absurd (Nat.lt_trans lb lS) (by rw [z]; exact Nat.not_lt.mpr leI)
 ·have ll : acc'.toList.length = ks'.length := by rw [Array.length_toList, hacc.1, hsz, pk.length_eq]
  refine strsAre_by ll fun i v x e1 e2 => ?_
  obtain ⟨y, tk, ey, ev⟩ := hacc.2 i v (by rw [← Array.getElem?_toList]; exact e1)
  rw [e2] at ey
  cases ey
  exact ⟨tk, ev⟩
end
def SetO (P : Program) (w : World) (a : Addr) (ks : List Str) : HO := .ext fun h => ∃ es ep t ks', SetS P w h a es ep t ks' ∧ ks'.Perm ks
section
variable {X : Cx}
def rSet (X : Cx) : List V → Hp → VK → Prop := fun xs H Q => ∃ (l : Addr) (ss : List Str), xs = [.ref l] ∧ SqL X.K H l (ss.map V.str) ∧ ss.length + 1 < scanBound ∧
 ∀ (p : Addr) (ks : List Str), H p = none → ks.Nodup → (∀ y, y ∈ ks ↔ y ∈ ss) → ks.length ≤ ss.length → Q (.ref p) (upd H p (SetO X.prog X.w p ks))
theorem call_setT (hc : X.calm = true) : CallR X (.type "set") (rSet X) := by
 intro pins s σ H xs us Q I r h
 obtain ⟨l, ss, rfl, hq, hb, q⟩ := h
 obtain ⟨u, rfl, ru⟩ := vals1 r
 cases ru
 obtain ⟨its, rv, p, _⟩ := I.list hq
 have hl := rv.length
 rw [List.length_map] at hl
 refine set_of_texts (I.ok.hd hc) p.isList (strsAre_of rv) (by simp; omega) fun h' tk es ep t ks S hm hlen kp => ?_
 have k' : ∀ b o, s.heap.get? b = some o → h'.get? b = some o := fun b o e => kp b o (Heap.lt_size e) e
 have hp : s.heap.objs.size ≤ s.heap.objs.size := Nat.le_refl _
 have I2 := I.laid (a := s.heap.objs.size) (o := SetO X.prog X.w s.heap.objs.size ks) (t' := tk) k' hp ⟨⟨es, ep, t, ks, S, .refl _⟩, (let ⟨o, e, _⟩ := S.obj; ⟨o, e⟩), fun h1 h2 ⟨es1, ep1, t1, ks1, S1, p1⟩ k2 => ⟨es1, ep1, t1, ks1, S1.at k2, p1⟩⟩
 exact ⟨.ref s.heap.objs.size, _, I2, rfl, q _ ks (I.hok.fresh hp) S.once hm (by simp at hlen; omega)⟩
def rSortSet (X : Cx) : List V → Hp → VK → Prop := fun xs H Q => ∃ (a : Addr) (ks : List Str), xs = [.ref a] ∧ H a = some (SetO X.prog X.w a ks) ∧ ks.length < 64 ∧
 ∀ (p : Addr) (ss' : List Str), H p = none → ss'.Perm ks → sortedS ss' = true → Q (.ref p) (upd H p (.lst (ss'.map V.str)))
theorem call_sortSet (hc : X.calm = true) : CallR X (.builtin "sorted") (rSortSet X) := by
 intro pins s σ H xs us Q I r h
 obtain ⟨a, ks, rfl, ha, h64, q⟩ := h
 obtain ⟨u, rfl, ru⟩ := vals1 r
 cases ru
 obtain ⟨⟨es, ep, t, ks0, S, p0⟩, _, _⟩ := (show ObjOk X.prog X.w H s.heap a (SetO X.prog X.w a ks) from I.hok a _ ha)
 refine Calls.call_function_entry kind_sorted plain_sorted entry_sorted (args_sorted1 _) ?_
 unfold Builtin.«sorted»
 (refine wpAny_bind (m := checkCount "sorted" 1 1 _) (wpAny_pure ?_))
 refine wpAny_bind (set_collect (A := X.A.in1) S (I.ok.hd hc) fun h' tk d' acc ks1 k hS p1 => ?_)
 have hl : acc.length = ks.length := by rw [hS.length, p1.length_eq, p0.length_eq]
 refine wpAny_bind (wpAny_newList ?_ (by rw [hl]; exact Nat.le_of_lt (Nat.lt_of_lt_of_le h64 (by decide))))
 have hoL : (h'.push (seqObj "list" acc.toArray 0)).get? h'.objs.size = some (seqObj "list" acc.toArray 0) := Heap.get?_push_size _ rfl
 refine wpAny_bind (wpAny_holding (wpAny_call_entry slot_list_sort ⟨_, hoL, rfl⟩ entry_list_sort (list_sort_treeK strKind_oneLt hoL hS.keysOf (fun v1 v2 rest e => keyKind_strs (by rw [← e]; exact hS)) (by rw [hl]; exact h64) fun st' hp hs => ⟨_, rfl, ?_⟩) (args_list_sort _)))
 obtain ⟨ss', a1, a2, a3⟩ := sorted_out_str hS hp hs
 have I1 : Inv X pins σ H { s with heap := h', toks := tk, drawn := d' } := I.step (g' := s.gens) (d' := d') (ch := []) (fun b z => by cases z) (fun b o _ _ _ e _ => k b o e) (fun b o _ _ _ e _ => ⟨o.slots, k b o e⟩) (fun _ _ _ _ n => n)
  (fun b o _ e => ⟨o, k b o e⟩) (fun _ _ e => e) (fun _ _ _ e => e) (fun b ps e => ⟨#[], by rw [e]; simp⟩) (fun m ⟨ob, e1, e2, hb, r⟩ => ⟨ob, e1, e2, k _ ob hb, r⟩) (fun b u e => (I.hok b u e).stay (fun c v _ z => k c v z) (fun _ z => z) fun _ _ z => z) I.bare
 obtain ⟨e, he⟩ := sortedHeap_at (out := (arrOf st').map (·.2)) hoL
 have kp : ∀ b u, h'.get? b = some u → (sortedHeap (h'.push (seqObj "list" acc.toArray 0)) h'.objs.size acc ((arrOf st').map (·.2))).get? b = some u := fun b u eb => by
  have lt := Heap.lt_size eb
  rw [sortedHeap_old (Nat.ne_of_lt lt) (by rw [Heap.size_push]; exact Nat.lt_succ_of_lt lt)]
  exact Heap.get?_push_of_some _ eb
 have I2 := I1.laid (a := h'.objs.size) (o := .lst (ss'.map V.str)) (t' := tk) kp (Nat.le_refl _) ⟨by rw [List.length_map, a2.length_eq, p1.length_eq, p0.length_eq]; exact Nat.le_of_lt (Nat.lt_of_lt_of_le h64 (by decide)), ((arrOf st').map (·.2)).toList, e, vals_strs a1, he⟩
 exact wpAny_pure ⟨_, rfl, ⟨.ref h'.objs.size, _, I2, rfl, q _ ss' (I1.hok.fresh (Nat.le_refl _)) ((a2.trans p1).trans p0) a3⟩⟩
end
end L2
namespace L2
open PySem PySem.Spec PyProof.Rows
open PySem.AutoSeq1 (wpAny_loadPart')
theorem list_extend_tup (l b : Addr) (items items2 : Array Value) (n n2 : Nat) (dd : Option Addr) (sl : Array (Option Value)) (h0 : ¬(!items.isEmpty && Builtin.List.listTooLong (items.size + items2.size)) = true) (h1 : items.size ≤ sizeLine) (h2 : items.size + items2.size ≤ sizeLine + 1) :
  Meets (Builtin.«list.extend» ⟨[.ref l, .ref b], []⟩) (fun _ R s => s.heap.get? l = some { cls := .type "list", dict := none, data := .seq items n, slots := #[] } ∧ s.heap.get? b = some { cls := .type "tuple", dict := dd, data := .seq items2 n2, slots := sl } ∧
   R (.ok (.ret Value.none)) { s with heap := s.heap.update l (Obj.mapSeq fun x => x ++ items2), toks := s.toks }) :=
 .of_wp fun prog w A R s h => by
  obtain ⟨hp, g, d, tk, os⟩ := s; obtain ⟨hl, hb, h⟩ := h
  have f1 := AutoSeq1.idx_int
  have f2 := AutoSeq1.sub_tuple_tuple
  have f3 := AutoSeq1.sub_list_list
  have f4 := AutoSeq1.sub_tuple_list
  have f5 := AutoSeq1.sub_list_tuple
  have hz : (items ++ items2).size ≤ sizeLine + 1 := by rw [Array.size_append]; exact h2
  wp_walk using (wpAny_updateSeq hl rfl (hz := h1) (_hz' := hz)), wpAny_loadPart' hl, wpAny_loadPart' hb
  exact ⟨_, rfl, h⟩
section
variable {X : Cx}
def rExtendT (K : PySem.W.Frag) : V → List V → Hp → VK → Prop := fun x vs H Q => ∃ l b xs zs, x = .ref l ∧ vs = [.ref b] ∧ H l = some (.lst xs) ∧ SqT K H b zs ∧ xs.length + zs.length ≤ sizeLine ∧ Q .non (upd H l (.lst (xs ++ zs)))
theorem mt_extendT (K : PySem.W.Frag) (hK : X.K = K := by rfl) : MtM X "list.extend" (rExtendT K) := by
 subst hK
 intro pins s σ H x vs v us Q I rx rv h
 obtain ⟨l, b, xs, zs, rfl, rfl, hH, hB, hz, q⟩ := h
 cases rx
 obtain ⟨u, rfl, ru⟩ := rv.one
 cases ru
 obtain ⟨z, its, n, r, hl, e⟩ := I.lstM hH
 obtain ⟨its2, r2, ⟨⟨c2, dd2, da2, sl2⟩, e2, hc2, n2, hd2⟩, z2⟩ := I.tuple hB
 simp only at hc2 hd2
 subst hc2 hd2
 have lr2 := r2.length
 have hsz : its.toArray.size + its2.toArray.size ≤ sizeLine := by rw [List.size_toArray, List.size_toArray]; omega
 have hlong : ¬ (!its.toArray.isEmpty && Builtin.List.listTooLong (its.toArray.size + its2.toArray.size)) = true := by
  rw [notLongL hsz, Bool.and_false]
  exact Bool.false_ne_true
 refine call_meets F.slot_list_extend ⟨_, e, rfl⟩ F.entry_list_extend (F.args_list_extend_2 _ _)
  (list_extend_tup l b its.toArray its2.toArray n n2 dd2 sl2 hlong (by rw [List.size_toArray]; omega) (by omega)) ⟨e, e2, ?_⟩
 refine ⟨.non, _, I.lset (its' := its ++ its2) hH e (by simp) (r.append r2) ?_, rfl, q⟩
 rw [List.length_append]
 omega
end
theorem nodup_len : ∀ {l : List Str} {ss : List Str}, l.Nodup → (∀ y ∈ l, y ∈ ss) → l.length ≤ ss.length
 | [], ss, _, _ => Nat.zero_le _
 | x :: l, ss, h, hs => by
  rw [List.nodup_cons] at h
  have hx := hs x List.mem_cons_self
  have := nodup_len (l := l) (ss := ss.erase x) h.2 fun y hy => (List.mem_erase_of_ne (fun e : y = x => h.1 (by rw [← e]; exact hy))).mpr (hs y (List.mem_cons_of_mem _ hy))
  rw [List.length_erase_of_mem hx] at this
  have hp : 0 < ss.length := List.length_pos_of_mem hx
  rw [List.length_cons]
  omega
end L2
namespace L2
open PySem PySem.Spec PyProof.Rows
structure Passed (fs : List Addr) (e : Addr) (oe : Obj) (hd : Option Addr) (T : Addr) (h h' : Heap) : Prop where
 above : h.objs.size ≤ T
 keep : ∀ b o, b ≠ e → b ∉ fs → hd ≠ some b → h.get? b = some o → h'.get? b = some o
 slot : ∀ b o, b ∈ fs → b ≠ e → hd ≠ some b → h.get? b = some o → ∃ sl, h'.get? b = some { o with slots := sl }
 exc : h'.get? e = some (oe.mapFields (·.setIfInBounds 1 (.ref T)))
 tb : ∃ oT ts, h'.get? T = some oT ∧ oT.data = .fields ts ∧ ts[3]? = some .none
section
variable {M : Model} {A : Around} {E : Value → Shared → Prop} {s : Shared} {base : Heap} {env : Env} {outer : List Env} {L e : Addr} {oe : Obj} {vs : Array Value} {Q : Unit → Shared → Prop}
theorem pass_entry {head : Value} {had : Bool} (fr : A.frames = some (env :: outer)) (ff : s.heap.FunFrames base (env :: outer)) (fL : env.frame = some L)
  (xe : s.heap.get? e = some oe) (xd : oe.data = .fields vs) (xs : 1 < vs.size) (k : ∀ h' T, Passed (frs (env :: outer)) e oe none T s.heap h' → Q () { s with heap := h' }) :
  wpAny M A (do
   let a ← frameOf env
   let pl ← entryPlaceOf L had
   let b ← EntryCells.newEntry head a .none (rawInt L) .none pl
   setField (.ref e) 1 b) (fun _ s' => wpAny M A (setFlight (.ref e) none) Q E s') E s := by
 have eNF : e ∉ frs (env :: outer) := fun z => by
  obtain ⟨_, o, ho, nf⟩ := ff.mem z
  rw [xe] at ho
  cases ho
  exact nf vs xd
 refine wpAny_bind (wpAny_frameOf_fun fr ff fL fun g so => ?_)
 refine wpAny_bind (wpAny_entryPlaceOf fun pl ip => ?_)
 unfold EntryCells.newEntry newFields
 refine wpAny_bind (wpAny_newObj_type ?_ (ip.sizeOk5 _ _ _ _ _))
 have ge : g.get? e = some oe := (so.2.1 e eNF).trans xe
 generalize hN : ([head, Value.ref L, .none, rawInt L, .none] ++ (if pl.isEmpty then List.replicate 6 Value.none else pl)).toArray = ar
 have a3 : ar[3]? = some (rawInt L) := by rw [← hN]; simp
 have as : 3 < ar.size := (Array.getElem?_eq_some_iff.mp a3).1
 have g2 := Heap.get?_push_of_some (h := g) { cls := .type "traceback", dict := none, data := .fields ar } ge
 refine wpAny_setField g2 xd xs ?_
 have tne : g.objs.size ≠ e := Nat.ne_of_gt (Heap.lt_size ge)
 have d3 := Obj.data_mapFields xd (·.setIfInBounds 1 (Value.ref g.objs.size))
 have g3 := Heap.get?_update_self (Obj.mapFields (·.setIfInBounds 1 (Value.ref g.objs.size))) g2 (Obj.isFreed_of_fields d3)
 have t3 := (Heap.get?_update_other (g.push { cls := .type "traceback", dict := none, data := .fields ar }) (Obj.mapFields (·.setIfInBounds 1 (Value.ref g.objs.size))) (Ne.symm tne)).trans (Heap.get?_push_size g rfl)
 unfold setFlight
 refine wpAny_bind (wpAny_field g3 d3 (x := .ref g.objs.size) (by simp [xs]) ?_)
 rw [if_pos (by simp)]
 refine wpAny_setField t3 rfl as ?_
 have keep : ∀ b o, b ≠ e → g.get? b = some o → (((g.push { cls := .type "traceback", dict := none, data := .fields ar }).update e (Obj.mapFields (·.setIfInBounds 1 (Value.ref g.objs.size)))).update g.objs.size
   (Obj.mapFields (·.setIfInBounds 3 ((none : Option Addr).elim Value.none fun f => rawInt f)))).get? b = some o := fun b o ne hb => by
  rw [Heap.get?_update_other _ _ (Nat.ne_of_gt (Heap.lt_size hb)), Heap.get?_update_other _ _ (Ne.symm ne)]
  exact Heap.get?_push_of_some _ hb
 refine k _ g.objs.size ⟨Nat.le_of_eq so.1.symm, fun b o ne nf _ hb => keep b o ne ((so.2.1 b nf).trans hb), fun b o _ ne _ hb => ?_, ?_, _, _, Heap.get?_update_self _ t3 (Obj.isFreed_of_fields (Obj.data_mapFields rfl _)), Obj.data_mapFields rfl _, ?_⟩
 ·obtain ⟨sl, q⟩ := so.2.2 b o hb
  exact ⟨sl, keep b _ ne q⟩
 ·rw [Heap.get?_update_other _ _ tne]
  exact g3
 ·simp [as]
theorem pass_first (fr : A.frames = some (env :: outer)) (ff : s.heap.FunFrames base (env :: outer)) (fL : env.frame = some L) (xe : s.heap.get? e = some oe) (xd : oe.data = .fields vs) (x1 : vs[1]? = some .none)
  (k : ∀ h' T, Passed (frs (env :: outer)) e oe none T s.heap h' → Q () { s with heap := h' }) : wpAny M A (noteFrame (.ref e) env) (fun _ s' => wpAny M A (setFlight (.ref e) none) Q E s') E s := by
 unfold noteFrame
 simp only [fL]
 refine wpAny_bind (wpAny_field xe xd x1 ?_)
 rw [if_neg (by decide)]
 exact pass_entry fr ff fL xe xd (Array.getElem?_eq_some_iff.mp x1).1 k
theorem pass_next {T₀ : Addr} {oT : Obj} {ts : Array Value} (fr : A.frames = some (env :: outer)) (ff : s.heap.FunFrames base (env :: outer)) (fL : env.frame = some L) (xe : s.heap.get? e = some oe) (xd : oe.data = .fields vs) (x1 : vs[1]? = some (.ref T₀))
  (tne : T₀ ≠ e) (xt : s.heap.get? T₀ = some oT) (td : oT.data = .fields ts) (t3 : ts[3]? = some .none)
  (k : ∀ h' T, Passed (frs (env :: outer)) e oe (some T₀) T s.heap h' → Q () { s with heap := h' }) : wpAny M A (noteFrame (.ref e) env) (fun _ s' => wpAny M A (setFlight (.ref e) none) Q E s') E s := by
 unfold noteFrame
 simp only [fL]
 refine wpAny_bind (wpAny_field xe xd x1 ?_)
 rw [if_pos (by simp)]
 refine wpAny_bind (wpAny_field xt td t3 ?_)
 rw [if_neg (by simp [rawInt])]
 refine wpAny_bind (wpAny_setField xt td (Array.getElem?_eq_some_iff.mp t3).1 ?_)
 have oth : ∀ b, b ≠ T₀ → (s.heap.update T₀ (Obj.mapFields (·.setIfInBounds 3 Value.none))).get? b = s.heap.get? b := fun b nb => Heap.get?_update_other _ _ (Ne.symm nb)
 have nrec : ∀ b o, s.heap.get? b = some o → (∀ ws, o.data ≠ .fields ws) → b ≠ T₀ := fun b o hb nf z => by
  rw [z, xt] at hb
  cases hb
  exact nf ts td
 refine pass_entry (s := { s with heap := s.heap.update T₀ (Obj.mapFields (·.setIfInBounds 3 Value.none)) }) fr (ff.of_keeps fun b o hb nf => ⟨o, (oth b (nrec b o hb nf)).trans hb, rfl⟩) fL ((oth e (Ne.symm tne)).trans xe) xd (Array.getElem?_eq_some_iff.mp x1).1 fun h' T p => ?_
 refine k h' T ⟨?_, fun b o ne nf nt hb => p.keep b o ne nf (by simp) ((oth b fun z => nt (by rw [z])).trans hb), fun b o hf ne nt hb => p.slot b o hf ne (by simp) ((oth b fun z => nt (by rw [z])).trans hb), p.exc, p.tb⟩
 have := p.above
 simpa [Heap.update] using this
end
def ExcO (fresh : Bool) (a C : Addr) (dx : Option Addr) : Heap → Prop := fun h =>
 ∃ o vs, h.get? a = some o ∧ o.cls = .ref C ∧ o.dict = dx ∧ o.data = .fields vs ∧ vs.size = 6 ∧ (fresh = true → vs[1]? = some .none)
abbrev xo (fresh : Bool) (a C : Addr) (dx : Option Addr) : HO := .ext (ExcO fresh a C dx)
theorem xo_ok {P : Program} {w : World} {H : Hp} {h : Heap} {f : Bool} {a C : Addr} {dx : Option Addr} (x : ExcO f a C dx h) : ObjOk P w H h a (xo f a C dx) := by
 obtain ⟨o, vs, e, r⟩ := id x
 refine ⟨x, ⟨o, e⟩, fun h1 h2 p k => ?_⟩
 obtain ⟨o', vs', e', r'⟩ := p
 exact ⟨o', vs', k _ e', r'⟩
theorem Inv.xok {X : Cx} {pins : List (Addr × Obj)} {σ : St} {H : Hp} {s : Shared} {f : Bool} {a C : Addr} {dx : Option Addr} (I : Inv X pins σ H s) (Ha : H a = some (xo f a C dx)) : ExcO f a C dx s.heap := (I.hok a _ Ha).1
def Fly (n : Nat) (a : Addr) (H : Hp) (h : Heap) : Prop := ∃ o vs T oT ts, h.get? a = some o ∧ o.data = .fields vs ∧ vs[1]? = some (.ref T) ∧ T ≠ a ∧ n ≤ T ∧ H T = none ∧ h.get? T = some oT ∧ oT.data = .fields ts ∧ ts[3]? = some .none
theorem Fly.mono {n m : Nat} {a : Addr} {H : Hp} {h : Heap} (x : Fly n a H h) (q : m ≤ n) : Fly m a H h := by
 obtain ⟨o, vs, T, oT, ts, e1, e2, e3, e4, e5, r⟩ := x
 exact ⟨o, vs, T, oT, ts, e1, e2, e3, e4, Nat.le_trans q e5, r⟩
section
variable {X : Cx} {pins : List (Addr × Obj)} {σ : St} {H : Hp} {s : Shared} {h' : Heap} {a C T : Addr} {dx : Option Addr} {f : Bool} {oe : Obj} {hd : Option Addr}
theorem Inv.beyond (I : Inv X pins σ H s) (hT : s.heap.objs.size ≤ T) : X.s₀.heap.objs.size ≤ T ∧ T ≠ X.env.locals ∧ (∀ x c, X.env.cells.lookup x = some c → c ≠ T) ∧ ∀ p ∈ X.pn ++ pins, p.1 ≠ T := by
 refine ⟨Nat.le_trans I.sz hT, fun z => ?_, fun x c e z => ?_, fun p hp z => ?_⟩
 ·exact absurd (Nat.lt_of_lt_of_le (z ▸ I.lt) hT) (Nat.lt_irrefl _)
 ·obtain ⟨v, o, ho, _⟩ := I.cell x c e
  exact absurd (Nat.lt_of_lt_of_le (z ▸ Heap.lt_size ho) hT) (Nat.lt_irrefl _)
 ·have := (I.pin p hp).1
  exact absurd (Nat.lt_of_lt_of_le (z ▸ Heap.lt_size this) hT) (Nat.lt_irrefl _)
theorem Inv.passed (I : Inv X pins σ H s) (p : Passed (frs X.stack) a oe hd T s.heap h') (Ha : H a = some (xo f a C dx)) (ho : s.heap.get? a = some oe) (hn : ∀ b, hd = some b → H b = none)
  (hT : ∀ b, hd = some b → X.s₀.heap.objs.size ≤ b ∧ b ≠ X.env.locals ∧ (∀ x c, X.env.cells.lookup x = some c → c ≠ b) ∧ ∀ q ∈ X.pn ++ pins, q.1 ≠ b) :
  Inv X pins σ (upd H a (xo false a C dx)) { s with heap := h' } ∧ ExcO false a C dx h' := by
 obtain ⟨o1, vs, e1, c1, d1, f1, z1, _⟩ := I.xok Ha
 obtain rfl : oe = o1 := Option.some.inj (ho.symm.trans e1)
 have new : ExcO false a C dx h' := ⟨_, _, p.exc, by rw [Obj.cls_mapFields]; exact c1, by rw [← d1]; cases oe; rename_i dd sl; cases dd <;> rfl, Obj.data_mapFields f1 _, by simpa using z1, fun z => by cases z⟩
 have nA : ∀ b, H b = none → b ≠ a := fun b n z => by rw [z, Ha] at n; cases n
 have nF : ∀ b u, H b = some u → b ∉ frs X.stack := fun b u e z => by rw [I.stkFree b z] at e; cases e
 have nD : ∀ b u, H b = some u → hd ≠ some b := fun b u e z => by rw [hn b z] at e; cases e
 have kT : ∀ b u o, H b = some u → b ≠ a → s.heap.get? b = some o → h'.get? b = some o := fun b u o e ne q => p.keep b o ne (nF b u e) (nD b u e) q
 have ch : ∀ b, b ∉ hd.toList → hd ≠ some b := fun b nb z => nb (by rw [z]; simp)
 refine ⟨?_, new⟩
 have fr : ∀ b, b ≠ a → (upd H a (xo false a C dx)) b = H b := fun b ne => upd_ne ne
 refine I.step (g' := s.gens) (d' := s.drawn) (t' := s.toks) (ch := hd.toList) (fun b hb => ?_) (fun b o nl nf nc e n => ?_) (fun b o nl hf nc e n => ?_) (fun b o nc e n => ?_) (fun b o nc e => ?_) (fun b xs e => ?_) (fun b o u e => ?_) (fun b ps e => ?_) (fun m hm => ?_) ?_ I.bare
 ·have e : hd = some b := by
   cases hd with
   | none => simp at hb
   | some y => simp at hb; rw [hb]
  exact ⟨.inr (hT b e).1, (hT b e).2.1, (hT b e).2.2.1, (hT b e).2.2.2⟩
 ·exact p.keep b o (nA b n) (fun z => (List.mem_cons.mp (I.stkSub b z)).elim nl nf) (ch b nc) e
 ·by_cases z : b ∈ frs X.stack
  ·exact p.slot b o z (nA b n) (ch b nc) e
  ·exact ⟨o.slots, p.keep b o (nA b n) z (ch b nc) e⟩
 ·rw [fr b (nA b n)]; exact n
 ·by_cases ne : b = a
  ·subst ne; exact ⟨_, p.exc⟩
  ·by_cases z : b ∈ frs X.stack
   ·obtain ⟨sl, q⟩ := p.slot b o z ne (ch b nc) e
    exact ⟨_, q⟩
   ·exact ⟨o, p.keep b o ne z (ch b nc) e⟩
 ·rw [fr b fun z => by rw [z, Ha] at e; cases e]; exact e
 ·rw [fr b fun z => by rw [z, Ha] at e; cases e]; exact e
 ·have ne : b ≠ a := fun z => by rw [z, Ha] at e; cases e
  exact ⟨#[], by rw [fr b ne, e]; simp⟩
 ·obtain ⟨o, es, ep, q, r⟩ := hm
  have nl := nA _ I.free
  have nd : hd ≠ some X.env.locals := fun z => (hT _ z).2.1 rfl
  by_cases z : X.env.locals ∈ frs X.stack
  ·obtain ⟨sl, q'⟩ := p.slot _ o z nl nd q
   exact ⟨_, es, ep, q', r⟩
  ·exact ⟨o, es, ep, p.keep _ o nl z nd q, r⟩
 ·intro b u e
  by_cases ne : b = a
  ·subst ne
   rw [upd_same] at e
   cases e
   exact xo_ok new
  ·rw [fr b ne] at e
   refine (I.hok b u e).stay (fun c v hc q => ?_) (fun c q => ?_) fun c xs q => ?_
   ·rcases hc with z | z
    ·subst z; exact kT _ u v e ne q
    ·exact kT c _ v z (fun y => by rw [y, Ha] at z; cases z) q
   ·rw [fr c fun y => by rw [y, Ha] at q; cases q]; exact q
   ·rw [fr c fun y => by rw [y, Ha] at q; cases q]; exact q
theorem Passed.fly (I : Inv X pins σ H s) (p : Passed (frs X.stack) a oe hd T s.heap h') (Ha : H a = some (xo f a C dx)) (ho : s.heap.get? a = some oe) : Fly s.heap.objs.size a (upd H a (xo false a C dx)) h' := by
 obtain ⟨o1, vs, e1, c1, d1, f1, z1, _⟩ := I.xok Ha
 obtain rfl : oe = o1 := Option.some.inj (ho.symm.trans e1)
 have ne : T ≠ a := fun z => absurd (Nat.lt_of_lt_of_le (z ▸ Heap.lt_size ho) p.above) (Nat.lt_irrefl _)
 obtain ⟨oT, ts, t1, t2, t3⟩ := p.tb
 exact ⟨_, _, T, oT, ts, p.exc, Obj.data_mapFields f1 _, by simp [z1], ne, p.above, by rw [upd_ne ne]; exact I.hok.fresh p.above, t1, t2, t3⟩
def Head (X : Cx) : Prop := X.stack = X.env :: X.outer ∧ X.env.frame = some X.env.locals
theorem pass_here {M : Model} {A : Around} {E : Value → Shared → Prop} {Q : Unit → Shared → Prop} (I : Inv X pins σ H s) (hA : A.frames = X.A.frames) (hh : Head X) (Ha : H a = some (xo f a C dx))
  (hf : f = true ∨ ∃ n, Fly n a H s.heap ∧ ∀ T, n ≤ T → X.s₀.heap.objs.size ≤ T ∧ T ≠ X.env.locals ∧ (∀ x c, X.env.cells.lookup x = some c → c ≠ T) ∧ ∀ q ∈ X.pn ++ pins, q.1 ≠ T)
  (k : ∀ h', Inv X pins σ (upd H a (xo false a C dx)) { s with heap := h' } → Fly s.heap.objs.size a (upd H a (xo false a C dx)) h' → Q () { s with heap := h' }) :
  wpAny M A (noteFrame (.ref a) X.env) (fun _ s' => wpAny M A (setFlight (.ref a) none) Q E s') E s := by
 obtain ⟨o1, vs, e1, c1, d1, f1, z1, fr1⟩ := I.xok Ha
 have frm : A.frames = some (X.env :: X.outer) := by rw [hA, I.ok.frames, hh.1]
 have ffr : s.heap.FunFrames X.base (X.env :: X.outer) := by rw [← hh.1]; exact I.stack
 rcases hf with hf | ⟨n, ⟨o, vs', T₀, oT, ts, q1, q2, q3, q4, q5, q6, q7, q8, q9⟩, hT⟩
 ·refine pass_first frm ffr hh.2 e1 f1 (fr1 hf) fun h' T p => ?_
  rw [← hh.1] at p
  exact k h' (I.passed p Ha e1 (fun _ z => by cases z) fun _ z => by cases z).1 (p.fly I Ha e1)
 ·rw [e1] at q1
  cases q1
  rw [f1] at q2
  cases q2
  refine pass_next frm ffr hh.2 e1 f1 q3 q4 q7 q8 q9 fun h' T p => ?_
  rw [← hh.1] at p
  exact k h' (I.passed p Ha e1 (fun b z => by cases z; exact q6) fun b z => by cases z; exact hT _ q5).1 (p.fly I Ha e1)
theorem flight_off {M : Model} {A : Around} {E : Value → Shared → Prop} {Q : Unit → Shared → Prop} {n : Nat} (I : Inv X pins σ H s) (Ha : H a = some (xo f a C dx))
  (hf : Fly n a H s.heap) (hT : ∀ T, n ≤ T → X.s₀.heap.objs.size ≤ T ∧ T ≠ X.env.locals ∧ (∀ x c, X.env.cells.lookup x = some c → c ≠ T) ∧ ∀ q ∈ X.pn ++ pins, q.1 ≠ T)
  (k : ∀ h', Inv X pins σ H { s with heap := h' } → Fly n a H h' → Q () { s with heap := h' }) : wpAny M A (setFlight (.ref a) none) Q E s := by
 obtain ⟨o, vs, T, oT, ts, q1, q2, q3, q4, q5, q6, q7, q8, q9⟩ := hf
 have sz : 3 < ts.size := (Array.getElem?_eq_some_iff.mp q9).1
 unfold setFlight
 refine wpAny_bind (wpAny_field q1 q2 q3 ?_)
 rw [if_pos (by simp)]
 refine wpAny_setField q7 q8 sz ?_
 have oth : ∀ b, b ≠ T → (s.heap.update T (Obj.mapFields (·.setIfInBounds 3 ((none : Option Addr).elim Value.none fun f => rawInt f)))).get? b = s.heap.get? b := fun b nb => Heap.get?_update_other _ _ (Ne.symm nb)
 refine k _ (I.turned (it := T) (t' := s.toks) (fun b o ne e => (oth b ne).trans e) q6 (hT T q5).2.1 (.inr (hT T q5).1) (hT T q5).2.2.1 (hT T q5).2.2.2) ?_
 exact ⟨o, vs, T, _, _, (oth a (Ne.symm q4)).trans q1, q2, q3, q4, q5, q6, Heap.get?_update_self _ q7 (Obj.isFreed_of_fields (Obj.data_mapFields q8 _)), Obj.data_mapFields q8 _, by simp [sz]⟩
end
def CXR (P : Program) (w : World) : CXT := fun outer H s E e s' => ∃ a C dx H', e = .ref a ∧ s'.os = s.os ∧ AllBare s'.gens ∧ Un (frs outer) [] H H' s.heap s'.heap ∧ HOk P w H' s'.heap ∧
 H' a = some (xo false a C dx) ∧ Fly s.heap.objs.size a H' s'.heap ∧ E (.ref a) dx H'
section
variable {P : Program} {w : World} {K : PySem.W.Frag} {mg : Str → Option Value} {base : Heap} {N : List Str} {qual : Str} {scope : Scope} {fa : Addr} {cd : Value} {A : Around} {outer : List Env} {s₀ : Shared} {H₀ : Hp} {E : XK}
theorem leave_ok {pins : List (Addr × Obj)} {σ : St} {H : Hp} {s : Shared} {f : Bool} {a C : Addr} {dx : Option Addr} (I : Inv (cxOf (CXR P w) P w K mg base N qual scope fa cd A outer s₀ H₀ E) pins σ H s) (Ha : H a = some (xo f a C dx))
  (hf : f = true ∨ ∃ n, Fly n a H s.heap ∧ ∀ T, n ≤ T → s₀.heap.objs.size ≤ T ∧ T ≠ (cxOf (CXR P w) P w K mg base N qual scope fa cd A outer s₀ H₀ E).env.locals ∧
   (∀ x c, (cxOf (CXR P w) P w K mg base N qual scope fa cd A outer s₀ H₀ E).env.cells.lookup x = some c → c ≠ T) ∧ ∀ q ∈ (cxOf (CXR P w) P w K mg base N qual scope fa cd A outer s₀ H₀ E).pn ++ pins, q.1 ≠ T)
  (hE : E (.ref a) dx (upd H a (xo false a C dx))) : (cxOf (CXR P w) P w K mg base N qual scope fa cd A outer s₀ H₀ E).xe (.ref a) s := by
 show wpAny _ _ (leaving _ _) _ _ s
 unfold leaving
 refine wpAny_bind (pass_here I rfl ⟨rfl, rfl⟩ Ha hf fun h' I' fl => ?_)
 exact ⟨a, C, dx, _, rfl, I'.os, I'.bare, I'.base, I'.hok, upd_same, fl.mono I.sz, hE⟩
def Raises (X : Cx) (E : XK) : Prop := ∀ (pins : List (Addr × Obj)) (σ : St) (H : Hp) (s : Shared) (a C : Addr) (dx : Option Addr), Inv X pins σ H s → H a = some (xo true a C dx) → E (.ref a) dx (upd H a (xo false a C dx)) → X.xe (.ref a) s
theorem raises_cx : Raises (cxOf (CXR P w) P w K mg base N qual scope fa cd A outer s₀ H₀ E) E := fun pins σ H s a C dx I Ha hE => leave_ok I Ha (.inl rfl) hE
theorem CXR.after {X : Cx} {pins : List (Addr × Obj)} {σ : St} {H : Hp} {s s' : Shared} {e : Value} {E' : XK} (I : Inv X pins σ H s) (c : CXR X.prog X.w X.stack H s E' e s') :
  ∃ a C dx H', e = .ref a ∧ Inv X pins σ H' s' ∧ H' a = some (xo false a C dx) ∧ Fly s.heap.objs.size a H' s'.heap ∧ E' (.ref a) dx H' := by
 obtain ⟨a, C, dx, H', e, os, bare, un, hok, Ha, fl, hE⟩ := c
 exact ⟨a, C, dx, H', e, I.call' (ch := []) os un hok bare (fun b z => absurd z (by simp)), Ha, fl, hE⟩
end
end L2
namespace L2
open PySem PySem.Spec PyProof.Rows PySem.W PySem.Builtin PySem.Builtin.ObjectAttr
abbrev veM : List Value := [.type "ValueError", .type "Exception", .type "BaseException", .type "object"]
structure XC (K : PySem.W.Frag) (C : Addr) (bm : List Value) : Prop where
 obj : ∃ nm q N bs sn sub ab col dd k0 k1 k2 k3 k5, K.lookup C = some (excClassObj nm q C N bs bm true sn sub ab col dd k0 k1 k2 k3 k5 "ValueError.__new__")
 tl : tailIn K veM bm = true
 rf : ∀ self : Value, refuseLoop self "__setattr__" bm = pure ()
 ga : findIn K (.ref C) "__getattribute__" = some (some (.builtin "BaseException.__getattribute__"))
 gh : findIn K (.ref C) "__getattr__" = some none
 sa : findIn K (.ref C) "__setattr__" = some (some (.builtin "object.__setattr__"))
 cl : findIn K (.ref C) "__class__" = some (some (.builtin "object.__class__"))
 gt : specialIn K (.builtin "object.__class__") "__get__" = some (some (.builtin "getset_descriptor.__get__"))
 tk : takesIn K (.builtin "object.__class__") = some true
namespace XC
variable {K : PySem.W.Frag} {C : Addr} {bm : List Value}
theorem cls (c : XC K C bm) : ∃ cd, clsIn K C = some cd ∧ cd.mro = .ref C :: bm ∧ cd.hasDict = true := by
 obtain ⟨nm, q, N, bs, sn, sub, ab, col, dd, k0, k1, k2, k3, k5, e⟩ := c.obj
 unfold clsIn
 rw [e]
 exact ⟨_, rfl, rfl, rfl⟩
theorem mro (c : XC K C bm) (v : Value) : mroIn K C v = some ((Value.ref C :: bm).contains v) := by
 obtain ⟨cd, e, m, _⟩ := c.cls
 unfold mroIn
 rw [e, Option.bind_some, m]
 rfl
theorem tail (c : XC K C bm) {h : Heap} (X : K.In h) : OwnTail h veM bm := tail_of_in X c.tl
theorem has (c : XC K C bm) {h : Heap} (X : K.In h) {T : String} {b : Bool} (e : veM.contains (.type T) = b) : mroIn K C (.type T) = some b := by
 rw [c.mro, List.contains_cons, (c.tail X).hasType e]
 rfl
theorem hdict (c : XC K C bm) : hasDictIn K C = true := by
 obtain ⟨cd, e, _, d⟩ := c.cls
 unfold hasDictIn
 rw [e]
 exact d
end XC
section
variable {prog : Program} {w : World} {A : Around} {E : Value → Shared → Prop} {s : Shared} {K : PySem.W.Frag} {x C D fI : Addr} {bm bmD : List Value} {ox : Obj} {od : Option Obj} {name : Str} {v : Value}
theorem xattr_by {r : Found} {fill expr : Bool} {tk : Tok} {Q : Value → Shared → Prop} (X : K.In s.heap) (c : XC K C bm) (I : InstAt s.heap x ox C od) (hf : findObj K C od name = some r)
  (h : match r with
   | .value u => handedIn u = true ∧ Q u s
   | .bind g a => wpAny (model prog w) A.in1 (call g [a, .ref x, .ref C]) (fun u s' => wpAny (model prog w) A (handedOut u) Q E s') (fun _ _ => False) s
   | .missing => False) : wpAny (model prog w) A (getAttrBy (.ref x) (.str name tk) fill expr) Q E s := by
 have G := PySem.F.excAttr_ValueError.ga
 have L0 := I.type (M := model prog w)
 have L1 := looks_findIn (M := model prog w) X c.ga
 have L2 := looks_findIn (M := model prog w) X c.gh
 have L3 := looks_find (M := model prog w) X I hf
 have sub : Looks (model prog w) s.heap (isInstance (.ref x) (.type "BaseException")) true := I.type.andThen (looks_mroIn X (c.has X (by decide +kernel)))
 unfold getAttrBy
 refine wpAny_holding (wpAny_bind (L0.here (wpAny_bind (L1.here ?_))))
 dsimp only
 have nob : (Value.builtin "BaseException.__getattribute__" == Value.builtin "object.__getattribute__") = false := by decide +kernel
 rw [nob, Bool.and_false, if_neg Bool.false_ne_true]
 unfold getAttrByItsOwn
 refine wpAny_bind ?_
 show wpAny _ _ (typeLookup (.ref C) "__getattr__") _ _ _
 refine L2.here (wpAny_bind (wpAny_attempt (wpAny_holding ?_)))
 unfold callGetattribute boundAndCalled
 rw [if_neg (by cases expr <;> decide)]
 rw [G.bind]
 refine wpAny_bind (wpAny_pure (wpAny_call (codeAny_call_builtin G.plain PySem.F.entry_bexc_ga (@check_slot (model prog w) _ _ s "BaseException.__getattribute__" "BaseException" "__getattribute__" (.ref x) [.str name tk] [] _ (by decide +kernel) (by decide +kernel) sub (PySem.F.args_bexc_ga _ _) ?_))))
 unfold Builtin.«object.__getattribute__»
 refine wpAny_bind (wpAny_pure (wpAny_bind (wpAny_pure (wpAny_bind (L0.here (wpAny_bind (L3.here ?_)))))))
 cases r with
 | value u =>
  refine wpAny_pure ?_
  show wpAny _ _ (handedOut u) _ _ _
  exact handed_on h.1 h.2
 | bind g a =>
  show wpAny _ _ (bindTo g a (.ref x) (.ref C)) _ _ _
  unfold bindTo
  refine wpAny_bind (wpAny_holding (wpAny_mono h (fun u s' z => wpAny_pure ?_) fun _ _ z => z.elim))
  exact z
 | missing => exact h.elim
theorem xattr {r : Found} {expr : Bool} {Q : Value → Shared → Prop} (X : K.In s.heap) (c : XC K C bm) (I : InstAt s.heap x ox C od) (hf : findObj K C od name = some r)
  (h : match r with
   | .value u => handedIn u = true ∧ Q u { s with toks := s.toks + 1 }
   | .bind g a => wpAny (model prog w) A.in1 (call g [a, .ref x, .ref C]) (fun u s' => wpAny (model prog w) A (handedOut u) Q E s') (fun _ _ => False) { s with toks := s.toks + 1 }
   | .missing => False) : wpAny (model prog w) A (getAttr (.ref x) name expr) Q E s := by
 unfold getAttr
 exact wpAny_bind (wpAny_mkText (xattr_by (s := { s with toks := s.toks + 1 }) X c I hf h))
theorem xclass {Q : Option Value → Shared → Prop} (X : K.In s.heap) (c : XC K C bm) (I : InstAt s.heap x ox C od) (h : Q (some (.ref C)) { s with toks := s.toks + 1 }) : wpAny (model prog w) A (getAttr? (.ref x) "__class__") Q E s := by
 unfold getAttr? getAttrBy?
 refine wpAny_bind (wpAny_mkText (wpAny_bind (wpAny_attempt ?_)))
 have hf : findObj K C od "__class__" = some (.bind (.builtin "getset_descriptor.__get__") (.builtin "object.__class__")) := by
  obtain ⟨cd, e, _⟩ := c.cls
  unfold findObj
  rw [e, Option.bind_some, c.cl, Option.bind_some]
  dsimp only
  rw [c.gt, Option.bind_some]
  dsimp only
  rw [c.tk, Option.bind_some]
 refine xattr_by (s := { s with toks := s.toks + 1 }) X c I hf ?_
 exact wpAny_call (class_get (s := { s with toks := s.toks + 1 }) X I (c.has X (by decide +kernel)) (handed_on rfl (wpAny_pure h)))
theorem kitx_exc (c : XC K C bm) : KitX K (.ref x) (.ref C) (fun h => ∃ ox od, InstAt h x ox C od) where
 ty := fun _ _ _ ⟨_, _, I⟩ => I.type
 it := fun _ _ X _ => by
  obtain ⟨nm, q, N, bs, sn, sub, ab, col, dd, k0, k1, k2, k3, k5, e⟩ := c.obj
  intro A' Q' E' s' k q
  unfold isType loadHead
  exact wpAny_bind (wpAny_loadPart (k _ _ (X _ _ e)) (wpAny_pure q))
 ne := fun h tp dd its n sl X htp => by
  obtain ⟨nm, q, N, bs, sn, sub, ab, col, dd, k0, k1, k2, k3, k5, e⟩ := c.obj
  refine Bool.eq_false_iff.mpr fun q => ?_
  have e' : C = tp := Value.ref.inj (beq_iff_eq.mp q)
  subst e'
  have z := Option.some.inj ((X _ _ e).symm.trans htp)
  injection z with z1
  exact absurd (Value.type.inj z1) (by decide)
 ca := fun X ⟨_, _, I⟩ k => xclass X c I k
theorem xset {vs : Array Value} {Q : Unit → Shared → Prop} (X : K.In s.heap) (c : XC K C bm) (hx : s.heap.get? x = some ox) (hc : ox.cls = .ref C) (hdn : ox.dict = none) (hd : ox.data = .fields vs) (ha : findIn K (.ref C) name = some none)
  (k : ∀ h' tk, (∀ b o, b ≠ x → s.heap.get? b = some o → h'.get? b = some o) → h'.get? x = some { ox with dict := some s.heap.objs.size } → h'.Ns1 s.heap.objs.size (fun y => if y = name then some v else none) → Q () { s with heap := h', toks := tk }) :
  wpAny (model prog w) A (setAttr (.ref x) name v) Q E s := by
 obtain ⟨oc, odi, oda, osl⟩ := ox
 obtain ⟨hp, g, d, t, os⟩ := s
 dsimp only at X hx k
 dsimp only at hc hdn hd
 subst hc hdn hd
 have I : InstAt hp x ⟨.ref C, none, .fields vs, osl⟩ C none := ⟨hx, rfl, rfl, trivial⟩
 obtain ⟨cd, hcd, hm, hdi⟩ := c.cls
 have SF := PySem.F.store_object
 have LC := looks_clsIn (M := model prog w) X hcd
 have sub : Looks (model prog w) hp (isInstance (.ref x) (.type "object")) true := I.type.andThen (looks_mroIn X (c.has X (by decide +kernel)))
 have LM : Looks (model prog w) hp (mroOf (.ref C)) (.ref C :: bm) := hm ▸ LC.andThen .now
 refine set_plain X I c.sa ?_
 refine codeAny_call_builtin SF.slot.plain SF.entry (@check_slot (model prog w) _ _ ⟨hp, g, d, t + 1, os⟩ "object.__setattr__" "object" "__setattr__" (.ref x) [.str name t, v] [] _ SF.kind SF.split sub (SF.args (.ref x) (.str name t) v) ?_)
 rw [osa_eq, refuse_eq]
 refine wpAny_bind (wpAny_bind (I.type.at (wpAny_bind (LM.at ?_))))
 rw [refuseLoop_ref, c.rf]
 refine wpAny_pure (wpAny_bind (I.type.at (wpAny_bind ((looks_findIn X ha).at (wpAny_bind (wpAny_pure ?_))))))
 dsimp only
 unfold storeInOwnDict ownDictForStores instanceDict
 refine wpAny_bind (wpAny_pure ?_)
 rw [if_neg (by simp)]
 refine wpAny_bind (wpAny_bind (wpAny_loadPart hx ?_))
 dsimp only
 refine wpAny_bind (LC.at ?_)
 rw [hdi]
 simp only [Bool.not_true, Bool.false_eq_true, if_false, typeHasDict, Bool.or_self]
 have xs : x ≠ hp.objs.size := Nat.ne_of_lt (Heap.lt_size hx)
 have hx1 : (hp.push { cls := .type "dict", data := .dict #[] }).get? x = some ⟨.ref C, none, .fields vs, osl⟩ := Heap.get?_push_of_some _ hx
 refine wpAny_bind (wpAny_alloc' ?_)
 refine wpAny_bind (wpAny_update' hx1 ?_)
 refine wpAny_pure ?_
 have gd : ((hp.push { cls := .type "dict", data := .dict #[] }).update x fun o => { cls := o.cls, dict := some hp.objs.size, data := o.data, slots := o.slots }).get? hp.objs.size = some { cls := .type "dict", data := .dict #[] } :=
  (Heap.get?_update_ne _ _ _ _ xs.symm).trans (Heap.get?_push_at rfl rfl)
 have nd : ((hp.push { cls := .type "dict", data := .dict #[] }).update x fun o => { cls := o.cls, dict := some hp.objs.size, data := o.data, slots := o.slots }).Ns hp.objs.size (fun _ => none) :=
  ⟨_, #[], _, gd, rfl, fun e he => absurd he (by simp), fun _ => rfl⟩
 show wpAny _ _ (storeInDict hp.objs.size (.str name t) name v) _ _ _
 unfold storeInDict newKeyGuard
 refine wpAny_bind (wpAny_pure (wpAny_bind (wpAny_nsSet1 (Heap.Ns1.of_empty nd) fun g' gn gs => ?_)))
 obtain ⟨oD, eD, pD, qD, dD, cD⟩ := gn.count (Within.cons name v Within.nil)
 refine wpAny_bind (wpAny_lookBehind qD (by rw [dD]; exact pastItsLine_dict (Nat.le_trans cD (by rw [List.length_cons, List.length_nil, sizeLine_eq]; omega))) ?_)
 refine wpAny_pure ?_
 refine k g' _ (fun b o nb e => ?_) ?_ gn
 ·exact (gs.2 b (Nat.ne_of_lt (Heap.lt_size e))).trans ((Heap.get?_update_ne _ _ _ _ nb).trans (Heap.get?_push_of_some _ e))
 ·exact (gs.2 x xs).trans (Heap.get?_update_self _ hx1 rfl)
end
end L2
namespace L2
open PySem PySem.Spec PyProof.Rows PySem.W
section
variable {prog : Program} {w : World} {A : Around} {E : Value → Shared → Prop} {K : PySem.W.Frag} {x C D fI : Addr} {bm bmD : List Value} {ox : Obj} {hp : Heap} {g : Array GenState} {d : Drawn} {t : Nat} {os : OsState}
theorem xinit {vs rest : List Value} {a0 : Value} {Q : Value → Shared → Prop} {arr : Array Value} (X : K.In hp) (c : XC K C bm) (hx : hp.get? x = some ox) (hc : ox.cls = .ref C) (hd : ox.data = .fields arr) (h0 : arr[0]? = some a0) (hr : rest.length ≤ sizeLine)
  (k : ∀ h', (∀ b o, b ≠ x → hp.get? b = some o → h'.get? b = some o) → h'.get? x = some (ox.mapFields (·.setIfInBounds 0 (.ref hp.objs.size))) → Q .none ⟨h', g, d, t, os⟩) :
  wpAny (model prog w) A (call (.builtin "ValueError.__init__") (.ref x :: rest)) Q E ⟨hp, g, d, t, os⟩ := by
 have G := PySem.F.excBase_ValueError
 obtain ⟨nm, q, N, bs, sn, sub, ab, col, dd, k0, k1, k2, k3, k5, e⟩ := c.obj
 refine wpAny_call (codeAny_call_builtin G.init.plain G.initEntry (wpAny_check_init_subT G (c.tail X) (X _ _ e) hx hc ?_))
 have hx1 := Heap.get?_push_of_some (h := hp) { cls := .type "tuple", data := .seq rest.toArray } hx
 have sz : 0 < arr.size := (Array.getElem?_eq_some_iff.mp h0).1
 unfold Builtin.«BaseException.__init__» Builtin.BaseException.bexcPut
 repeat (any_goals (first | assumption | with_reducible refine wpAny_field hx1 hd h0 ?_ | with_reducible refine wpAny_setField hx1 hd sz ?_ | wp_step))
 have fin : Q .none ⟨(hp.push { cls := .type "tuple", data := .seq rest.toArray }).update x (Obj.mapFields (·.setIfInBounds 0 (.ref hp.objs.size))), g, d, t, os⟩ := by
  refine k _ (fun b o nb q => ?_) (Heap.get?_update_self _ hx1 (Obj.isFreed_of_fields (Obj.data_mapFields hd _)))
  rw [Heap.get?_update_other _ _ (Ne.symm nb)]
  exact Heap.get?_push_of_some _ q
 cases a0 <;> (dsimp only; repeat (any_goals (first | assumption | wp_step)))
theorem xmake_in {rest : List Value} {Q : Fin → Shared → Prop} (X : K.In hp) (c : XC K C bm) (hi : findIn K (.ref C) "__init__" = some (some (.ref fI))) (hf : isFn K (.ref fI) = true) (hr : rest.length ≤ sizeLine)
  (k : wpAny (model prog w) A (call (.ref fI) (.ref (hp.objs.size + 1) :: rest)) (fun r s' => r = .none ∧ Q (.done (.ret (.ref (hp.objs.size + 1)))) s') E
   ⟨(hp.push { cls := .type "tuple", data := .seq rest.toArray }).push { cls := .ref C, data := .fields #[.ref hp.objs.size, .none, .none, .none, .bool false, .none] }, g, d, t, os⟩) :
  wpAny (model prog w) A (Builtin.«type.__call__» ⟨.ref C :: rest, []⟩) Q E ⟨hp, g, d, t, os⟩ := by
 have G := PySem.F.excBase_ValueError
 obtain ⟨nm, q, N, bs, sn, sub, ab, col, dd, k0, k1, k2, k3, k5, e⟩ := c.obj
 have oC := X _ _ e
 have kp : ∀ b o, hp.get? b = some o → ((hp.push { cls := .type "tuple", data := .seq rest.toArray }).push { cls := .ref C, data := .fields #[.ref hp.objs.size, .none, .none, .none, .bool false, .none] }).get? b = some o :=
  fun b o q => Heap.get?_push_of_some _ (Heap.get?_push_of_some _ q)
 have X1 := X.keeps kp
 have o1 := kp _ _ oC
 have oe : ((hp.push { cls := .type "tuple", data := .seq rest.toArray }).push { cls := .ref C, data := .fields #[.ref hp.objs.size, .none, .none, .none, .bool false, .none] }).get? (hp.objs.size + 1) =
  some { cls := .ref C, data := .fields #[.ref hp.objs.size, .none, .none, .none, .bool false, .none] } := by heap_get
 have self : (Value.ref C :: bm).contains (.ref C) = true := by simp
 repeat (first | with_reducible refine wpAny_loadPart_at oC ?_ | with_reducible refine wpAny_madeBy_exc oC ?_ | wp_step)
 refine codeAny_call_builtin_code (Code.quiet_builtin _ G.quiet) (wpAny_check_new_subT G (c.tail X) oC (codeAny_exc_new_subT G (c.tail X) oC ?_ hr))
 show wpAny _ _ _ _ _ _
 unfold isInstance
 repeat (first | with_reducible refine wpAny_loadPart_at oe ?_ | (with_reducible refine wpAny_isSubtype_exc o1 ?_; rw [self]) | wp_step)
 show wpAny _ _ (typeLookup (.ref C) _) _ _ _
 refine (looks_findIn X1 hi).at (wpAny_holding (wpAny_bind ?_))
 unfold bindSpecial
 refine wpAny_bind ((looks_typeIn X1 (beq_iff_eq.mp hf)).at ?_)
 rw [if_pos (by decide)]
 refine wpAny_pure (wpAny_bind (wpAny_mono k (fun r s' z => ?_) fun _ _ z => z))
 obtain ⟨rfl, z⟩ := z
 wp_walk
 exact z
theorem xmake {rest : List Value} {Q : Value → Shared → Prop} (X : K.In hp) (c : XC K C bm) (hi : findIn K (.ref C) "__init__" = some (some (.ref fI))) (hf : isFn K (.ref fI) = true) (hr : rest.length ≤ sizeLine)
  (k : wpAny (model prog w) (A.under (.builtin "type.__call__" ⟨.ref C :: rest, []⟩)) (call (.ref fI) (.ref (hp.objs.size + 1) :: rest)) (fun r s' => r = .none ∧ Q (.ref (hp.objs.size + 1)) s') E
   ⟨(hp.push { cls := .type "tuple", data := .seq rest.toArray }).push { cls := .ref C, data := .fields #[.ref hp.objs.size, .none, .none, .none, .bool false, .none] }, g, d, t, os⟩) :
  wpAny (model prog w) A (call (.ref C) rest) Q E ⟨hp, g, d, t, os⟩ := by
 obtain ⟨nm, q, N, bs, sn, sub, ab, col, dd, k0, k1, k2, k3, k5, e⟩ := c.obj
 have oC := X _ _ e
 have u1 := tc_lookup
 have u2 := tc_bind (.ref C)
 have u3 : (⟨hp, g, d, t, os⟩ : Shared).TypeIs (.ref C) "type" := ⟨_, oC, rfl⟩
 refine wpAny_call (codeAny_of_tree ?_)
 show wpAny _ _ (callAny (.ref C) ⟨rest, []⟩) _ _ _
 repeat (any_goals (first | assumption | with_reducible refine wpAny_loadPart_at oC ?_ | wp_step))
 refine ⟨rfl, ?_⟩
 exact codeAny_call_builtin_at (Code.quiet_builtin _ (by decide +kernel)) entry_typeCall (wpAny_check_type_call_sub oC (xmake_in X c hi hf hr k))
theorem xraise {env : Env} {s : Shared} {y : Sem Value} {Q : Flow → Shared → Prop} (hh : A.handled = none)
  (k : wpAny (model prog w) A y (fun v s₁ => ∃ e oe vs, v = .ref e ∧ K.In s₁.heap ∧ XC K C bm ∧ s₁.heap.get? e = some oe ∧ oe.cls = .ref C ∧ oe.data = .fields vs ∧ vs[1]? = some .none ∧ E (.ref e) s₁) E s) :
  wpAny (model prog w) A (raiseStmt env (some y) none) Q E s := by
 unfold raiseStmt
 refine wpAny_bind (wpAny_mono k (fun v s₁ z => ?_) fun _ _ z => z)
 obtain ⟨e, oe, vs, rfl, X, c, he, hc, hd, h1, hE⟩ := z
 obtain ⟨hp, g, d, tk, os⟩ := s₁
 obtain ⟨nm, q, N, bs, sn, sub, ab, col, dd, k0, k1, k2, k3, k5, lk⟩ := c.obj
 have oC := X _ _ lk
 obtain ⟨oc, odi, oda, osl⟩ := oe
 dsimp only at hc hd
 subst hc hd
 have cB : (Value.ref C :: bm).contains (.type "BaseException") = true := by rw [List.contains_cons, (c.tail X).hasType (b := true) (by decide +kernel), Bool.or_true]
 repeat (first | with_reducible refine wpAny_loadPart_at he ?_ | with_reducible refine wpAny_loadPart_at oC ?_ | (with_reducible refine wpAny_isSubtype_exc oC ?_; rw [cB]) | with_reducible refine wpAny_field he rfl h1 ?_ | wp_step)
 exact wpAny_raiseNew_none hh hE
theorem xmatch {Q : Bool → Shared → Prop} {e : Addr} {oe : Obj} (X : K.In hp) (c : XC K C bm) (cD : XC K D bmD) (he : hp.get? e = some oe) (hc : oe.cls = .ref C) (hq : Q ((Value.ref C :: bm).contains (.ref D)) ⟨hp, g, d, t, os⟩) :
  wpAny (model prog w) A (excMatches (.ref e) (.ref D)) Q E ⟨hp, g, d, t, os⟩ := by
 obtain ⟨nm, q, N, bs, sn, sub, ab, col, dd, k0, k1, k2, k3, k5, lk⟩ := c.obj
 obtain ⟨nm', q', N', bs', sn', sub', ab', col', dd', k0', k1', k2', k3', k5', lk'⟩ := cD.obj
 have oC := X _ _ lk
 have oD := X _ _ lk'
 have dB : (Value.ref D :: bmD).contains (.type "BaseException") = true := by rw [List.contains_cons, (cD.tail X).hasType (b := true) (by decide +kernel), Bool.or_true]
 have nt := tc_notTuple
 unfold excMatches
 repeat (first | (with_reducible refine wpAny_loadPart_at he ?_; rw [hc]) | with_reducible refine wpAny_loadPart_at oD ?_ | (with_reducible refine wpAny_isSubtype_exc oD ?_; rw [dB]) | with_reducible refine wpAny_isSubtype_exc oC ?_ | wp_step)
 cases hb : (Value.ref C :: bm).contains (.ref D) <;> (rw [hb] at hq; wp_walk; exact hq)
end
end L2
namespace L2
open PySem PySem.Spec PyProof.Rows
def nsO (o : Obj) : Bool := match o with
 | ⟨_, _, .dict es _, _⟩ => es.all fun e => match e.key with | .str _ _ => true | _ => false
 | _ => false
theorem nsOk_of {K : PySem.W.Frag} {N : Addr} {o : Obj} (l : K.lookup N = some o) (h : nsO o = true) : PySem.W.nsOkIn K N = true := by
 unfold PySem.W.nsOkIn
 rw [l]
 obtain ⟨oc, od, da, sl⟩ := o
 cases da <;> first | exact h | cases h
theorem tail0 {K : PySem.W.Frag} : PySem.W.tailIn K veM veM = true := by
 unfold PySem.W.tailIn
 simp
theorem tail1 {K : PySem.W.Frag} {D N : Addr} {oc : Value} {od : Option Addr} {cd : ClassData} {sl : Array (Option Value)} (l : K.lookup D = some ⟨oc, od, .cls cd, sl⟩) (e : cd.ns = N) (ok : PySem.W.nsOkIn K N = true) (ni : PySem.W.nsIn K N "__init__" = some none) :
  PySem.W.tailIn K veM (.ref D :: veM) = true := by
 unfold PySem.W.tailIn
 dsimp only
 rw [l]
 dsimp only
 rw [e, ok, ni, tail0]
 simp
theorem refuse0 (self : Value) : refuseLoop self "__setattr__" veM = pure () := PySem.F.store_ValueError.passes self
theorem refuse1 {D : Addr} (self : Value) : refuseLoop self "__setattr__" (.ref D :: veM) = pure () := by rw [refuseLoop_ref]; exact refuse0 self
structure XM (K : PySem.W.Frag) (C fI : Addr) : Prop where
 init : PySem.W.findIn K (.ref C) "__init__" = some (some (.ref fI))
 fn : PySem.W.isFn K (.ref fI) = true
 kp : PySem.W.keepIn K (.ref C) = true
structure XI (K : PySem.W.Frag) (D : Addr) : Prop where
 ga : PySem.W.specialIn K (.ref D) "__getattribute__" = some (some (.builtin "type.__getattribute__"))
 rd : PySem.W.readsIn K D (.type "type") = true
 fi : PySem.W.findCls K (.ref D) (.type "type") "__init__" = some (.val (.builtin "ValueError.__init__"))
section
variable {X : Cx} {pins : List (Addr × Obj)} {σ : St} {H : Hp} {s : Shared} {a C D dx : Addr} {bm bmD : List Value} {f : Bool} {od : Option Addr}
theorem ExcO.inst {h : Heap} (x : ExcO f a C none h) : ∃ ox, PySem.W.InstAt h a ox C none := by
 obtain ⟨o, vs, e1, e2, e3, e4, _⟩ := x
 refine ⟨o, e1, e2, ?_, ?_⟩
 ·unfold PySem.W.notCls; rw [e4]
 ·rw [e3]; trivial
theorem Inv.xinst (I : Inv X pins σ H s) (Ha : H a = some (xo f a C od)) (hd : ∀ dx, od = some dx → ∃ fs, H dx = some (.xd fs)) : ∃ ox od', PySem.W.InstAt s.heap a ox C od' := by
 cases od with
 | none =>
  obtain ⟨ox, J⟩ := (I.xok Ha).inst
  exact ⟨ox, none, J⟩
 | some dx =>
  obtain ⟨fs, Hd⟩ := hd dx rfl
  obtain ⟨mA, n, _⟩ := (show ObjOk X.prog X.w H s.heap dx (.xd fs) from I.hok dx _ Hd)
  obtain ⟨o', ho, _⟩ := lookIn_ns n
  obtain ⟨o, vs, e1, e2, e3, e4, _⟩ := I.xok Ha
  refine ⟨o, some o', e1, e2, ?_, ?_⟩
  ·unfold PySem.W.notCls; rw [e4]
  ·rw [e3]; exact ho
end
def tXF (K : PySem.W.Frag) (ta : TE) (n : Str) : TE := fun σ H Q => ta σ H fun x H1 => ∃ (a C dx : Addr) (bm : List Value) (f : Bool) (fs : List (Str × V)) (v : V), x = .ref a ∧ H1 a = some (xo f a C (some dx)) ∧ H1 dx = some (.xd fs) ∧ XC K C bm ∧
 PySem.W.findIn K (.ref C) n = some none ∧ fs.lookup n = some v ∧ Q v H1
section
variable {X : Cx} {e : Expr} {n : Str} {pos : Pos} {ta : TE}
theorem pe_xf (he : PE X e ta) (hb : attributeBase e n X.env (eval e X.env) = eval e X.env) : PE X (.Attribute e n pos) (tXF X.K ta n) := by
 intro pins s σ H Q I h
 refine attr_of hb (thn (he pins s σ H _ I h) fun u s1 ⟨x, H1, I1, rx, a, C, dx, bm, f, fs, v, ex, Ha, Hd, c, hn, l, q⟩ => ?_)
 subst ex
 obtain rfl : u = Value.ref a := rx
 obtain ⟨mA, ns, r⟩ := (show ObjOk X.prog X.w H1 s1.heap dx (.xd fs) from I1.hok dx _ Hd)
 obtain ⟨o', ho, hl⟩ := lookIn_ns ns
 obtain ⟨o, vs, e1, e2, e3, e4, _⟩ := I1.xok Ha
 have J : PySem.W.InstAt s1.heap a o C (some o') := ⟨e1, e2, by unfold PySem.W.notCls; rw [e4], by rw [e3]; exact ho⟩
 have rn := r n
 rw [l] at rn
 cases em : mA n with
 | none => rw [em] at rn; exact (show False from rn).elim
 | some u =>
  rw [em] at rn
  exact xattr I1.kIn c J (PySem.W.findObj_own c.hdict hn rfl (by rw [hl, em])) ⟨handed_of rn, ⟨v, H1, I1.tok _, rn, q⟩⟩
end
def clsV : V → Value
 | .ref D => .ref D
 | .ty T => .type T
 | _ => .none
def rIsx (K : PySem.W.Frag) : List V → Hp → VK → Prop := fun xs H Q => ∃ (a C : Addr) (od : Option Addr) (bm : List Value) (f b : Bool) (cv : V), xs = [.ref a, cv] ∧ H a = some (xo f a C od) ∧ (∀ dx, od = some dx → ∃ fs, H dx = some (.xd fs)) ∧ XC K C bm ∧
 PySem.W.kitOne K (.ref C) (clsV cv) = some b ∧ Q (.bl b) H
theorem call_isx {X : Cx} : CallR X (.builtin "isinstance") (rIsx X.K) := by
 intro pins s σ H xs us Q I r h
 obtain ⟨a, C, od, bm, f, b, cv, rfl, Ha, hd, c, e, q⟩ := h
 obtain ⟨u, w', rfl, ru, rw'⟩ := vals2 r
 cases (show u = Value.ref a from ru)
 obtain ⟨ox, od', J⟩ := I.xinst Ha hd
 have ew : w' = clsV cv := by
  cases cv with
  | ref D => exact rw'
  | ty T => exact rw'
  | non => exact absurd e (by simp [clsV, PySem.W.kitOne, PySem.W.kitCls])
  | bl _ => exact absurd e (by simp [clsV, PySem.W.kitOne, PySem.W.kitCls])
  | int _ => exact absurd e (by simp [clsV, PySem.W.kitOne, PySem.W.kitCls])
  | str _ => exact absurd e (by simp [clsV, PySem.W.kitOne, PySem.W.kitCls])
  | byt _ => exact absurd e (by simp [clsV, PySem.W.kitOne, PySem.W.kitCls])
  | flt _ => exact absurd e (by simp [clsV, PySem.W.kitOne, PySem.W.kitCls])
 subst ew
 exact PySem.W.kia_one (kitx_exc c) I.kIn ⟨ox, od', J⟩ e (fun z => nomatch z) fun tk => ⟨.bl b, H, I.tok tk, rfl, q⟩
theorem subC {K : PySem.W.Frag} {C : Addr} {bm : List Value} (c : XC K C bm) (v : Value) : PySem.W.subIn K (.ref C) v = some ((Value.ref C :: bm).contains v) := by
 have e := c.mro v
 unfold PySem.W.subIn
 exact e
theorem kit_own {K : PySem.W.Frag} {C D : Addr} {bm bmD : List Value} (c : XC K C bm) (cD : XC K D bmD) : PySem.W.kitOne K (.ref C) (.ref D) = some ((Value.ref C :: bm).contains (.ref D)) := by
 unfold PySem.W.kitOne
 by_cases z : (Value.ref C == Value.ref D) = true
 ·rw [if_pos z, beq_iff_eq.mp z]
  simp
 ·rw [if_neg z]
  obtain ⟨nm, q, N, bs, sn, sub, ab, col, dd, k0, k1, k2, k3, k5, e⟩ := cD.obj
  obtain ⟨cd, h1, _⟩ := cD.cls
  have h2 : PySem.W.typeIn K (.ref D) = some (.type "type") := by
   show Option.map (fun o : Obj => o.cls) (K.lookup D) = _
   rw [e]
   rfl
  show (if ((PySem.W.clsIn K D).isSome && PySem.W.typeIn K (.ref D) == some (.type "type")) = true then PySem.W.subIn K (.ref C) (.ref D) else none) = _
  rw [h1, h2, if_pos (by simp)]
  exact subC c _
theorem kit_ve {K : PySem.W.Frag} {C : Addr} {bm : List Value} {h : Heap} (X : K.In h) (c : XC K C bm) : PySem.W.kitOne K (.ref C) (.type "ValueError") = some true := by
 unfold PySem.W.kitOne
 rw [if_neg (by simp)]
 unfold PySem.W.kitCls
 dsimp only
 rw [if_pos (by decide +kernel), subC c, List.contains_cons, (c.tail X).hasType (b := true) (by decide +kernel), Bool.or_true]
theorem bits_show : ∀ {ns : List Int}, (∀ n ∈ ns, n = 0 ∨ n = 1) → PyData.showableAll (ns.map PyData.int) = true ∧ PyData.hasDictAll (ns.map PyData.int) = false ∧ PyData.depthAll (ns.map PyData.int) = 0 ∧
  ((PyData.shownAll (ns.map PyData.int)).map (·.length)).sum = ns.length ∧ (PyData.shownAll (ns.map PyData.int)).length = ns.length
 | [], _ => by simp [PyData.showableAll, PyData.hasDictAll, PyData.depthAll, PyData.shownAll]
 | n :: ns, h => by
  obtain ⟨h1, h2, h3, h4, h5⟩ := bits_show (ns := ns) fun m hm => h m (List.mem_cons_of_mem _ hm)
  have z := h n List.mem_cons_self
  refine ⟨?_, ?_, ?_, ?_, ?_⟩
  ·simp only [List.map_cons, PyData.showableAll, PyData.showable, h1, Bool.and_true]
   rcases z with rfl | rfl <;> decide
  ·simp only [List.map_cons, PyData.hasDictAll, PyData.hasDict, h2, Bool.or_false]
  ·simp only [List.map_cons, PyData.depthAll, PyData.depth, h3, Nat.max_self]
  ·simp only [List.map_cons, PyData.shownAll, List.sum_cons, h4, List.length_cons, PyData.shown]
   have e : (Str.ofString (toString n)).length = 1 := by rcases z with rfl | rfl <;> decide
   rw [e]
   omega
  ·simp only [List.map_cons, PyData.shownAll, List.length_cons, h5]
theorem reads_ints {h : Heap} : ∀ {ns : List Int} {us : List Value}, Vals (ns.map V.int) us → ReadsAll h us (ns.map PyData.int) []
 | [], _, r => by cases r; exact .nil
 | n :: ns, _, r => by
  cases r with
  | cons r1 rt =>
   obtain ⟨t, rfl⟩ := r1
   exact .cons (.int n t) (reads_ints rt)
def okFmt (K : PySem.W.Frag) (v : V) (H : Hp) : Prop := (∃ y : Str, v = .str y ∧ y.length ≤ 100000) ∨ ∃ (t : Addr) (ns : List Int), v = .ref t ∧ SqT K H t (ns.map V.int) ∧ ns.length ≤ 100000 ∧ ∀ n ∈ ns, n = 0 ∨ n = 1
def tFmt (K : PySem.W.Frag) (te : TE) : TE := fun σ H Q => te σ H fun v H1 => okFmt K v H1 ∧ ∀ z, Q (.str z) H1
section
variable {X : Cx} {k : Nat} {e : Expr} {te : TE} {a b : Str} {j j' : Nat} {p1 p2 p3 pos : Pos}
theorem fmt_ok {pins : List (Addr × Obj)} {σ : St} {H : Hp} {s : Shared} {v : V} {u : Value} {E : Value → Shared → Prop} {Q : Value → Shared → Prop} (hr : Room k X.A) (I : Inv X pins σ H s) (rv : RelV v u) (ok : okFmt X.K v H)
  (q : ∀ (y : Str) (t : Tok) (s' : Shared), y.length ≤ 400000 → Inv X pins σ H s' → Q (.str y t) s') : wpAny (model X.prog X.w) X.A (formatField u Str.empty) Q E s := by
 rcases ok with ⟨y, rfl, hy⟩ | ⟨t, ns, rfl, sq, hl, hb⟩
 ·obtain ⟨t, rfl⟩ := rv
  exact formatField_str (fun t' tk => q y t' _ (by omega) (I.tok tk)) (by rw [sizeLine_eq]; omega)
 ·cases (show u = Value.ref t from rv)
  obtain ⟨its, r, ⟨o, e1, e2, n, e3⟩, _⟩ := I.tuple sq
  obtain ⟨h1, h2, h3, h4, h5⟩ := bits_show hb
  have rd : Reads s.heap (.ref t) (.tuple (ns.map PyData.int)) [] := .tuple e1 e2 e3 (reads_ints (by simpa using r))
  have len : (PyData.shown (.tuple (ns.map PyData.int))).length ≤ 400000 := by
   simp only [PyData.shown]
   refine Nat.le_trans (tupleText_len_le _) ?_
   rw [h4, h5]
   omega
  refine formatField_of_reads rd (by simp only [PyData.showable]; exact h1) (fun z => by simp only [PyData.hasDict, h2] at z; cases z) hr.gd (by simp only [PyData.depth, h3]; have := hr.units; omega) (fun _ _ z => z) (fun h' u tk kp => q _ u _ len (I.kept kp)) (Nat.le_trans len (by rw [sizeLine_eq]; omega))
theorem pe_fmt3 (he : PE X e te) (hr : Room k X.A) (ha : a.length ≤ 1000) (hb : b.length ≤ 1000) : PE X (.JoinedStr [.Constant (.str a) j p1, .FormattedValue e (-1) none p2, .Constant (.str b) j' p3] pos) (tFmt X.K te) := by
 intro pins s σ H Q I h
 refine JoinedStr_many ?_
 have z1 : (Str.empty ++ a).length = a.length := by rw [strLen_append]; show 0 + a.length = a.length; omega
 refine joinParts_cons (Calls.Constant_str ⟨by rw [z1, sizeLine_eq]; omega, ?_⟩)
 refine joinParts_cons (FormattedValue_plain (thn (he pins _ σ H _ (I.tok _) h) fun u s1 ⟨v, H1, I1, rv, ok, q⟩ => ?_))
 refine fmt_ok hr I1 rv ok fun y t s2 hy I2 => ?_
 have z2 : (Str.empty ++ a ++ y).length = a.length + y.length := by rw [strLen_append, z1]
 refine ⟨by rw [z2, sizeLine_eq]; omega, ?_⟩
 have z3 : (Str.empty ++ a ++ y ++ b).length = a.length + y.length + b.length := by rw [strLen_append, z2]
 exact joinParts_cons (Calls.Constant_str ⟨by rw [z3, sizeLine_eq]; omega, joinParts_nil ⟨.str _, H1, (I2.tok _).tok _, ⟨_, rfl⟩, q _⟩ (by rw [z3, sizeLine_eq]; omega)⟩)
end
def tXI (K : PySem.W.Frag) (t : TA) : TE := fun σ H Q => t σ H fun vs H1 => ∃ (a C : Addr) (od : Option Addr) (bm : List Value) (rest : List V), vs = .ref a :: rest ∧ rest.length ≤ 1000 ∧ H1 a = some (xo true a C od) ∧ XC K C bm ∧ Q .non H1
section
variable {X : Cx} {D : Addr} {x : Str} {p pos apos : Pos} {e : Expr} {es : List Expr} {t : TA}
theorem Inv.xwrite {pins : List (Addr × Obj)} {σ : St} {H : Hp} {s : Shared} {h' : Heap} {t' : Nat} {a C C' : Addr} {f f' : Bool} {od od' : Option Addr} (I : Inv X pins σ H s) (Ha : H a = some (xo f a C od)) (k : ∀ b o, b ≠ a → s.heap.get? b = some o → h'.get? b = some o) (new : ExcO f' a C' od' h') :
  Inv X pins σ (upd H a (xo f' a C' od')) { s with heap := h', toks := t' } :=
 I.write (x := a) (e := a) (o := xo f' a C' od') (h' := h') (t' := t') (by rw [Ha]; trivial) (.inl rfl) k (let ⟨o, _, e, _⟩ := new; ⟨o, e⟩) (xo_ok new)
theorem upd_self {H : Hp} {a : Addr} {o : HO} (Ha : H a = some o) : upd H a o = H := by
 funext b
 by_cases z : b = a
 ·subst z; rw [upd_same, Ha]
 ·rw [upd_ne z]
theorem pe_xi {pl : Sem Bool} (cD : XI X.K D) (hg : Gl X x) (hm : X.mg x = some (.ref D)) (ha : PA X (e :: es) t) (hdb : (x == ("__debug__" : Str)) = false := by decide)
  (hst : starEach (e :: es) X.env = (false, eval e X.env) :: starEach es X.env := by rfl) (hpl : (backTo pos (starEach es X.env)).any (·.1) = false := by rfl)
  (ht : eval (.Call (.Attribute (.Name x p) "__init__" apos) (e :: es) [] pos) X.env = (do
   let ov ← eval (.Name x p) X.env
   standAt apos.atName
   let (f, first) ← holding [ov] (getMethod ov "__init__" pl)
   callWith pos f first (backTo pos (starEach (e :: es) X.env)) (backToKw pos (keywordEach [] X.env))) := by rfl) :
  PE X (.Call (.Attribute (.Name x p) "__init__" apos) (e :: es) [] pos) (tXI X.K t) := by
 intro pins s σ H Q I h
 refine PySem.W.methodCall_KW (pl := pl) (ld_glob I hg hm ?_ hdb) ht
 refine PySem.W.method_cls I.kIn cD.ga (PySem.W.cls_value I.kIn cD.rd cD.fi rfl ?_)
 refine callWith_builtin1 (thn (ha pos pins _ σ H _ (I.tok _) h) fun us s1 ⟨vs, H1, I1, r1, a, C, od, bm, rest, ev, hl, Ha, c, q⟩ => ?_) hst hpl
 subst ev
 obtain ⟨u, us', eu, ru, rt⟩ : ∃ u us', us = u :: us' ∧ RelV (.ref a) u ∧ Vals rest us' := by
  cases r1 with
  | cons ru rt => exact ⟨_, _, rfl, ru, rt⟩
 subst eu
 ·cases (show u = Value.ref a from ru)
  obtain ⟨o, vs', e1, e2, e3, e4, e5, e6⟩ := I1.xok Ha
  have e0 : ∃ a0, vs'[0]? = some a0 := ⟨vs'[0]'(by omega), by simp⟩
  obtain ⟨a0, e0⟩ := e0
  have hl' : us'.length ≤ 1000 := by rw [← rt.length]; exact hl
  obtain ⟨hp, g, d, tk, os⟩ := s1
  refine xinit (vs := []) I1.kIn c e1 e2 e4 e0 (by rw [sizeLine_eq]; omega) fun h' k ex => ?_
  have new : ExcO true a C od h' := ⟨_, _, ex, by rw [Obj.cls_mapFields]; exact e2, by rw [← e3]; cases o; rename_i dd sl; cases dd <;> rfl, Obj.data_mapFields e4 _, by simpa using e5, fun _ => by
   rw [Array.getElem?_setIfInBounds_ne (by decide)]; exact e6 rfl⟩
  have I2 := I1.xwrite (t' := tk) Ha k new
  rw [upd_self Ha] at I2
  exact ⟨.non, H1, I2, rfl, q⟩
end
def sXF (K : PySem.W.Frag) (ta tv : TE) (n : Str) : TS := fun D σ H => tv σ H fun y H1 => ta σ H1 fun x H2 => ∃ (a C : Addr) (bm : List Value), x = .ref a ∧ H2 a = some (xo true a C none) ∧ XC K C bm ∧ PySem.W.findIn K (.ref C) n = some none ∧
 ∀ dx, H2 dx = none → dx ≠ a → D.nx σ (upd (upd H2 a (xo true a C (some dx))) dx (.xd [(n, y)]))
section
variable {X : Cx} {o value : Expr} {n : Str} {pos pos' : Pos} {ta tv : TE}
theorem ps_xf (ha : PE X o ta) (hv : PE X value tv) (hs : swapsWith value (some (.Attribute o n pos')) pos.line X.env = pure false) : PS X (.Assign [.Attribute o n pos'] value pos) (sXF X.K ta tv n) := by
 intro pins s σ H D I h
 refine plainObj_wpAny_Assign_Attribute (thn (hv pins s σ H _ I h) fun u s1 ⟨y, H1, I1, ry, q⟩ => thn (ha pins s1 σ H1 _ I1 q) fun ov s2 ⟨x, H2, I2, rx, a, C, bm, ex, Ha, c, hn, k⟩ => ?_) hs
 subst ex
 obtain rfl : ov = Value.ref a := rx
 obtain ⟨ob, vs, e1, e2, e3, e4, e5, e6⟩ := I2.xok Ha
 refine xset I2.kIn c e1 e2 e3 e4 hn fun h' tk kp ex ns => ?_
 have ne : s2.heap.objs.size ≠ a := Nat.ne_of_gt (Heap.lt_size e1)
 have new : ExcO true a C (some s2.heap.objs.size) h' := ⟨_, vs, ex, e2, rfl, e4, e5, e6⟩
 have fr := I2.hok.fresh (Nat.le_refl s2.heap.objs.size)
 have nA : ∀ b, H2 b = none → b ≠ a := fun b z w => by rw [w, Ha] at z; cases z
 have nT : ∀ b u, H2 b = some u → b ≠ s2.heap.objs.size := fun b u z w => by rw [w, fr] at z; cases z
 have at_ : ∀ b, b ≠ a → b ≠ s2.heap.objs.size → (upd (upd H2 a (xo true a C (some s2.heap.objs.size))) s2.heap.objs.size (.xd [(n, y)])) b = H2 b := fun b w1 w2 => by rw [upd_ne w2, upd_ne w1]
 have xd : ObjOk X.prog X.w (upd (upd H2 a (xo true a C (some s2.heap.objs.size))) s2.heap.objs.size (.xd [(n, y)])) h' s2.heap.objs.size (.xd [(n, y)]) := by
  refine ⟨_, ns, fun m => ?_⟩
  by_cases z : m = n
  ·subst z
   rw [if_pos rfl]
   show RelO (List.lookup m [(m, y)]) (some u)
   simp only [List.lookup, beq_self_eq_true]
   exact ry
  ·rw [if_neg z]
   show RelO (List.lookup m [(n, y)]) none
   have zb : (m == n) = false := beq_eq_false_iff_ne.mpr z
   simp only [List.lookup, zb]
   trivial
 refine ⟨σ, _, I2.un (h' := h') (t' := tk) ⟨fun b o z w _ _ => kp b o (nA b w) z, fun b o z w _ _ => ⟨o.slots, kp b o (nA b w) z⟩, fun b o z w _ => ?_, fun b o z _ => ?_, fun b xs z => ?_, fun b o u' z => ?_, fun b ps z => ?_⟩ fun b ob' z => ?_, k s2.heap.objs.size fr ne⟩
 ·rw [at_ b (nA b w) (Nat.ne_of_lt (Heap.lt_size z))]; exact w
 ·by_cases w : b = a
  ·subst w; exact ⟨_, ex⟩
  ·exact ⟨o, kp b o w z⟩
 ·rw [at_ b (fun w => by rw [w, Ha] at z; cases z) (nT b _ z)]; exact z
 ·rw [at_ b (fun w => by rw [w, Ha] at z; cases z) (nT b _ z)]; exact z
 ·have w : b ≠ a := fun w => by rw [w, Ha] at z; cases z
  exact ⟨#[], by rw [at_ b w (nT b _ z), z]; simp⟩
 ·by_cases w : b = s2.heap.objs.size
  ·subst w
   rw [upd_same] at z
   cases z
   exact xd
  ·rw [upd_ne w] at z
   by_cases w1 : b = a
   ·subst w1
    rw [upd_same] at z
    cases z
    exact xo_ok new
   ·rw [upd_ne w1] at z
    refine (I2.hok b ob' z).stay (fun c v hc q => ?_) (fun c q => ?_) fun c xs q => ?_
    ·rcases hc with rfl | hc
     ·exact kp _ v w1 q
     ·exact kp c v (fun y => by rw [y, Ha] at hc; cases hc) q
    ·rw [at_ c (fun y => by rw [y, Ha] at q; cases q) (nT c _ q)]; exact q
    ·rw [at_ c (fun y => by rw [y, Ha] at q; cases q) (nT c _ q)]; exact q
end
def tXM (C : Addr) (sp : Sp) (t : TA) : TE := fun σ H Q => t σ H fun vs H1 => ∀ x, H1 x = none → sp (.ref x :: vs) (upd H1 x (xo true x C none)) (fun v H2 => v = .non ∧ Q (.ref x) H2) E0
section
variable {X : Cx} {k : Nat} {C fI : Addr} {bm : List Value} {fd : FuncData} {ps : List Str} {sp : Sp} {x : Str} {p pos : Pos} {e : Expr} {es : List Expr} {t : TA}
theorem run_xm {pins : List (Addr × Obj)} {σ : St} {H : Hp} {s : Shared} {Q : VK} {us : List Value} {vs : List V} {E : Value → Shared → Prop} (c : XC X.K C bm) (M : XM X.K C fI) (F : FnOk X.prog X.w X.K X.mg X.base CX0 k fI fd ps sp) (hr : Room (k + 1) X.A) (hb : Binds X.K fd ps [])
  (I : Inv X pins σ H s) (r : Vals vs us) (hl : us.length ≤ 1000) (h : ∀ x, H x = none → sp (.ref x :: vs) (upd H x (xo true x C none)) (fun v H2 => v = .non ∧ Q (.ref x) H2) E0) :
  wpAny (model X.prog X.w) X.A (call (.ref C) us) (EP X pins σ Q) E s := by
 obtain ⟨hp, g, d, tk, os⟩ := s
 refine xmake I.kIn c M.init M.fn (by rw [sizeLine_eq]; omega) ?_
 have hq := h (hp.objs.size + 1) (I.hok.fresh (Nat.le_succ _))
 have kp : ∀ b o, hp.get? b = some o → ((hp.push { cls := .type "tuple", data := .seq us.toArray }).push { cls := .ref C, data := .fields #[.ref hp.objs.size, .none, .none, .none, .bool false, .none] }).get? b = some o :=
  fun b o q => Heap.get?_push_of_some _ (Heap.get?_push_of_some _ q)
 have oe : ((hp.push { cls := .type "tuple", data := .seq us.toArray }).push { cls := .ref C, data := .fields #[.ref hp.objs.size, .none, .none, .none, .bool false, .none] }).get? (hp.objs.size + 1) =
  some { cls := .ref C, data := .fields #[.ref hp.objs.size, .none, .none, .none, .bool false, .none] } := by heap_get
 have I2 := I.laid (o := xo true (hp.objs.size + 1) C none) (t' := tk) kp (Nat.le_succ _) (xo_ok ⟨_, _, oe, rfl, rfl, rfl, rfl, fun _ => rfl⟩)
 have r2 : Vals (V.ref (hp.objs.size + 1) :: vs) (Value.ref (hp.objs.size + 1) :: us) := .cons rfl r
 have len : (Value.ref (hp.objs.size + 1) :: us ++ ([] : List Value)).length = ps.length := by
  have e := r2.length
  rw [F.len _ _ _ _ hq] at e
  rw [List.append_nil]
  exact e.symm
 have b2 := hb _ (Value.ref (hp.objs.size + 1) :: us) I2.kIn len
 rw [List.append_nil] at b2
 refine wpAny_call (codeAny_mono (F.run _ X.stack _ _ ⟨Value.ref (hp.objs.size + 1) :: us, []⟩ _ _ _ E0 (hr.make C us []) (I2.env0.make C us []) b2 r2 hq) fun r s' hq' => ?_)
 cases r with
 | error e => exact (show False from hq').elim
 | ok fl =>
  cases fl with
  | ret u =>
   obtain ⟨v, H', I3, rv, ev, q3⟩ := I2.after hq'
   subst ev
   exact ⟨rv, ⟨V.ref (hp.objs.size + 1), H', I3, rfl, q3⟩⟩
  | next => exact False.elim hq'
  | brk => exact False.elim hq'
  | cont => exact False.elim hq'
theorem pe_xm (c : XC X.K C bm) (M : XM X.K C fI) (F : FnOk X.prog X.w X.K X.mg X.base CX0 k fI fd ps sp) (hr : Room (k + 1) X.A) (hg : Gl X x) (hm : X.mg x = some (.ref C)) (hb : Binds X.K fd ps []) (hps : ps.length ≤ 1000) (ha : PA X (e :: es) t)
  (hdb : (x == ("__debug__" : Str)) = false := by decide) (he : starEach (e :: es) X.env = (false, eval e X.env) :: starEach es X.env := by rfl) (hpl : (backTo pos (starEach es X.env)).any (·.1) = false := by rfl) :
  PE X (.Call (.Name x p) (e :: es) [] pos) (tXM C sp t) := by
 intro pins s σ H Q I h
 refine wpAny_Call_Name_kw (ld_glob I hg hm ?_ hdb)
 refine PySem.W.callWith_K (h₀ := X.base) I.ok.mod.kin M.kp (thn (ha pos pins s σ H _ I h) fun us s1 ⟨vs, H1, I1, r, q⟩ => ⟨I1.kIn, ?_⟩) he hpl
 refine run_xm c M F hr hb I1 r ?_ q
 have e := F.len _ _ _ _ (q (s1.heap.objs.size) (I1.hok.fresh (Nat.le_refl _)))
 show us.length ≤ 1000
 rw [← r.length]
 have e' : vs.length + 1 = ps.length := e
 omega
def tXR (K : PySem.W.Frag) (C : Addr) (te : TE) (E : XK) : TS := fun _ σ H => te σ H fun v H1 => ∃ a od, v = .ref a ∧ H1 a = some (xo true a C od) ∧ E (.ref a) od (upd H1 a (xo false a C od))
theorem ps_xr {te : TE} {E : XK} (hh : X.A.handled = none) (c : XC X.K C bm) (R : Raises X E) (he : PE X e te) : PS X (.Raise (some e) none pos) (tXR X.K C te E) := by
 intro pins s σ H D I h
 rw [arm_exec_Raise]
 have key : wpAny (model X.prog X.w) X.A (raiseStmt X.env (some (do let v ← eval e X.env; standAt pos; pure v)) none) (SP X pins D) X.xe s := by
  refine xraise (K := X.K) (C := C) (bm := bm) hh (wpAny_bind (thn (he pins s σ H _ I h) fun u s1 ⟨v, H1, I1, rv, a, od, ev, Ha, hE⟩ => wpAny_bind (wpAny_standAt (wpAny_pure ?_))))
  subst ev
  cases (show u = Value.ref a from rv)
  obtain ⟨o, vs, e1, e2, e3, e4, e5, e6⟩ := I1.xok Ha
  exact ⟨a, o, vs, rfl, I1.kIn, c, e1, e2, e4, e6 rfl, R pins σ H1 s1 a C od I1 Ha hE⟩
 first
  | exact wpAny_bind (wpAny_standAt key)
  | (simp only [evalOpt, Option.map]; exact wpAny_bind (wpAny_standAt key))
  | (show wpAny _ _ (do standAt pos; raiseStmt X.env (some (do let v ← eval e X.env; standAt pos; pure v)) none) _ _ s; exact wpAny_bind (wpAny_standAt key))
end
abbrev Cx.suite (X : Cx) (a : Addr) : Cx := { X with A := X.A.mark (some (.ref a)), calm := false, xe := fun _ _ => False }
section
variable {X : Cx} {pins : List (Addr × Obj)} {σ : St} {H : Hp} {s : Shared} {a : Addr}
theorem Inv.suite (I : Inv X pins σ H s) (a : Addr) : Inv (X.suite a) pins σ H s :=
 ⟨⟨I.ok.mod, I.ok.kind, I.ok.glob, I.ok.blt, I.ok.above, I.ok.inj, I.ok.has, I.ok.cab, fun z => (by cases z), I.ok.frames, I.ok.stk, I.ok.exf, I.ok.bs, I.ok.bsz, I.ok.noex, I.ok.exfs, I.ok.funs, I.ok.frf⟩, I.os, I.bare, I.base, I.loc, I.cell, I.free, I.freeC, I.pin, I.hok, I.len⟩
theorem Inv.unsuite (ok : X.Ok) (I : Inv (X.suite a) pins σ H s) : Inv X pins σ H s := ⟨ok, I.os, I.bare, I.base, I.loc, I.cell, I.free, I.freeC, I.pin, I.hok, I.len⟩
theorem Inv.gone {j : Nat} {n : Str} {v : Option Value} {h' : Heap} {m : Str → Option Value} {t' : Nat} (I : Inv X pins σ H s) (hN : X.N.Nodup) (hj : X.N[j]? = some n) (hn : s.heap.Ns X.env.locals m)
  (hl : ∀ (i : Nat) (x : Str) (v : V), X.N[i]? = some x → σ[i]? = some (some v) → Vis X.env.scope x → ∃ u, RelV v u ∧ Look X.env s.heap m x u)
  (h1 : h'.Ns X.env.locals (fun x => if x = n then v else m x)) (h2 : Heap.SameBut X.env.locals s.heap h') : Inv X pins (σ.set j none) H { s with heap := h', toks := t' } := by
 have neL : ∀ b o, X.s₀.heap.get? b = some o → b ≠ X.env.locals := fun b o e => Nat.ne_of_lt (Nat.lt_of_lt_of_le (Heap.lt_size e) I.ok.above)
 refine ⟨I.ok, I.os, I.bare, ⟨fun b o e z w y => ?_, fun b o e z w y => ?_, I.base.free, fun b o e y => ?_, I.base.tups, I.base.frzs, I.base.tbls⟩, ⟨_, h1, fun i x u e1 e2 e3 => ?_⟩, fun x c e => ?_, I.free, I.freeC, fun p hp => ?_, fun b ob e => ?_, by rw [List.length_set]; exact I.len⟩
 ·exact (h2.2 b (neL b o e)).trans (I.base.keep b o e z w y)
 ·obtain ⟨sl, q⟩ := I.base.slot b o e z w y
  exact ⟨sl, (h2.2 b (neL b o e)).trans q⟩
 ·obtain ⟨o', q⟩ := I.base.there b o e y
  exact ⟨o', (h2.2 b (neL b o e)).trans q⟩
 ·have ij : i ≠ j := fun z => by
   subst z
   rw [List.getElem?_set] at e2
   split at e2
   ·split at e2 <;> cases e2
   ·rename_i w; exact w rfl
  rw [List.getElem?_set_ne (Ne.symm ij)] at e2
  obtain ⟨y, ry, ly⟩ := hl i x u e1 e2 e3
  have xn : x ≠ n := fun z => ij (nodup_ix hN e1 (z ▸ hj))
  refine ⟨y, ry, ?_⟩
  rcases ly with ⟨k, q⟩ | ⟨k, c, q, z⟩
  ·exact .inl ⟨k, by show (if x = n then v else m x) = some y; rw [if_neg xn]; exact q⟩
  ·exact .inr ⟨k, c, q, z.sameBut h2 (I.cne x c q)⟩
 ·obtain ⟨w, z⟩ := I.cell x c e
  exact ⟨w, z.sameBut h2 (I.cne x c e)⟩
 ·obtain ⟨e, q, ne, nf, dd⟩ := I.pin p hp
  exact ⟨(h2.2 p.1 ne).trans e, q, ne, nf, dd⟩
 ·refine (I.hok b ob e).stay (fun c w' hc q => (h2.2 c ?_).trans q) (fun _ q => q) fun _ _ q => q
  rintro rfl
  rcases hc with z | z
  ·rw [← z, I.free] at e; cases e
  ·rw [I.free] at z; cases z
end
def tTry (K : PySem.W.Frag) (D : Addr) (sp : Sp) (i j : Nat) (ta : TA) (ts : TS) : TS := fun G σ H => ta σ H fun vs H1 => sp vs H1 (fun v H2 => G.nx (σ.set i (some v)) H2)
 fun ev od H2 => ∃ (a C : Addr) (bm : List Value), ev = .ref a ∧ H2 a = some (xo false a C od) ∧ XC K C bm ∧ (Value.ref C :: bm).contains (.ref D) = true ∧
  ts { nx := fun σ' H' => G.nx (σ'.set j none) H', rt := G.rt, bk := fun σ' H' => G.bk (σ'.set j none) H', ct := fun σ' H' => G.ct (σ'.set j none) H' } (σ.set j (some (.ref a))) (upd H2 a (xo false a C od))
section
variable {X : Cx} {k : Nat} {D f : Addr} {bmD : List Value} {fd : FuncData} {ps : List Str} {sp : Sp} {x y n dn : Str} {px pf pc pa pd ph pos : Pos} {e : Expr} {es : List Expr} {t : TA} {i j : Nat} {b₀ : Stmt} {suite : List Stmt} {ts : TS}
theorem ps_try (F : FnOk X.prog X.w X.K X.mg X.base (CXR X.prog X.w) k f fd ps sp) (hr : Room k X.A) (hg : Gl X y) (hm : X.mg y = some (.ref f)) (hk : PySem.W.keepIn X.K (.ref f) = true) (hb : Binds X.K fd ps []) (ha : PA X.nox (e :: es) t)
  (hN : X.N.Nodup) (hi : X.N[i]? = some x) (hx : Loc X.env.scope x) (hh : Head X) (hD : Gl X dn) (hmD : X.mg dn = some (.ref D)) (cD : XC X.K D bmD) (hj : X.N[j]? = some n) (hn : X.env.scope.names.lookup n = some .local)
  (hs : ∀ a, PSs (X.suite a) (b₀ :: suite) ts) (hdb : (y == ("__debug__" : Str)) = false := by decide) (hdD : (dn == ("__debug__" : Str)) = false := by decide) (he : starEach (e :: es) X.env = (false, eval e X.env) :: starEach es X.env := by rfl) (hpl : (backTo pc (starEach es X.env)).any (·.1) = false := by rfl)
  (hsw : swapsWith (.Call (.Name y pf) (e :: es) [] pc) (some (.Name x px)) pa.line X.env = pure false := by rfl) (hfx : X.fn x = true ∨ X.env.scope.names.lookup x = some .local := by first | exact .inl rfl | exact .inr rfl | assumption) :
  PS X (.Try [.Assign [.Name x px] (.Call (.Name y pf) (e :: es) [] pc) pa] [.ExceptHandler (some (.Name dn pd)) (some n) (b₀ :: suite) ph] [] [] pos) (tTry X.K D sp i j t ts) := by
 intro pins s σ H G I h
 refine wpAny_Try_except (wpAny_execs_cons (wpAny_Assign_Name ?_ hsw))
 refine wpAny_Call_Name_kw (ld_glob I hg hm ?_ hdb)
 have ha' := ha pc pins s σ H _ (I.wish _) h
 refine PySem.W.callWith_K (h₀ := X.base) I.ok.mod.kin hk (wpAny_mono ha' (fun us s1 z => ?_) fun _ _ z => False.elim z) he hpl
 obtain ⟨vs, H1, I1, r, q⟩ := z
 have I1 := I1.unwish
 refine ⟨I1.kIn, ?_⟩
 have len : (us ++ ([] : List Value)).length = ps.length := by
  rw [List.append_nil, ← r.length]
  exact F.len _ _ _ _ q
 have b2 := hb s1 us I1.kIn len
 rw [List.append_nil] at b2
 refine wpAny_call (codeAny_mono (F.run X.A X.stack s1 H1 ⟨us, []⟩ us vs _ _ hr I1.env0 b2 r q) fun res s2 c => ?_)
 cases res with
 | ok fl =>
  cases fl with
  | ret u =>
   obtain ⟨v, H2, I2, rv, q2⟩ := I1.after c
   refine store_ok I2 hN hi hx rv (fun s3 I3 => wpAny_execs_nil ?_) hfx
   exact wpAny_execs_nil ⟨_, H2, I3, q2⟩
  | next => exact False.elim c
  | brk => exact False.elim c
  | cont => exact False.elim c
 | error ev =>
  dsimp only [CR] at c
  obtain ⟨a, C', od, H2, rfl, I2, Ha', fl, hE⟩ := CXR.after I1 c
  obtain ⟨a', C, bm, ea, Ha, cC, hc, kk⟩ := hE
  cases ea
  have by1 := fun T hT => I1.beyond (T := T) hT
  refine pass_here I2 rfl hh Ha (.inr ⟨_, fl, by1⟩) fun h3 I3 fl3 => ?_
  have by3 := fun T hT => I2.beyond (T := T) hT
  have Ha3 : (upd H2 a (xo false a C od)) a = some (xo false a C od) := upd_same
  refine wpAny_handleBy_cons (codeAny_handlers_test ?_) (by intro q; cases q)
  refine ld_glob (X := X.suite a) (I3.suite a) hD hmD ?_ hdD
  obtain ⟨o3, v3, q1, q2, _⟩ := I3.xok Ha3
  refine xmatch I3.kIn cC cD q1 q2 ?_
  rw [hc]
  show codeAny _ _ _ _ _
  refine codeAny_handlers_suite_as ?_
  refine flight_off I3 Ha3 fl3 by3 fun h4 I4 fl4 => ?_
  refine store_ok (X := X.suite a) (I4.suite a) hN hj (.inl hn) (v := .ref a) rfl (fun s5 I5 => ?_) (.inr hn)
  have I5' : Inv X pins (σ.set j (some (V.ref a))) (upd H2 a (xo false a C od)) s5 := I5.unsuite I.ok
  refine wpAny_mono (hs a pins s5 _ _ _ I5 kk) (fun fl6 s6 z => ?_) fun _ _ z => False.elim z
  have goes : ∀ {σ6 : St} {H6 : Hp} {QQ : Unit → Shared → Prop} {EE : Value → Shared → Prop}, Inv (X.suite a) pins σ6 H6 s6 → (∀ s7, Inv X pins (σ6.set j none) H6 s7 → QQ () s7) → wpAny (model X.prog X.w) X.A (do bindName X.env n .none; unbindBehindTheSuite X.env n ph) QQ EE s6 := by
   intro σ6 H6 QQ EE I6 q6
   have I6' := I6.unsuite I.ok
   obtain ⟨m, hm6, hl6⟩ := id I6'.loc
   exact wpAny_nameGoes_keeps hn hm6 (by rw [I.ok.kind]; rfl) fun h7 v h71 h72 => q6 _ (I6'.gone hN hj hm6 hl6 h71 h72)
  cases fl6 with
  | next =>
   obtain ⟨σ6, H6, I6, q6⟩ := z
   exact goes I6 fun s7 I7 => ⟨_, H6, I7, q6⟩
  | brk =>
   obtain ⟨σ6, H6, I6, q6⟩ := z
   exact goes I6 fun s7 I7 => ⟨_, H6, I7, q6⟩
  | cont =>
   obtain ⟨σ6, H6, I6, q6⟩ := z
   exact goes I6 fun s7 I7 => ⟨_, H6, I7, q6⟩
  | ret u =>
   obtain ⟨v, σ6, H6, I6, rv, q6⟩ := z
   exact goes I6 fun s7 I7 => ⟨v, _, H6, I7, rv, q6⟩
end
theorem Fun.okX {P : Program} {w : World} {K : PySem.W.Frag} {mg : Str → Option Value} {base : Heap} {x qual : Str} {st : Stmt} {f : Addr} {fd : FuncData} {N ps : List Str} {k : Nat} {sp : Sp} (F : Fun K x qual st f fd) (S : FnScope N ps (defScope st)) (len : ∀ vs H Q E, sp vs H Q E → vs.length = ps.length)
  (hbody : ∀ (cdv : Value) (A : Around) (outer : List Env) (s : Shared) (H : Hp) (vs : List V) (Q : VK) (E : XK), Room k (A.deeper (envOfC qual (defScope st) s.heap.objs.size f cdv)) → sp vs H Q E →
   ∃ t, PSs (cxOf (CXR P w) P w K mg base N qual (defScope st) f cdv A outer s H E) (defBody st) t ∧ t { nx := fun _ H' => Q .non H', rt := Q } (start N vs) H) : FnOk P w K mg base (CXR P w) (k + 1) f fd ps sp := by
 obtain ⟨oc, od, kV, doc, pm, an, cdv, ct, osl, rfl, lk, hcd⟩ := F.ex
 exact fn_of lk hcd S len fun A outer s H vs Q E hr hsp => hbody cdv A outer s H vs Q E hr hsp
section
variable {X : Cx} {o e : Expr} {es : List Expr} {to ta : TE} {t : TA} {T : String} {name n : Str} {id : String} {apos cpos pos : Pos} {r : V → List V → Hp → VK → Prop}
theorem pe_appendK (K : PySem.W.Frag) (ho : PE X o to) (ha : PA X [e] t) (hK : X.K = K := by rfl)
  (hbase : attributeBase o "append" X.env (eval o X.env) = eval o X.env := by rfl)
  (hfew : ((backTo cpos (starEach [e] X.env)).all (fun x => !x.1) && (backToKw cpos (keywordEach [] X.env)).all (fun x => x.1.isSome)
   && decide (([e] : List Expr).length + ([] : List Keyword).length + (if ([] : List Keyword).isEmpty then 0 else 1) < 30)) = true := by rfl)
  (hline : (apos.endLine == cpos.line) = true := by rfl) (hs : starEach [e] X.env = (false, eval e X.env) :: starEach [] X.env := by rfl) (hplain : (backTo cpos (starEach [] X.env)).any (·.1) = false := by rfl) :
  PE X (.Call (.Attribute o "append" apos) [e] [] cpos) (tBM K "list" rAppend to t) := by
 subst hK
 exact pe_bm PySem.F.plainAttrs_list PySem.F.slot_list_append PySem.F.type_list_append mt_append ho ha hbase hfew hline hs hplain
theorem pe_xfK (K : PySem.W.Frag) (he : PE X e ta) (hb : attributeBase e n X.env (eval e X.env) = eval e X.env) (hK : X.K = K := by rfl) : PE X (.Attribute e n pos) (tXF K ta n) := by
 subst hK
 exact pe_xf he hb
theorem call_isxK (K : PySem.W.Frag) (hK : X.K = K := by rfl) : CallR X (.builtin "isinstance") (rIsx K) := by
 subst hK
 exact call_isx
def tTruK (K : PySem.W.Frag) (ta : TE) : TT := fun σ H Q => ta σ H fun x H' => ∃ k, TruV K x H' k ∧ Q k H'
theorem pt_truthK (K : PySem.W.Frag) (ha : PE X e ta) (he : ∀ whole, isTrue e X.env whole = (do let v ← whole; standAt e.pos; holding [v] (truthy v))) (hK : X.K = K := by rfl) : PT X e (tTruK K ta) := by
 subst hK
 exact pt_truth ha he
end
section
variable {prog : Program} {w : World} {A : Around} {E : Value → Shared → Prop} {s : Shared}
theorem draw_list {it t : Addr} {items : Array Value} (hne : t ≠ it) : ∀ (n i : Nat) (s : Shared) (Q : List Value → Shared → Prop), s.heap.IsListIter it t i → s.heap.IsList t items → i + n ≤ items.size →
  (∀ h', h'.IsListIter it t (i + n) → Heap.SameBut it s.heap h' → Q ((items.toList.drop i).take n) { s with heap := h' }) → wpAny (model prog w) A (draw (.ref it) n) Q E s
 | 0, i, s, Q, hit, _, _, hQ => by
  show wpAny _ _ (pure []) Q E s
  exact wpAny_pure (by simpa using hQ s.heap hit (Heap.SameBut.refl ..))
 | n + 1, i, s, Q, hit, ht, hle, hQ => by
  have hlt : i < items.size := by omega
  show wpAny _ _ (pyNext (.ref it) >>= _) Q E s
  refine wpAny_bind (wpAny_pyNext_list_item hit ht (x := items[i]) (by simp [hlt]) fun h₁ hit₁ hs₁ => ?_)
  refine wpAny_bind (wpAny_holding (draw_list hne n (i + 1) _ _ hit₁ (ht.extBut hs₁.extBut hne) (by omega) fun h₂ hit₂ hs₂ => wpAny_pure ?_))
  have hd : items.toList.drop i = items[i] :: items.toList.drop (i + 1) := by simp [List.drop_eq_getElem_cons, hlt]
  have := hQ h₂ (by rw [show i + (n + 1) = i + 1 + n by omega]; exact hit₂) (hs₁.trans hs₂)
  rw [hd, List.take_succ_cons] at this
  exact this
theorem unpackItems_list {t : Addr} {items : Array Value} {Q : List Value → Shared → Prop} (hh : A.handled = none) (ht : s.heap.IsList t items)
  (hQ : ∀ h', Heap.ExtBut s.heap.objs.size s.heap h' → Q items.toList { s with heap := h' }) : wpAny (model prog w) A (unpackItems (.ref t) items.size none) Q E s := by
 have hlt : t ≠ s.heap.objs.size := by obtain ⟨o, ho, _⟩ := ht; exact Nat.ne_of_lt (Heap.lt_size ho)
 unfold unpackItems
 refine wpAny_bind ?_
 ·unfold notIterableAtAll
  refine wpAny_bind (wpAny_specialOf ht.typeIs slot_list_iter.lookup ?_)
  refine wpAny_pure ?_
  simp only [Bool.false_eq_true, if_false]
  refine wpAny_bind (wpAny_holding (wpAny_pyIter_list ht ?_))
  refine wpAny_bind (wpAny_holding (draw_list hlt items.size 0 _ _ ⟨_, Heap.get?_push_size _ rfl, rfl, rfl⟩ (ht.push _) (by omega) fun h₁ hit₁ hs₁ => ?_))
  have hall : List.take items.size (List.drop 0 items.toList) = items.toList := by
   rw [List.drop_zero]; exact List.take_of_length_le (by simp)
  rw [hall]
  rw [if_neg (by simp)]
  have ht₁ : h₁.IsList t items := (ht.push _).extBut hs₁.extBut hlt
  refine wpAny_bind (wpAny_holding (wpAny_pyNext_list_end hh hit₁ ht₁ (by simp) fun h₂ he₂ => ?_))
  simp only [Option.isSome_none, Bool.false_eq_true, if_false]
  refine wpAny_pure (hQ h₂ fun b o hb e => he₂ b o hb (hs₁.extBut b o hb (Heap.get?_push_of_some _ e)))
theorem assign_Tuple_list {env : Env} {elts : List Expr} {x1} {pos : Pos} {t : Addr} {items : Array Value} {Q : Unit → Shared → Prop} (hh : A.handled = none) (ht : s.heap.IsList t items)
  (hn : (assignEach elts env).length = items.size) (hstar : (assignEach elts env).findIdx? (·.1) = none)
  (h : ∀ h', Heap.ExtBut s.heap.objs.size s.heap h' → wpAny (model prog w) A (assignInOrder ((assignEach elts env).map (·.2)) items.toList) Q E { s with heap := h' }) :
  wpAny (model prog w) A (assign (.Tuple elts x1 pos) env (.ref t)) Q E s := by
 rw [assign_Tuple]
 refine wpAny_bind (wpAny_standAt ?_)
 unfold unpack
 rw [hn, hstar]
 exact wpAny_bind (wpAny_holding (unpackItems_list hh ht h))
end
section
variable {X : Cx} {pos : Pos}
def gLst (K : PySem.W.Frag) (n : Nat) (t : TGs) : TG := fun v σ H Q => ∃ a xs, v = .ref a ∧ SqL K H a xs ∧ xs.length = n ∧ t xs σ H Q
theorem pg_lst {es : List Expr} {k : Nat} {t : TGs} {n : Nat} (hc : X.calm = true) (h : PGs X es t)
  (hn : (assignEach es X.env).length = n := by rfl) (hst : (assignEach es X.env).findIdx? (·.1) = none := by rfl) : PG X (.Tuple es k pos) (gLst X.K n t) := by
 intro pins s σ H v u Q I r hw
 obtain ⟨a, xs, e1, hq, hl, hw⟩ := hw
 subst e1
 cases r
 obtain ⟨its, rv, ht, hz⟩ := I.list hq
 refine assign_Tuple_list (I.ok.hd hc) ht.isList (by simp [hn, ← hl, rv.length]) hst fun h' hx => ?_
 have I1 : Inv X pins σ H { s with heap := h' } := I.kept (t' := s.toks) fun b o e => hx b o (Nat.ne_of_lt (Heap.lt_size e)) e
 exact h pins _ σ H xs _ Q I1 (by simpa using rv) hw
end
section
variable {X : Cx}
def rListD : List V → Hp → VK → Prop := fun xs H Q => ∃ (d : Addr) (kvs : List (Key × V)) (ss : List Str), xs = [.ref d] ∧ H d = some (.dK kvs) ∧ kvs.map (·.1) = ss.map Sum.inr ∧ ss.length < 64 ∧
 ∀ p, H p = none → Q (.ref p) (upd H p (.lst (ss.map V.str)))
theorem call_listD (hc : X.calm = true) : CallR X (.type "list") rListD := by
 intro pins s σ H xs us Q I r h
 obtain ⟨d, kvs, ss, rfl, hd, hk, h64, q⟩ := h
 obtain ⟨u, rfl, ru⟩ := vals1 r
 cases ru
 obtain ⟨hz, lo, vs, rel, dd⟩ := dk_of I.hok hd
 obtain ⟨ep, hat⟩ := dd.dictAt
 have hlk : kvs.length = ss.length := by have := congrArg List.length hk; simpa using this
 have hlv : kvs.length = vs.length := rel.length
 have hks : ∀ (i : Nat) (k : Key) (x : Value), vs[i]? = some (k, x) → ∃ y, ss[i]? = some y ∧ k = Sum.inr y := fun i k x e => by
  have h1 : (vs.map (·.1))[i]? = some k := by rw [List.getElem?_map, e]; rfl
  have h2 : vs.map (·.1) = ss.map Sum.inr := by
   rw [← hk]
   have : ∀ {l : List (Key × V)} {m : List (Key × Value)}, KV l m → m.map (·.1) = l.map (·.1) := fun {l m} q => by
    unfold KV at q
    induction q with
    | nil => rfl
    | cons a _ ih => rw [List.map_cons, List.map_cons, ih, a.1]
   exact this rel
  rw [h2, List.getElem?_map] at h1
  cases es : ss[i]? with
  | none => rw [es] at h1; cases h1
  | some y => rw [es] at h1; exact ⟨y, rfl, (Option.some.inj h1).symm⟩
 have src := PySem.W.kdl_dict (prog := X.prog) (w := X.w) (knd := mixKind X.prog X.w) (kvs := vs) (ep := ep) lo
 have hlt := src.there _ hat
 refine callType_codes (Q₁ := fun obj s₁ => obj = .ref s.heap.objs.size ∧ s₁ = { s with heap := s.heap.push { cls := .type "list", data := .seq #[] } }) F.called_list (F.typeCall_list_1 _) F.entry_list_init
  (code_list_new _ ⟨rfl, rfl⟩) fun obj s₁ h₁ => ?_
 obtain ⟨rfl, rfl⟩ := h₁
 have hS : (s.heap.push { cls := .type "list", data := .seq #[] }).get? s.heap.objs.size = some { cls := .type "list", data := .seq #[] } := Heap.get?_push_size _ rfl
 refine ⟨⟨_, hS, rfl⟩, F.args_list_init_2 _ _, ?_⟩
 show wpAny _ _ (do let old ← Builtin.List.listItems (.ref s.heap.objs.size); Builtin.List.listUpdate (.ref s.heap.objs.size) (fun _ => #[]); letGo old.toList.reverse; Builtin.List.listExtendWith (.ref s.heap.objs.size) (.ref d) .none) _ _ _
 refine wpAny_bind ?_
 unfold Builtin.List.listItems
 refine wpAny_bind (wpAny_seqItems hS rfl (wpAny_pure ?_))
 show wpAny _ _ (updateSeq s.heap.objs.size (fun _ => #[]) >>= fun _ => letGo (#[] : Array Value).toList.reverse >>= fun _ => Builtin.List.listExtendWith (.ref s.heap.objs.size) (.ref d) .none) _ _ _
 refine wpAny_bind (wpAny_updateSeq hS rfl ?_)
 have hS₂ := Heap.get?_update_self (Obj.mapSeq (fun _ => (#[] : Array Value))) hS rfl
 have oth : ∀ b o, b ≠ s.heap.objs.size → s.heap.get? b = some o → ((s.heap.push { cls := .type "list", data := .seq #[] }).update s.heap.objs.size (Obj.mapSeq (fun _ => (#[] : Array Value)))).get? b = some o :=
  fun b o hb e => (Heap.get?_update_other _ _ (Ne.symm hb)).trans (Heap.get?_push_of_some _ e)
 refine wpAny_bind (wpAny_letGo ?_)
 refine PySem.W.kdl_extend (A := X.A.in1) src (I.ok.hd hc) (src.keep _ _ hat fun b _ o e => oth b o (Nat.ne_of_lt (Heap.lt_size e)) e) s.heap.objs.size (Nat.ne_of_gt hlt.1) (Nat.ne_of_gt hlt.2) .none _ hS₂ (fun h' tk acc c' kk hS' it => ?_) (by omega)
 have hl : acc.toList.length = ss.length := by rw [Array.length_toList, it.1]; omega
 have hST : StrsAre acc.toList ss := strsAre_by hl fun i v x e1 e2 => by
  obtain ⟨kk, z, ek, ik⟩ := it.2 i v (by rw [← Array.getElem?_toList]; exact e1)
  obtain ⟨y, ey, rfl⟩ := hks i kk z ek
  rw [e2] at ey
  cases ey
  rw [mixKind_is] at ik
  rcases keyIs_shape ik with ⟨_, _, z, _⟩ | ⟨x', t, z, ev⟩
  ·cases z
  ·cases z
   exact ⟨t, ev⟩
 have rl : ∀ {vs : List Value} {xs : List Str}, StrsAre vs xs → Vals (xs.map V.str) vs := fun {vs xs} q => by
  induction q <;> first | exact .nil | (rename_i ih; exact .cons ⟨_, rfl⟩ ih)
 refine ⟨rfl, .ref s.heap.objs.size, _, I.laid (t' := tk) (o := .lst (ss.map V.str)) (fun b o e => kk b o (Nat.ne_of_lt (Heap.lt_size e)) (oth b o (Nat.ne_of_lt (Heap.lt_size e)) e)) (Nat.le_refl _) ?_, rfl, q _ (I.hok.fresh (Nat.le_refl _))⟩
 exact ⟨by rw [List.length_map]; exact Nat.le_trans (Nat.le_of_lt h64) (by decide), acc.toList, c', rl hST, by simpa using hS'⟩
end
section
open Builtin
theorem noFill_tuple_mul : fillsNumberSlot (.type "tuple") "mul" = pure false :=
 PySem.fillsNumberSlot_seq (id := "tuple.__mul__") (r := some (.builtin "tuple.__rmul__")) PySem.F.slot_tuple_mul.lookup (by decide +kernel) PySem.F.slot_tuple_rmul.lookup (by decide +kernel)
theorem repeat_tuple : seqRepeat? (.type "tuple") = pure (some (.builtin "tuple.__mul__")) := by
 unfold seqRepeat?
 rw [PySem.seqSlot_of (T := "tuple") (name := "__mul__") (id := "tuple.__mul__") PySem.F.slot_tuple_mul.lookup (by decide +kernel), PySem.seqSlot_of (T := "tuple") (name := "__rmul__") (id := "tuple.__rmul__") PySem.F.slot_tuple_rmul.lookup (by decide +kernel)]
 rfl
theorem rmul_int_tuple (a : Int) (t : Tok) (l : Addr) (items : Array Value) (n : Nat) (dd : Option Addr) (sl : Array (Option Value)) :
  Meets (Builtin.«int.__rmul__» ⟨[.int a t, .ref l], []⟩) (fun _ R s => s.heap.get? l = some { cls := .type "tuple", dict := dd, data := .seq items n, slots := sl } ∧ R (.ok (.ret Value.notImplemented)) s) :=
 .of_wp fun prog w A R s h => by obtain ⟨hp, g, d, tk, os⟩ := s; obtain ⟨hl, h⟩ := h; wp_walk; exact ⟨_, rfl, h⟩
theorem mul_tuple (l : Addr) (items : Array Value) (n : Nat) (dd : Option Addr) (sl : Array (Option Value)) (x : Int) (u : Tok) (hc0 : ¬ (decide (x < -(2 ^ 63)) || decide (x ≥ 2 ^ 63)) = true) (hc1 : ¬ (items.isEmpty || x == 1) = true) (hc2 : ¬ (decide (x ≤ 0) || items.isEmpty) = true)
  (hc3 : ¬ ((items.size : Int) * x > (2 ^ 63 - 1) / 8)) (hc4 : ¬ Builtin.Tuple.tupleTooMany ((items.size : Int) * x) = true) (hc5 : (List.foldl (fun x1 x2 => x1 ++ x2) #[] (List.replicate x.toNat items)).size ≤ sizeLine) :
  Meets (Builtin.«tuple.__mul__» ⟨[.ref l, .int x u], []⟩) (fun _ R s => s.heap.get? l = some { cls := .type "tuple", dict := dd, data := .seq items n, slots := sl } ∧ R (.ok (.ret (Value.ref s.heap.objs.size))) { s with heap := s.heap.push { cls := Value.type "tuple", data := Data.seq (List.foldl (fun x1 x2 => x1 ++ x2) #[] (List.replicate x.toNat items)) }, toks := s.toks }) :=
 .of_wp fun prog w A R s h => by
  obtain ⟨hp, g, d, tk, os⟩ := s; obtain ⟨hl, h⟩ := h
  have f1 := AutoSeq1.idx_int
  have ht : IsTup hp l items := ⟨_, hl, rfl, n, rfl⟩
  wp_walk using wpAny_loadPart' hl
  rw [if_neg hc0]
  dsimp only
  refine wpAny_bind (tupleItemsOf_ ht ?_)
  rw [if_neg hc1]
  try dsimp only
  rw [if_neg hc2]
  try dsimp only
  rw [if_neg hc3]
  try dsimp only
  rw [if_neg hc4]
  try dsimp only
  first
   | exact wpAny_bind (m := Builtin.Tuple.tupleExact _) (wpAny_newObj_type (wpAny_pure ⟨_, rfl, h⟩) hc5)
   | exact wpAny_bind (m := Builtin.Tuple.tupleExact _) (wpAny_newObj_type (wpAny_pure h) hc5)
   | exact wpAny_bind (m := Builtin.Tuple.tupleExact _) (wpAny_newObj_type (wpAny_bind (wpAny_pure (wpAny_pure ⟨_, rfl, h⟩))) hc5)
def rRepT (K : PySem.W.Frag) : R2 := fun x y H Q => ∃ (a : Addr) (xs : List V) (k : Nat), x = .ref a ∧ y = .int (k : Int) ∧ SqT K H a xs ∧ xs ≠ [] ∧ 2 ≤ k ∧ xs.length * k ≤ 100000 ∧ ∀ p, H p = none → Q (.ref p) (upd H p (.tup (List.replicate k xs).flatten))
theorem op_repTK {X : Cx} (K : PySem.W.Frag) (hK : X.K = K := by rfl) : OpR X (binaryOp .Mult) (rRepT K) := by
 subst hK
 intro pins s σ H x y v u Q I rx ry h
 obtain ⟨a, xs, k, rfl, rfl, ha, hx, hk, hz, q⟩ := h
 cases rx
 obtain ⟨t, rfl⟩ := ry
 obtain ⟨its, r, p1, _⟩ := I.tuple ha
 obtain ⟨⟨cls, dd, data, sl⟩, ho, hc, n, hd⟩ := id p1
 simp only at hc hd
 subst hc hd
 have li : its.length = xs.length := r.length.symm
 have lp : 0 < its.length := by rw [li]; exact List.length_pos_iff.mpr hx
 have mk : its.length * k ≤ 100000 := by rw [li]; exact hz
 have kk : k ≤ 100000 := Nat.le_trans (Nat.le_mul_of_pos_left k lp) mk
 have e0 : its.toArray.isEmpty = false := by cases its with | nil => simp at lp | cons _ _ => simp
 have e1 : ((its.toArray.size : Nat) : Int) * (k : Int) = ((its.length * k : Nat) : Int) := by rw [List.size_toArray, Int.natCast_mul]
 have hnew : List.foldl (fun x1 x2 => x1 ++ x2) #[] (List.replicate (k : Int).toNat its.toArray) = (List.replicate k its).flatten.toArray := by
  have := foldl_rep its k []
  rw [List.nil_append] at this
  rw [Int.toNat_natCast]
  exact this
 have lf : (List.replicate k its).flatten.length ≤ 100000 := by rw [len_rep, Nat.mul_comm]; exact mk
 have m0 : ¬ (decide ((k : Int) < -(2 ^ 63)) || decide ((k : Int) ≥ 2 ^ 63)) = true := by
  rw [decide_eq_false (by omega), decide_eq_false (by omega)]; decide
 have m1 : ¬ (its.toArray.isEmpty || (k : Int) == 1) = true := by
  rw [e0, Bool.false_or]
  intro z
  have := eq_of_beq z
  omega
 have m2 : ¬ (decide ((k : Int) ≤ 0) || its.toArray.isEmpty) = true := by rw [e0, decide_eq_false (by omega)]; decide
 have m3 : ¬ (((its.toArray.size : Nat) : Int) * (k : Int) > (2 ^ 63 - 1) / 8) := by rw [e1]; omega
 have m4 : ¬ Builtin.Tuple.tupleTooMany (((its.toArray.size : Nat) : Int) * (k : Int)) = true := by
  rw [e1]
  simp [Builtin.Tuple.tupleTooMany, sizeLine]
  omega
 refine wpAny_binaryOp_repeat_ref (T := "tuple") (U := "int") (by decide) ⟨_, ho, rfl⟩ (fun s' => typeIs_int s' _ t) noFill_tuple_mul PySem.F.fills_int_mul PySem.F.slot_int_rmul repeat_tuple PySem.F.slot_int_index.lookup
  (call_meets PySem.F.slot_int_rmul (typeIs_int s _ t) PySem.F.entry_int_rmul (PySem.F.args_int_rmul_2 _ _) (rmul_int_tuple _ t a its.toArray n dd sl)
   ⟨ho, rfl, ⟨_, ho, rfl⟩, call_meets PySem.F.slot_tuple_mul ⟨_, ho, rfl⟩ PySem.F.entry_tuple_mul (PySem.F.args_tuple_mul_2 _ _) (mul_tuple a its.toArray n dd sl _ t m0 m1 m2 m3 m4 (by rw [hnew, List.size_toArray]; exact Nat.le_trans lf (by decide))) ⟨ho, ?_⟩⟩)
 rw [hnew]
 refine ⟨.ref _, _, I.laid (t' := s.toks) (o := .tup (List.replicate k xs).flatten) (fun b ob q => Heap.get?_push_of_some _ q) (Nat.le_refl _) ?_, rfl, q _ (I.hok.fresh (Nat.le_refl _))⟩
 exact ⟨⟨by rw [len_rep, Nat.mul_comm]; exact Nat.le_trans hz (by decide), _, Heap.get?_push_size _ rfl, rfl⟩, _, r.rep k, IsTup.new _ _⟩
end
end L2
namespace My
open PySem L2
def top (i : Nat) : Stmt := PySem.Challenge.pw_figurejudge_k22_sayings_that_fit.main.body.getD i (.Pass ⟨0, 0, 0, 0⟩)
abbrev s_inner_parts : Stmt := top 11
abbrev s_row_names : Stmt := top 12
abbrev s_term_names : Stmt := top 13
abbrev s_parts_in_order : Stmt := top 14
abbrev s_told_of_parts : Stmt := top 15
abbrev s_names_over : Stmt := top 16
abbrev s_names_by_place : Stmt := top 17
abbrev s_look_saying : Stmt := top 18
abbrev s_l_deck : Stmt := top 20
abbrev s_l_next : Stmt := top 21
abbrev s_l_names : Stmt := top 22
abbrev s_l_row : Stmt := top 23
abbrev s_l_world : Stmt := top 24
abbrev s_l_term : Stmt := top 25
abbrev s_l_plain : Stmt := top 26
abbrev s_l_saying : Stmt := top 27
abbrev s_l_terms : Stmt := top 28
abbrev s_l_inner : Stmt := top 29
abbrev s_l_free : Stmt := top 30
abbrev s_l_first : Stmt := top 31
abbrev s_l_said : Stmt := top 32
abbrev s_l_one_wrong : Stmt := top 33
abbrev s_law : Stmt := top 34
structure Adr where
 f_inner_parts : Addr
 fd_inner_parts : FuncData
 f_row_names : Addr
 fd_row_names : FuncData
 f_term_names : Addr
 fd_term_names : FuncData
 f_parts_in_order : Addr
 fd_parts_in_order : FuncData
 f_told_of_parts : Addr
 fd_told_of_parts : FuncData
 f_names_over : Addr
 fd_names_over : FuncData
 f_names_by_place : Addr
 fd_names_by_place : FuncData
 f_look_saying : Addr
 fd_look_saying : FuncData
 f_l_deck : Addr
 fd_l_deck : FuncData
 f_l_next : Addr
 fd_l_next : FuncData
 f_l_names : Addr
 fd_l_names : FuncData
 f_l_row : Addr
 fd_l_row : FuncData
 f_l_world : Addr
 fd_l_world : FuncData
 f_l_term : Addr
 fd_l_term : FuncData
 f_l_plain : Addr
 fd_l_plain : FuncData
 f_l_saying : Addr
 fd_l_saying : FuncData
 f_l_terms : Addr
 fd_l_terms : FuncData
 f_l_inner : Addr
 fd_l_inner : FuncData
 f_l_free : Addr
 fd_l_free : FuncData
 f_l_first : Addr
 fd_l_first : FuncData
 f_l_said : Addr
 fd_l_said : FuncData
 f_l_one_wrong : Addr
 fd_l_one_wrong : FuncData
 f_law : Addr
 fd_law : FuncData
structure Txt (K : PySem.W.Frag) (mg : Str → Option Value) (a : Adr) : Prop where
 F_inner_parts : Fun K "inner_parts" "inner_parts" s_inner_parts a.f_inner_parts a.fd_inner_parts
 m_inner_parts : mg "inner_parts" = some (.ref a.f_inner_parts)
 k_inner_parts : PySem.W.keepIn K (.ref a.f_inner_parts) = true
 b_inner_parts : Binds K a.fd_inner_parts ["saying"] []
 F_row_names : Fun K "row_names" "row_names" s_row_names a.f_row_names a.fd_row_names
 m_row_names : mg "row_names" = some (.ref a.f_row_names)
 k_row_names : PySem.W.keepIn K (.ref a.f_row_names) = true
 b_row_names : Binds K a.fd_row_names ["saying"] []
 F_term_names : Fun K "term_names" "term_names" s_term_names a.f_term_names a.fd_term_names
 m_term_names : mg "term_names" = some (.ref a.f_term_names)
 k_term_names : PySem.W.keepIn K (.ref a.f_term_names) = true
 b_term_names : Binds K a.fd_term_names ["saying"] []
 F_parts_in_order : Fun K "parts_in_order" "parts_in_order" s_parts_in_order a.f_parts_in_order a.fd_parts_in_order
 m_parts_in_order : mg "parts_in_order" = some (.ref a.f_parts_in_order)
 k_parts_in_order : PySem.W.keepIn K (.ref a.f_parts_in_order) = true
 b_parts_in_order : Binds K a.fd_parts_in_order ["saying"] []
 F_told_of_parts : Fun K "told_of_parts" "told_of_parts" s_told_of_parts a.f_told_of_parts a.fd_told_of_parts
 m_told_of_parts : mg "told_of_parts" = some (.ref a.f_told_of_parts)
 k_told_of_parts : PySem.W.keepIn K (.ref a.f_told_of_parts) = true
 b_told_of_parts : Binds K a.fd_told_of_parts ["told", "place", "saying"] []
 F_names_over : Fun K "names_over" "names_over" s_names_over a.f_names_over a.fd_names_over
 m_names_over : mg "names_over" = some (.ref a.f_names_over)
 k_names_over : PySem.W.keepIn K (.ref a.f_names_over) = true
 b_names_over : Binds K a.fd_names_over ["saying", "inner"] []
 F_names_by_place : Fun K "names_by_place" "names_by_place" s_names_by_place a.f_names_by_place a.fd_names_by_place
 m_names_by_place : mg "names_by_place" = some (.ref a.f_names_by_place)
 k_names_by_place : PySem.W.keepIn K (.ref a.f_names_by_place) = true
 b_names_by_place : Binds K a.fd_names_by_place ["saying"] []
 F_look_saying : Fun K "look_saying" "look_saying" s_look_saying a.f_look_saying a.fd_look_saying
 m_look_saying : mg "look_saying" = some (.ref a.f_look_saying)
 k_look_saying : PySem.W.keepIn K (.ref a.f_look_saying) = true
 b_look_saying : Binds K a.fd_look_saying ["world", "saying"] []
 F_l_deck : Fun K "_law_deck" "_law_deck" s_l_deck a.f_l_deck a.fd_l_deck
 m_l_deck : mg "_law_deck" = some (.ref a.f_l_deck)
 k_l_deck : PySem.W.keepIn K (.ref a.f_l_deck) = true
 b_l_deck : Binds K a.fd_l_deck ["_law_script", "_law_many"] []
 F_l_next : Fun K "_law_next" "_law_next" s_l_next a.f_l_next a.fd_l_next
 m_l_next : mg "_law_next" = some (.ref a.f_l_next)
 k_l_next : PySem.W.keepIn K (.ref a.f_l_next) = true
 b_l_next : Binds K a.fd_l_next ["_law_deck_here", "_law_many"] []
 F_l_names : Fun K "_law_names" "_law_names" s_l_names a.f_l_names a.fd_l_names
 m_l_names : mg "_law_names" = some (.ref a.f_l_names)
 k_l_names : PySem.W.keepIn K (.ref a.f_l_names) = true
 b_l_names : Binds K a.fd_l_names ["_law_deck_here", "_law_many", "_law_great"] []
 F_l_row : Fun K "_law_row" "_law_row" s_l_row a.f_l_row a.fd_l_row
 m_l_row : mg "_law_row" = some (.ref a.f_l_row)
 k_l_row : PySem.W.keepIn K (.ref a.f_l_row) = true
 b_l_row : Binds K a.fd_l_row ["_law_deck_here", "_law_base"] []
 F_l_world : Fun K "_law_world" "_law_world" s_l_world a.f_l_world a.fd_l_world
 m_l_world : mg "_law_world" = some (.ref a.f_l_world)
 k_l_world : PySem.W.keepIn K (.ref a.f_l_world) = true
 b_l_world : Binds K a.fd_l_world ["_law_deck_here"] []
 F_l_term : Fun K "_law_term" "_law_term" s_l_term a.f_l_term a.fd_l_term
 m_l_term : mg "_law_term" = some (.ref a.f_l_term)
 k_l_term : PySem.W.keepIn K (.ref a.f_l_term) = true
 b_l_term : Binds K a.fd_l_term ["_law_deck_here", "_law_names_here"] []
 F_l_plain : Fun K "_law_plain" "_law_plain" s_l_plain a.f_l_plain a.fd_l_plain
 m_l_plain : mg "_law_plain" = some (.ref a.f_l_plain)
 k_l_plain : PySem.W.keepIn K (.ref a.f_l_plain) = true
 b_l_plain : Binds K a.fd_l_plain ["_law_deck_here", "_law_names_here", "_law_rows"] []
 F_l_saying : Fun K "_law_saying" "_law_saying" s_l_saying a.f_l_saying a.fd_l_saying
 m_l_saying : mg "_law_saying" = some (.ref a.f_l_saying)
 k_l_saying : PySem.W.keepIn K (.ref a.f_l_saying) = true
 b_l_saying : Binds K a.fd_l_saying ["_law_deck_here", "_law_names_here", "_law_rows", "_law_box", "_law_deep"] []
 F_l_terms : Fun K "_law_terms" "_law_terms" s_l_terms a.f_l_terms a.fd_l_terms
 m_l_terms : mg "_law_terms" = some (.ref a.f_l_terms)
 k_l_terms : PySem.W.keepIn K (.ref a.f_l_terms) = true
 b_l_terms : Binds K a.fd_l_terms ["_law_saying_here"] []
 F_l_inner : Fun K "_law_inner" "_law_inner" s_l_inner a.f_l_inner a.fd_l_inner
 m_l_inner : mg "_law_inner" = some (.ref a.f_l_inner)
 k_l_inner : PySem.W.keepIn K (.ref a.f_l_inner) = true
 b_l_inner : Binds K a.fd_l_inner ["_law_saying_here"] []
 F_l_free : Fun K "_law_free" "_law_free" s_l_free a.f_l_free a.fd_l_free
 m_l_free : mg "_law_free" = some (.ref a.f_l_free)
 k_l_free : PySem.W.keepIn K (.ref a.f_l_free) = true
 b_l_free : Binds K a.fd_l_free ["_law_saying_here", "_law_bound", "_law_found"] []
 F_l_first : Fun K "_law_first" "_law_first" s_l_first a.f_l_first a.fd_l_first
 m_l_first : mg "_law_first" = some (.ref a.f_l_first)
 k_l_first : PySem.W.keepIn K (.ref a.f_l_first) = true
 b_l_first : Binds K a.fd_l_first ["_law_world_here", "_law_saying_here", "_law_place"] []
 F_l_said : Fun K "_law_said" "_law_said" s_l_said a.f_l_said a.fd_l_said
 m_l_said : mg "_law_said" = some (.ref a.f_l_said)
 k_l_said : PySem.W.keepIn K (.ref a.f_l_said) = true
 b_l_said : Binds K a.fd_l_said ["_law_world_here", "_law_saying_here"] []
 F_l_one_wrong : Fun K "_law_one_wrong" "_law_one_wrong" s_l_one_wrong a.f_l_one_wrong a.fd_l_one_wrong
 m_l_one_wrong : mg "_law_one_wrong" = some (.ref a.f_l_one_wrong)
 k_l_one_wrong : PySem.W.keepIn K (.ref a.f_l_one_wrong) = true
 b_l_one_wrong : Binds K a.fd_l_one_wrong ["_law_deck_here", "_law_names_here", "_law_kept", "_law_lost"] []
 F_law : Fun K "law" "law" s_law a.f_law a.fd_law
 m_law : mg "law" = some (.ref a.f_law)
 z_ValueError : mg "ValueError" = none
 z_list : mg "list" = none
 z_tuple : mg "tuple" = none
 z_range : mg "range" = none
 z_sorted : mg "sorted" = none
 z_enumerate : mg "enumerate" = none
 z_reversed : mg "reversed" = none
 z_min : mg "min" = none
 z_len : mg "len" = none
 z_int : mg "int" = none
 z_set : mg "set" = none
 z_isinstance : mg "isinstance" = none
structure Term where
 num : Int
 parts : List (Str × Int)
def partDt (p : Str × Int) : Dt := .tup [.str p.1, .int p.2]
def Term.dt (t : Term) : Dt := .tup [.int t.num, .tup (t.parts.map partDt)]
inductive Say where
 | same (t u : Term) | less (t u : Term) | sign (a : Str) (t : Term) (s : Int) | alike (a : Str) (t : Term) (b : Str) (u : Term)
 | no (f : Say) | and (f g : Say) | or (f g : Say) | some (n : Str) (f : Say) | each (n : Str) (f : Say)
def Say.dt : Say → Dt
 | .same t u => .tup [.str "same", t.dt, u.dt]
 | .less t u => .tup [.str "less", t.dt, u.dt]
 | .sign a t s => .tup [.str "sign", .str a, t.dt, .int s]
 | .alike a t b u => .tup [.str "alike", .str a, t.dt, .str b, u.dt]
 | .no f => .tup [.str "not", f.dt]
 | .and f g => .tup [.str "and", f.dt, g.dt]
 | .or f g => .tup [.str "or", f.dt, g.dt]
 | .some n f => .tup [.str "some", .str n, f.dt]
 | .each n f => .tup [.str "each", .str n, f.dt]
def Say.deep : Say → Nat
 | .no f => f.deep + 1
 | .and f g => max f.deep g.deep + 1
 | .or f g => max f.deep g.deep + 1
 | .some _ f => f.deep + 1
 | .each _ f => f.deep + 1
 | _ => 0
theorem parts_noL : ∀ ps : List (Str × Int), Dt.noLs (ps.map partDt) = true
 | [] => by simp [Dt.noLs]
 | p :: ps => by rw [List.map_cons, Dt.noLs, parts_noL ps]; simp [partDt, Dt.noL, Dt.noLs]
theorem Term.noL (t : Term) : t.dt.noL = true := by simp [Term.dt, Dt.noL, Dt.noLs, parts_noL]
theorem Say.noL (s : Say) : s.dt.noL = true := by
 induction s <;> simp [Say.dt, Dt.noL, Dt.noLs, Term.noL, *]
def TOver (ss : List Str) (t : Term) : Prop := t.parts.length ≤ 3 ∧ ∀ q ∈ t.parts, q.1 ∈ ss
def Say.Over (ss : List Str) : Say → Prop
 | .same t u => TOver ss t ∧ TOver ss u
 | .less t u => TOver ss t ∧ TOver ss u
 | .sign _ t _ => TOver ss t
 | .alike _ t _ u => TOver ss t ∧ TOver ss u
 | .no f => f.Over ss
 | .and f g => f.Over ss ∧ g.Over ss
 | .or f g => f.Over ss ∧ g.Over ss
 | .some _ f => f.Over ss
 | .each _ f => f.Over ss
def Deck2 (H : Hp) (d : Addr) : Prop := ∃ ms : List Int, H d = some (.lst (ms.map V.int))
theorem Deck2.same {H H' : Hp} {d : Addr} (h : Deck2 H d) (s : Same H H') : Deck2 H' d := let ⟨ms, a⟩ := h; ⟨ms, s _ _ a⟩
theorem Deck2.kb {H H' : Hp} {d e : Addr} (h : Deck2 H d) (s : KB e H H') (n : d ≠ e) : Deck2 H' d := let ⟨ms, a⟩ := h; ⟨ms, s _ _ a n⟩
theorem Deck2.is {H : Hp} {d : Addr} (h : Deck2 H d) : ∃ xs, H d = some (.lst xs) := let ⟨ms, a⟩ := h; ⟨_, a⟩
theorem Deck2.ne {H : Hp} {d e : Addr} (h : Deck2 H d) (n : H e = none) : d ≠ e := let ⟨ms, a⟩ := h; ne_of_none a n
theorem Deck2.kts {K : PySem.W.Frag} {H H' : Hp} {d : Addr} (h : Deck2 H d) (s : KB d H H') : KTs K H H' := let ⟨ms, a⟩ := h; KB.kts a s
def spDeck2 (K : PySem.W.Frag) : Sp := fun vs H Q _ => ∃ (a : Addr) (ns : List Int), vs = [.ref a, .int 900] ∧ SqL K H a (ns.map V.int) ∧ ns.length ≤ 63 ∧
 ∀ (D : Addr) (H' : Hp), H D = none → Same H H' → Deck2 H' D → Q (.ref D) H'
def spNext2 : Sp := fun vs H Q _ => ∃ (d : Addr) (m : Int), vs = [.ref d, .int m] ∧ Deck2 H d ∧ 0 < m ∧ ∀ (r : Int) (H' : Hp), 0 ≤ r → r < m → KB d H H' → Deck2 H' d → Q (.int r) H'
section
variable {P : Program} {w : World} {K : PySem.W.Frag} {mg : Str → Option Value} {base : Heap}
theorem sc_l_next : FnScope ["_law_deck_here", "_law_many"] ["_law_deck_here", "_law_many"] (defScope s_l_next) := ⟨rfl, rfl, rfl, by decide +kernel, rfl, by decide +kernel, by decide +kernel⟩
theorem ok_l_next {a : Adr} (T : Txt K mg a) : FnOk P w K mg base CX0 1 a.f_l_next a.fd_l_next ["_law_deck_here", "_law_many"] spNext2 := by
 refine T.F_l_next.ok sc_l_next (fun vs H Q E h => ?_) (fun cdv A outer s H vs Q E hr h => ?_)
 ·obtain ⟨d, m, rfl, _⟩ := h
  rfl
 ·obtain ⟨d, m, rfl, ⟨ms, hd⟩, hm, k⟩ := h
  refine ⟨_, (pss_cons (ps_if (pt_cmpR op_eq (pe_callB (call_lenK K) (by rfl) T.z_len bt_len (pa_cons (pv 0) pa_nil)) pe_int (nomark _))
   (pss_one (ps_ret pe_int))
   pss_nil)
  (pss_one (ps_ret (pe_op op_modP (pe_bm0 PySem.F.plainAttrs_list PySem.F.slot_list_pop PySem.F.type_list_pop mt_pop (pv 0)) (pv 1))))), ?_⟩
  refine ⟨_, rfl, _, ms.length, rfl, .inl ⟨_, .of hd, by rw [List.length_map]⟩, rfl, _, rfl, ?_⟩
  refine ite2 (fun hl => ?_) (fun hl => ?_)
  ·exact k 0 H (Int.le_refl _) hm (KB.refl d H) ⟨ms, hd⟩
  ·have hl' : 0 < ms.length := by
    by_cases z : ms.length = 0
    ·exact absurd (dI (show ((ms.length : Nat) : Int) = 0 by omega)) hl
    ·omega
   obtain ⟨x, hx⟩ : ∃ x, ms[ms.length - 1]? = some x := ⟨_, List.getElem?_eq_getElem (by omega)⟩
   refine ⟨_, rfl, .inl ⟨rfl, _, .of hd⟩, d, _, V.int x, rfl, rfl, hd, ?_, _, rfl, _, _, rfl, rfl, cpos hm, ?_⟩
   ·rw [List.length_map, List.getElem?_map, hx]; rfl
   ·exact k _ _ (Int.emod_nonneg _ (by omega)) (Int.emod_lt_of_pos _ hm) KB.write ⟨ms.dropLast, by rw [upd_same, List.map_dropLast]⟩
theorem sc_l_deck : FnScope ["_law_script", "_law_many", "_law_deck_here", "_law_k", "_law_cell", "_law_j", "_law_number"] ["_law_script", "_law_many"] (defScope s_l_deck) := ⟨rfl, rfl, rfl, by decide +kernel, rfl, by decide +kernel, by decide +kernel⟩
theorem cutTake (ms : List Int) (n : Nat) : cutV (ms.map V.int) none (some (n : Int)) = (ms.take n).map V.int := by
 unfold cutV
 rw [show HT.sIx (ms.map V.int).length 0 none = 0 from rfl, HT.sIx_nat]
 rw [List.drop_zero, List.length_map, Nat.sub_zero, ← List.map_take]
 congr 1
 by_cases h : n ≤ ms.length
 ·rw [Nat.min_eq_left h]
 ·rw [Nat.min_eq_right (by omega), List.take_of_length_le (Nat.le_refl _), List.take_of_length_le (by omega)]
theorem ok_l_deck {a : Adr} (T : Txt K mg a) : FnOk P w K mg base CX0 1 a.f_l_deck a.fd_l_deck ["_law_script", "_law_many"] (spDeck2 K) := by
 refine T.F_l_deck.ok sc_l_deck (fun vs H Q E h => ?_) (fun cdv A outer s H vs Q E hr h => ?_)
 ·obtain ⟨a, ns, rfl, _⟩ := h
  rfl
 ·obtain ⟨sa, ns, rfl, hS, hns, k⟩ := h
  refine ⟨_, (pss_cons (ps_set (i := 2) sc_l_deck.nd rfl (Or.inl rfl) (pe_lst pa_nil))
  (pss_cons (ps_for PassesOwn.never rfl (pi_range1 rfl T.z_range (pa_cons (pe_callB (call_min2 rfl) (by rfl) T.z_min bt_min (pa_cons pe_int (pa_cons (pe_callB (call_lenK K) (by rfl) T.z_len bt_len (pa_cons (pv 0) pa_nil)) pa_nil))) pa_nil)) (pg_name (i := 3) sc_l_deck.nd rfl (Or.inl rfl))
   (pss_cons (ps_set (i := 4) sc_l_deck.nd rfl (Or.inl rfl) (pe_ix (ix_listK K) (pv 0) (pv 3) (fun _ _ => rfl)))
   (pss_one (ps_if (pt_cmpR op_ge (pv 4) (pe_op op_pow pe_int pe_int) (nomark _))
    (pss_one (ps_for PassesOwn.never rfl (pi_range1 rfl T.z_range (pa_cons pe_int pa_nil)) (pg_name (i := 5) sc_l_deck.nd rfl (Or.inl rfl))
     (pss_one (ps_if (pt_cmpR op_gt (pv 4) pe_int (nomark _))
      (pss_cons (ps_expr (pe_bm PySem.F.plainAttrs_list PySem.F.slot_list_append PySem.F.type_list_append mt_append (pv 2) (pa_cons (pe_op op_modP (pv 4) pe_int) pa_nil)))
      (pss_one (ps_set (i := 4) sc_l_deck.nd rfl (Or.inl rfl) (pe_op op_fdivB (pv 4) pe_int))))
      pss_nil))))
    (pss_cons (ps_set (i := 6) sc_l_deck.nd rfl (Or.inl rfl) (pe_op op_modP (pe_op op_add (pe_op op_add (pe_op op_mul (pe_op op_modP (pv 4) pe_int) pe_int) (pe_op op_mul pe_int (pv 3))) pe_int) pe_int))
    (pss_cons (ps_set (i := 6) sc_l_deck.nd rfl (Or.inl rfl) (pe_op op_modP (pe_op op_add (pe_op op_mul (pv 6) (pe_op op_add (pe_op op_fdivB (pv 6) pe_int) pe_int)) (pe_op op_mul pe_int (pv 3))) pe_int))
    (pss_one (ps_expr (pe_bm PySem.F.plainAttrs_list PySem.F.slot_list_extend PySem.F.type_list_extend mt_extend (pv 2) (pa_cons (pe_lst (pa_cons (pe_op op_modP (pv 6) pe_int) (pa_cons (pe_op op_modP (pe_op op_modP (pe_op op_mul (pv 6) pe_int) pe_int) pe_int) pa_nil))) pa_nil))))))))))
  (pss_cons (ps_for PassesOwn.never rfl (pi_range2 rfl T.z_range (pa_cons (pe_callB (call_lenK K) (by rfl) T.z_len bt_len (pa_cons (pv 2) pa_nil)) (pa_cons (pv 1) pa_nil))) (pg_name (i := 3) sc_l_deck.nd rfl (Or.inl rfl))
   (pss_cons (ps_set (i := 6) sc_l_deck.nd rfl (Or.inl rfl) pe_int)
   (pss_cons (ps_if (pt_cmpR op_gt (pe_callB (call_lenK K) (by rfl) T.z_len bt_len (pa_cons (pv 0) pa_nil)) pe_int (nomark _))
    (pss_one (ps_set (i := 6) sc_l_deck.nd rfl (Or.inl rfl) (pe_op op_modP (pe_ix (ix_listK K) (pv 0) (pe_op op_modP (pv 3) (pe_callB (call_min2 rfl) (by rfl) T.z_min bt_min (pa_cons pe_int (pa_cons (pe_callB (call_lenK K) (by rfl) T.z_len bt_len (pa_cons (pv 0) pa_nil)) pa_nil)))) (fun _ _ => rfl)) pe_int)))
    pss_nil)
   (pss_cons (ps_set (i := 6) sc_l_deck.nd rfl (Or.inl rfl) (pe_op op_modP (pe_op op_add (pe_op op_add (pe_op op_mul (pv 6) pe_int) (pe_op op_mul pe_int (pv 3))) pe_int) pe_int))
   (pss_cons (ps_set (i := 6) sc_l_deck.nd rfl (Or.inl rfl) (pe_op op_modP (pe_op op_add (pe_op op_mul (pv 6) (pe_op op_add (pe_op op_fdivB (pv 6) pe_int) pe_int)) (pe_op op_mul pe_int (pv 3))) pe_int))
   (pss_one (ps_expr (pe_bm PySem.F.plainAttrs_list PySem.F.slot_list_append PySem.F.type_list_append mt_append (pv 2) (pa_cons (pe_op op_modP (pe_op op_modP (pe_op op_mul (pv 6) pe_int) pe_int) pe_int) pa_nil)))))))))
  (pss_cons (ps_set (i := 2) sc_l_deck.nd rfl (Or.inl rfl) (pe_slice (sl_listK K) (pv 2) po_none (po_some (pv 1))))
  (pss_cons (ps_expr (pe_bm0 PySem.F.plainAttrs_list PySem.F.slot_list_reverse PySem.F.type_list_reverse mt_reverse (pv 2)))
  (pss_one (ps_ret (pv 2)))))))), ?_⟩
  refine ⟨by decide, fun d hd => ?_⟩
  have s0 : Same H (upd H d (.lst [])) := Same.new hd
  have lenS : ∀ {H' : Hp}, Same H H' → LenV K (.ref sa) H' ns.length := fun s => .inl ⟨_, s.seq hS, by rw [List.length_map]⟩
  have m31 : ∀ x : Int, 0 ≤ x % 2147483629 ∧ x % 2147483629 < 2147483629 := fun x => ⟨Int.emod_nonneg _ (by decide), Int.emod_lt_of_pos _ (by decide)⟩
  have mul1 : ∀ x y : Int, CMul (x % 2147483629) y := fun x y => .inl (by have := m31 x; constructor <;> omega)
  refine ⟨_, rfl, _, ns.length, rfl, lenS s0, 63, (ns.length : Int), rfl, _, rfl, by split <;> omega, by split <;> omega,
   for_range (fun i σ H' => ∃ (ms : List Int) (v3 v4 v5 v6 : Option V), σ = [some (.ref sa), some (.int 900), some (.ref d), v3, v4, v5, v6] ∧ Same H H' ∧ H' d = some (.lst (ms.map V.int)) ∧ ms.length ≤ 60 * i)
    ⟨[], none, none, none, none, rfl, s0, upd_same, by simp⟩ ?_ ?_⟩
  ·rintro i σ H1 hi ⟨ms, v3, v4, v5, v6, rfl, s1, e1, hl⟩
   have hi' : i < ns.length := by split at hi <;> omega
   have hi63 : i < 63 := by split at hi <;> omega
   obtain ⟨c, hc⟩ : ∃ c, ns[i]? = some c := ⟨_, List.getElem?_eq_getElem hi'⟩
   refine ⟨_, rfl, _, rfl, sa, _, _, V.int c, rfl, rfl, s1.seq hS, ?_, ?_⟩
   ·rw [show (0 : Int) + (i : Int) = (i : Int) by omega]
    exact atI_nat (by rw [List.getElem?_map, hc]; rfl)
   refine ⟨_, rfl, _, _, rfl, rfl, ⟨by decide, by decide, by decide⟩, _, _, rfl, rfl, _, rfl, ?_⟩
   refine ite2 (fun _ => ?_) (fun _ => ?_)
   ·refine ⟨(60 : Int), rfl, by decide, by decide, for_range (fun j σ H2 => ∃ (ms : List Int) (c : Int) (v5 v6 : Option V), σ = [some (.ref sa), some (.int 900), some (.ref d), some (.int (0 + (i : Int))), some (.int c), v5, v6] ∧ Same H H2 ∧ H2 d = some (.lst (ms.map V.int)) ∧ ms.length ≤ 60 * i + j)
     ⟨ms, c, v5, v6, rfl, s1, e1, hl⟩ ?_ ?_⟩
    ·rintro j σ H2 hj ⟨ms, c, v5, v6, rfl, s2, e2, hl2⟩
     have hj' : j < 60 := hj
     refine ⟨_, rfl, _, _, rfl, rfl, _, rfl, ?_⟩
     refine ite2 (fun _ => ?_) (fun _ => ?_)
     ·refine ⟨_, rfl, .inl ⟨rfl, _, .of e2⟩, _, rfl, _, _, rfl, rfl, cpos (by decide), d, _, _, rfl, rfl, e2, ?_, ?_⟩
      ·rw [List.length_map]; exact Nat.lt_of_lt_of_le (show ms.length < 10000 by omega) (by decide)
      refine ⟨_, rfl, _, _, rfl, rfl, ⟨by decide, by decide⟩, ms ++ [c % 720720], c / 720720, _, _, rfl, s2.kbn hd KB.write, ?_, ?_⟩
      ·rw [upd_same, List.map_append]; rfl
      ·rw [List.length_append]; show ms.length + 1 ≤ _; omega
     ·exact ⟨ms, c, _, _, rfl, s2, e2, by omega⟩
    ·rintro σ H2 ⟨ms, c, v5, v6, rfl, s2, e2, hl2⟩
     have hl2' : ms.length ≤ 60 * i + 60 := hl2
     exact ⟨ms, _, _, _, _, rfl, s2, e2, by omega⟩
   ·refine ⟨_, rfl, _, _, rfl, rfl, cpos (by decide), _, _, rfl, rfl, .inr (by decide), _, rfl, _, _, rfl, rfl, .inl (by decide), _, _, rfl, rfl, _, _, rfl, rfl, _, _, rfl, rfl, cpos (by decide), ?_⟩
    refine ⟨_, rfl, _, rfl, _, _, rfl, rfl, ⟨by decide, by decide⟩, _, _, rfl, rfl, _, _, rfl, rfl, mul1 _ _, _, rfl, _, _, rfl, rfl, .inl (by decide), _, _, rfl, rfl, _, _, rfl, rfl, cpos (by decide), ?_⟩
    refine ⟨_, rfl, .inl ⟨rfl, _, .of e1⟩, _, rfl, _, _, rfl, rfl, cpos (by decide), _, rfl, _, _, rfl, rfl, .inr (by decide), _, _, rfl, rfl, cpos (by decide), _, _, rfl, rfl, cpos (by decide), by show 2 ≤ sizeLine; decide, fun L hL => ?_⟩
    have ndL : d ≠ L := ne_of_none e1 hL
    refine ⟨d, L, _, _, rfl, rfl, by rw [upd_ne ndL]; exact e1, upd_same, ?_, ?_⟩
    ·rw [List.length_map]; exact Nat.le_trans (show ms.length + 2 ≤ 10000 by omega) (by decide)
    refine ⟨ms ++ [?x1, ?x2], _, _, _, _, rfl, (s1.trans (Same.new hL)).kbn hd KB.write, ?eq, ?len⟩
    case eq => rw [upd_same, List.map_append]; rfl
    case len => rw [List.length_append]; show ms.length + 2 ≤ _; omega
  ·rintro σ H1 ⟨ms, v3, v4, v5, v6, rfl, s1, e1, hl⟩
   have hl' : ms.length ≤ 3780 := by split at hl <;> omega
   refine ⟨_, rfl, _, ms.length, rfl, .inl ⟨_, .of e1, by rw [List.length_map]⟩, _, rfl, (ms.length : Int), 900, rfl, by omega, for_range (fun j σ H' => ∃ (ms' : List Int) (v3 v4 v5 v6 : Option V), σ = [some (.ref sa), some (.int 900), some (.ref d), v3, v4, v5, v6] ∧ Same H H' ∧ H' d = some (.lst (ms'.map V.int)) ∧ ms'.length = ms.length + j)
    ⟨ms, v3, v4, v5, v6, rfl, s1, e1, rfl⟩ ?_ ?_⟩
   ·rintro j σ H2 hj ⟨ms', v3, v4, v5, v6, rfl, s2, e2, hl2⟩
    dsimp only [gName]
    refine seq_const ?_
    refine seq_rest (t := tIfS _ _ _) (u := tSeq _ _) (fun σ H' => ∃ (x : Int), σ = [some (.ref sa), some (.int 900), some (.ref d), some (.int ((ms.length : Int) + (j : Int))), v4, v5, some (.int x)] ∧ H' = H2) ?_ (fun rest => ?_)
    ·rintro σ H3 ⟨x, rfl, rfl⟩
     refine ⟨_, rfl, _, _, rfl, rfl, .inr (by decide), _, rfl, _, _, rfl, rfl, .inl (by decide), _, _, rfl, rfl, _, _, rfl, rfl, _, _, rfl, rfl, cpos (by decide), ?_⟩
     refine ⟨_, rfl, _, rfl, _, _, rfl, rfl, ⟨by decide, by decide⟩, _, _, rfl, rfl, _, _, rfl, rfl, mul1 _ _, _, rfl, _, _, rfl, rfl, .inl (by decide), _, _, rfl, rfl, _, _, rfl, rfl, cpos (by decide), ?_⟩
     refine ⟨_, rfl, .inl ⟨rfl, _, .of e2⟩, _, rfl, _, _, rfl, rfl, .inr (by decide), _, _, rfl, rfl, cpos (by decide), _, _, rfl, rfl, cpos (by decide), d, _, _, rfl, rfl, e2, ?_, ?_⟩
     ·rw [List.length_map]; exact Nat.lt_of_lt_of_le (show ms'.length < 10000 by omega) (by decide)
     refine ⟨ms' ++ [?y1], _, _, _, _, rfl, s2.kbn hd KB.write, ?eq2, ?len2⟩
     case eq2 => rw [upd_same, List.map_append]; rfl
     case len2 => rw [List.length_append, hl2]; rfl
    ·refine ⟨_, rfl, _, ns.length, rfl, lenS s2, _, _, rfl, rfl, _, rfl, ?_⟩
     refine ite2 (fun hp => ?_) (fun _ => rest _ _ ⟨11, rfl, rfl⟩)
     have hp' : 0 < ns.length := by have := of_decide_eq_true hp; omega
     refine ⟨_, rfl, _, rfl, _, rfl, _, ns.length, rfl, lenS s2, 63, (ns.length : Int), rfl, _, _, rfl, rfl, cpos (by split <;> omega), ?_⟩
     obtain ⟨q, hq1, hq2⟩ : ∃ q : Nat, ((ms.length : Int) + (j : Int)) % (if (ns.length : Int) < 63 then (ns.length : Int) else 63) = (q : Int) ∧ q < ns.length := by
      refine ⟨(((ms.length : Int) + (j : Int)) % (if (ns.length : Int) < 63 then (ns.length : Int) else 63)).toNat, ?_, ?_⟩
      ·have := Int.emod_nonneg ((ms.length : Int) + (j : Int)) (show (if (ns.length : Int) < 63 then (ns.length : Int) else 63) ≠ 0 by split <;> omega)
       omega
      ·have := Int.emod_nonneg ((ms.length : Int) + (j : Int)) (show (if (ns.length : Int) < 63 then (ns.length : Int) else 63) ≠ 0 by split <;> omega)
       have h2 := Int.emod_lt_of_pos ((ms.length : Int) + (j : Int)) (show (0 : Int) < (if (ns.length : Int) < 63 then (ns.length : Int) else 63) by split <;> omega)
       split at h2 <;> split <;> omega
     obtain ⟨c, hc⟩ : ∃ c, ns[q]? = some c := ⟨_, List.getElem?_eq_getElem hq2⟩
     refine ⟨sa, _, _, V.int c, rfl, rfl, s2.seq hS, ?_, _, _, rfl, rfl, cpos (by decide), rest _ _ ⟨_, rfl, rfl⟩⟩
     rw [hq1]
     exact atI_nat (by rw [List.getElem?_map, hc]; rfl)
   ·rintro σ H2 ⟨ms', v3, v4, v5, v6, rfl, s2, e2, hl2⟩
    refine ⟨_, rfl, _, rfl, _, rfl, d, _, rfl, .of e2, fun D hD => ?_⟩
    rw [show (some (900 : Int)) = some ((900 : Nat) : Int) from rfl, cutTake]
    refine ⟨_, rfl, .inl ⟨rfl, _, .of upd_same⟩, D, _, rfl, rfl, upd_same, ?_⟩
    exact ⟨_, rfl, k D _ (s2.free hD) ((s2.trans (Same.new hD)).kbn (s2.free hD) KB.write) ⟨(ms'.take 900).reverse, by rw [upd_same, List.map_reverse]⟩⟩
def abc (g : Bool) : Str := if g then "ABCDEFGHIJKLMNOPQRSTUVWXYZ" else "abcdefghijklmnopqrstuvwxyz"
theorem abc_len (g : Bool) : (abc g).cps.toList.length = 26 := by cases g <;> decide +kernel
theorem abc_len' (g : Bool) : (abc g).length ≤ sizeLine := by
 have : (abc g).length = 26 := by cases g <;> decide +kernel
 rw [this]; decide
theorem abc_at (g : Bool) (r : Int) (h0 : 0 ≤ r) (h1 : r < 26) : ∃ c, atI (abc g).cps.toList r = some c := by
 obtain ⟨n, hn⟩ : ∃ n : Nat, r = (n : Int) := ⟨r.toNat, by omega⟩
 subst hn
 exact ⟨_, atI_nat (List.getElem?_eq_getElem (by rw [abc_len]; omega))⟩
theorem strApp (a y : PySem.Str) : (a ++ y).cps.toList = a.cps.toList ++ y.cps.toList := by
 show (a.cps ++ y.cps).toList = _
 rw [Array.toList_append]
def letC (g : Bool) (x : Int) : Nat := (abc g).cps.toList.getD x.toNat 0
theorem letC_at {g : Bool} {x : Int} {c : Nat} (h0 : 0 ≤ x) (h1 : x < 26) (h : atI (abc g).cps.toList x = some c) : c = letC g x := by
 obtain ⟨n, rfl⟩ : ∃ n : Nat, x = (n : Int) := ⟨x.toNat, by omega⟩
 have e : atI (abc g).cps.toList (n : Int) = (abc g).cps.toList[n]? := by
  have := List.getElem?_eq_getElem (l := (abc g).cps.toList) (i := n) (by rw [abc_len]; omega)
  rw [atI_nat this, this]
 rw [e] at h
 unfold letC
 rw [Int.toNat_natCast, List.getD_eq_getElem?_getD, h]
 rfl
theorem letC_inj {g : Bool} {x y : Int} (x0 : 0 ≤ x) (x1 : x < 26) (y0 : 0 ≤ y) (y1 : y < 26) (h : letC g x = letC g y) : x = y := by
 have key : ∀ g : Bool, ∀ i j : Fin 26, (abc g).cps.toList.getD i.val 0 = (abc g).cps.toList.getD j.val 0 → i = j := by decide +kernel
 have := key g ⟨x.toNat, by omega⟩ ⟨y.toNat, by omega⟩ h
 have e : x.toNat = y.toNat := Fin.mk.inj this
 omega
def shI (rs : List Int) (pl : Int) (i j : Nat) : Int := (rs.getD j 0 + (i : Int) * (if (j : Int) = pl then 1 else 0)) % 26
theorem shI_lt (rs : List Int) (pl : Int) (i j : Nat) : 0 ≤ shI rs pl i j ∧ shI rs pl i j < 26 := ⟨Int.emod_nonneg _ (by decide), Int.emod_lt_of_pos _ (by decide)⟩
def cw (g : Bool) (rs : List Int) (pl : Int) (i : Nat) : List Nat := (List.range rs.length).map fun j => letC g (shI rs pl i j)
theorem cw_len (g : Bool) (rs : List Int) (pl : Int) (i : Nat) : (cw g rs pl i).length = rs.length := by simp [cw]
theorem cw_at {g : Bool} {rs : List Int} {pl : Int} {i j : Nat} (h : j < rs.length) : (cw g rs pl i)[j]? = some (letC g (shI rs pl i j)) := by
 unfold cw
 rw [List.getElem?_map, List.getElem?_range h]
 rfl
theorem cw_inj {g : Bool} {rs : List Int} {pl : Int} {i k : Nat} (p0 : 0 ≤ pl) (p1 : pl < rs.length) (hi : i < 26) (hk : k < 26) (h : cw g rs pl i = cw g rs pl k) : i = k := by
 have hp : pl.toNat < rs.length := by omega
 have e1 := cw_at (g := g) (pl := pl) (i := i) hp
 rw [h, cw_at hp] at e1
 have e2 := letC_inj (shI_lt rs pl k _).1 (shI_lt rs pl k _).2 (shI_lt rs pl i _).1 (shI_lt rs pl i _).2 (Option.some.inj e1)
 unfold shI at e2
 rw [if_pos (by omega)] at e2
 omega
theorem cw_alike {g : Bool} {rs : List Int} {pl : Int} {i k j : Nat} (h : (j : Int) ≠ pl) (hj : j < rs.length) : (cw g rs pl i)[j]? = (cw g rs pl k)[j]? := by
 rw [cw_at hj, cw_at hj]
 unfold shI
 rw [if_neg h, Int.mul_zero, Int.mul_zero]
def nots : List (List Nat) := [("not" : Str).cps.toList, ("and" : Str).cps.toList, ("or" : Str).cps.toList]
def fw (g : Bool) (rs : List Int) (pl lo : Int) (i : Nat) : List Nat :=
 if cw g rs pl i ∈ nots then (cw g rs pl i).dropLast else if lo = 1 ∧ i % 2 = 1 ∧ rs.length < 3 then cw g rs pl i ++ [letC g 16] else cw g rs pl i
theorem fw_inj {g : Bool} {rs : List Int} {pl lo : Int} {i k : Nat} (l0 : 0 < rs.length) (p0 : 0 ≤ pl) (p1 : pl < rs.length) (hi : i < 26) (hk : k < 26) (h : fw g rs pl lo i = fw g rs pl lo k) : i = k := by
 have li := cw_len g rs pl i
 have lk := cw_len g rs pl k
 unfold fw at h
 by_cases ni : cw g rs pl i ∈ nots
 ·rw [if_pos ni] at h
  by_cases nk : cw g rs pl k ∈ nots
  ·rw [if_pos nk] at h
   refine cw_inj (g := g) p0 p1 hi hk ?_
   unfold nots at ni nk
   simp only [List.mem_cons, List.not_mem_nil, or_false] at ni nk
   have at_ : ∀ j : Nat, (j : Int) ≠ pl → j < rs.length → (cw g rs pl i)[j]? = (cw g rs pl k)[j]? := fun j a b => cw_alike a b
   rcases ni with a | a | a <;> rcases nk with b | b | b <;> first | (rw [a, b]; done) | skip
   all_goals (exfalso; rw [a, b] at at_; rw [a] at li; rw [b] at lk)
   ·have l3 : rs.length = 3 := by rw [← li]; decide
    have h0 := at_ 0
    have h1 := at_ 1
    by_cases z : pl = 0
    ·exact absurd (h1 (by omega) (by omega)) (by decide)
    ·exact absurd (h0 (by omega) (by omega)) (by decide)
   ·rw [← lk] at li; exact absurd li (by decide)
   ·have l3 : rs.length = 3 := by rw [← li]; decide
    have h0 := at_ 0
    have h1 := at_ 1
    by_cases z : pl = 0
    ·exact absurd (h1 (by omega) (by omega)) (by decide)
    ·exact absurd (h0 (by omega) (by omega)) (by decide)
   ·rw [← lk] at li; exact absurd li (by decide)
   ·rw [← lk] at li; exact absurd li (by decide)
   ·rw [← lk] at li; exact absurd li (by decide)
  ·rw [if_neg nk] at h
   have := congrArg List.length h
   rw [List.length_dropLast, li] at this
   split at this
   ·rw [List.length_append, lk] at this; simp at this <;> omega
   ·rw [lk] at this; omega
 ·rw [if_neg ni] at h
  by_cases nk : cw g rs pl k ∈ nots
  ·rw [if_pos nk] at h
   have := congrArg List.length h
   rw [List.length_dropLast, lk] at this
   split at this
   ·rw [List.length_append, li] at this; simp at this <;> omega
   ·rw [li] at this; omega
  ·rw [if_neg nk] at h
   split at h <;> split at h
   ·exact cw_inj p0 p1 hi hk (List.append_cancel_right h)
   ·have := congrArg List.length h; rw [List.length_append, li, lk] at this; simp at this
   ·have := congrArg List.length h; rw [List.length_append, li, lk] at this; simp at this
   ·exact cw_inj p0 p1 hi hk h
theorem join_codes : ∀ l : List Nat, (Txt.join ("" : Str) (l.map fun c => (⟨#[c]⟩ : Str))).cps.toList = l := by
 intro l
 unfold Txt.join
 rw [StrLaws.glued_eq_join]
 induction l with
 | nil => rfl
 | cons c l ih =>
  cases l with
  | nil => rfl
  | cons c2 l =>
   rw [List.map_cons, List.map_cons] at *
   show ((⟨#[c]⟩ : Str) ++ ("" : Str) ++ Str.join "" ((⟨#[c2]⟩ : Str) :: l.map fun c => (⟨#[c]⟩ : Str))).cps.toList = _
   rw [strApp, strApp, ih]
   rfl
theorem nodup_by {α : Type} {l : List α} : l.Nodup ↔ ∀ i j : Nat, i < j → j < l.length → l[i]? ≠ l[j]? := by
 unfold List.Nodup
 rw [List.pairwise_iff_getElem]
 constructor
 ·intro h i j hij hj e
  rw [List.getElem?_eq_getElem (by omega), List.getElem?_eq_getElem hj] at e
  exact h i j (by omega) hj hij (Option.some.inj e)
 ·intro h i j hi hj hij e
  exact h i j hij hj (by rw [List.getElem?_eq_getElem hi, List.getElem?_eq_getElem hj, e])
theorem nodup_set {α : Type} {l : List α} (h : l.Nodup) {y : α} (hy : y ∉ l) (q : Nat) : (l.set q y).Nodup := by
 rw [nodup_by] at h ⊢
 intro i j hij hj
 rw [List.length_set] at hj
 intro e
 rw [List.getElem?_set, List.getElem?_set] at e
 have hm : ∀ t, t < l.length → l[t]? ≠ some y := fun t _ z => hy (List.mem_of_getElem? z)
 by_cases a : q = i <;> by_cases b : q = j
 ·omega
 ·rw [if_pos a, if_neg b, if_pos (by omega)] at e; exact hm j hj e.symm
 ·rw [if_neg a, if_pos b, if_pos (by omega)] at e; exact hm i (by omega) e
 ·rw [if_neg a, if_neg b] at e; exact h i j hij hj e
def wdS (g : Bool) (rs : List Int) (pl lo : Int) (i : Nat) : Str := ⟨(fw g rs pl lo i).toArray⟩
theorem wd_nodup {g : Bool} {rs : List Int} {pl lo : Int} (l0 : 0 < rs.length) (p0 : 0 ≤ pl) (p1 : pl < rs.length) (m : Nat) (hm : m ≤ 26) : ((List.range m).map (wdS g rs pl lo)).Nodup := by
 rw [nodup_by]
 intro i j hij hj e
 rw [List.length_map, List.length_range] at hj
 rw [List.getElem?_map, List.getElem?_map, List.getElem?_range (by omega), List.getElem?_range hj] at e
 have e1 : wdS g rs pl lo i = wdS g rs pl lo j := Option.some.inj e
 have e2 : fw g rs pl lo i = fw g rs pl lo j := by
  have := congrArg (fun z : Str => z.cps.toList) e1
  simpa [wdS] using this
 have := fw_inj l0 p0 p1 (by omega) (by omega) e2
 omega
theorem str_codes {x y : Str} (h : x.cps.toList = y.cps.toList) : x = y := by
 obtain ⟨a⟩ := x
 obtain ⟨b⟩ := y
 have : a = b := Array.toList_inj.mp h
 rw [this]
theorem inV_strs (z : Str) : ∀ l : List Str, inV (.str z) (l.map V.str) = decide (z ∈ l)
 | [] => by simp [inV]
 | x :: l => by
  have ih := inV_strs z l
  unfold inV at ih ⊢
  rw [List.map_cons, List.any_cons, ih]
  show ((x == z) || _) = _
  by_cases e : x = z
  ·subst e; simp
  ·have e' : ¬ z = x := fun q => e q.symm
   simp [e, e']
theorem nots_in {z : Str} {l : List Nat} (e : z.cps.toList = l) : z ∈ (["not", "and", "or"] : List Str) ↔ l ∈ nots := by
 unfold nots
 subst e
 simp only [List.mem_cons, List.not_mem_nil, or_false]
 constructor
 ·rintro (rfl | rfl | rfl)
  ·exact .inl rfl
  ·exact .inr (.inl rfl)
  ·exact .inr (.inr rfl)
 ·rintro (h | h | h)
  ·exact .inl (str_codes h)
  ·exact .inr (.inl (str_codes h))
  ·exact .inr (.inr (str_codes h))
theorem slice_nots {z : Str} (h : z ∈ (["not", "and", "or"] : List Str)) : (Txt.slice z none (some (-1))).cps.toList = z.cps.toList.dropLast := by
 simp only [List.mem_cons, List.not_mem_nil, or_false] at h
 rcases h with rfl | rfl | rfl <;> decide +kernel
theorem wd_cut {g : Bool} {rs : List Int} {pl lo : Int} {i : Nat} {z : Str} (e : z.cps.toList = cw g rs pl i) (h : z ∈ (["not", "and", "or"] : List Str)) : Txt.slice z none (some (-1)) = wdS g rs pl lo i := by
 refine str_codes ?_
 rw [slice_nots h, e]
 show _ = (fw g rs pl lo i).toArray.toList
 unfold fw
 rw [if_pos ((nots_in e).mp h)]
theorem wd_app {g : Bool} {rs : List Int} {pl lo : Int} {i : Nat} {z : Str} {c : Nat} (e : z.cps.toList = cw g rs pl i) (h : z ∉ (["not", "and", "or"] : List Str)) (hc : c = letC g 16) (h1 : lo = 1) (h2 : i % 2 = 1) (h3 : z.length < 3) : z ++ (⟨#[c]⟩ : Str) = wdS g rs pl lo i := by
 refine str_codes ?_
 rw [strApp, e]
 show _ = (fw g rs pl lo i).toArray.toList
 unfold fw
 have l : rs.length < 3 := by rw [← cw_len g rs pl i, ← e]; exact h3
 rw [if_neg (fun q => h ((nots_in e).mpr q)), if_pos ⟨h1, h2, l⟩, hc]
theorem wd_same {g : Bool} {rs : List Int} {pl lo : Int} {i : Nat} {z : Str} (e : z.cps.toList = cw g rs pl i) (h : z ∉ (["not", "and", "or"] : List Str)) (h1 : ¬ (lo = 1 ∧ i % 2 = 1 ∧ z.length < 3)) : z = wdS g rs pl lo i := by
 refine str_codes ?_
 rw [e]
 show _ = (fw g rs pl lo i).toArray.toList
 unfold fw
 have l : rs.length = z.length := by rw [← cw_len g rs pl i, ← e]; rfl
 rw [if_neg (fun q => h ((nots_in e).mpr q)), if_neg (by rw [l]; exact h1)]
def seven : List Str := ["ora", "orb", "ort", "orz", "orr", "oro", "ors"]
theorem drop_one {n : Str} : ∀ (cs : List Str), cs.Nodup → cs.length ≤ (cs.filter fun c => !decide (n = c)).length + 1
 | [], _ => by simp
 | c :: cs, h => by
  rw [List.nodup_cons] at h
  by_cases e : n = c
  ·subst e
   have : (cs.filter fun c => !decide (n = c)) = cs := by
    rw [List.filter_eq_self]
    intro x hx
    have : n ≠ x := fun z => h.1 (z ▸ hx)
    simp [this]
   simp [this]
  ·have := drop_one (n := n) cs h.2
   simp [e]
   omega
theorem enough : ∀ (ns cs : List Str), cs.Nodup → cs.length ≤ (cs.filter fun c => !(inV (.str c) (ns.map V.str))).length + ns.length
 | [], cs, _ => by
  have : (cs.filter fun c => !(inV (.str c) (([] : List Str).map V.str))) = cs := by
   rw [List.filter_eq_self]; intro x hx; rfl
  rw [this]; simp
 | n :: ns, cs, h => by
  have h1 := enough ns cs h
  have h2 := drop_one (n := n) (cs.filter fun c => !(inV (.str c) (ns.map V.str))) (h.sublist List.filter_sublist)
  have e : (cs.filter fun c => !(inV (.str c) ((n :: ns).map V.str))) = (cs.filter fun c => !(inV (.str c) (ns.map V.str))).filter fun c => !decide (n = c) := by
   rw [List.filter_filter]
   congr 1
   funext c
   unfold inV
   rw [List.map_cons, List.any_cons]
   show (!((n == c) || _)) = _
   rw [Bool.not_or]
   congr 1
   first | done | (by_cases z : n = c <;> simp [z])
  rw [e, List.length_cons]
  omega
def spNames : Sp := fun vs H Q _ => ∃ (d : Addr) (m : Nat) (g : Bool), vs = [.ref d, .int m, .bl g] ∧ Deck2 H d ∧ m ≤ 6 ∧
 ∀ (N : Addr) (ss : List Str) (H' : Hp), H N = none → KB d H H' → Deck2 H' d → H' N = some (.lst (ss.map V.str)) → ss.length = m → ss.Nodup → Q (.ref N) H'
theorem sc_l_names : FnScope ["_law_deck_here", "_law_many", "_law_great", "_law_letters", "_law_base", "_law_place", "_law_longer", "_law_names_here", "_law_k", "_law_word", "_law_some"] ["_law_deck_here", "_law_many", "_law_great"] (defScope s_l_names) := ⟨rfl, rfl, rfl, by decide +kernel, rfl, by decide +kernel, by decide +kernel⟩
theorem ok_l_names {a : Adr} (T : Txt K mg a) : FnOk P w K mg base CX0 2 a.f_l_names a.fd_l_names ["_law_deck_here", "_law_many", "_law_great"] spNames := by
 have G_l_next := ok_l_next (P := P) (w := w) (base := base) T
 refine T.F_l_names.ok sc_l_names (fun vs H Q E h => ?_) (fun cdv A outer s H vs Q E hr h => ?_)
 ·obtain ⟨d, m, g, rfl, _⟩ := h
  rfl
 ·obtain ⟨d, m, g, rfl, hd, hm, k⟩ := h
  have hr_l_next : Room 1 _ := hr
  refine ⟨_, (pss_cons (ps_set (i := 3) sc_l_names.nd rfl (Or.inr rfl) (pe_ix (ix_listK K) (pe_lst (pa_cons pe_str (pa_cons pe_str pa_nil))) (pe_callTy call_int1 (by rfl) T.z_int bt_int (pa_cons (pv 2) pa_nil)) (fun _ _ => rfl)))
  (pss_cons (ps_set (i := 4) sc_l_names.nd rfl (Or.inr rfl) (pe_comp (CompScope.mk' (esc := defScope s_l_names) (N := ["_law_deck_here", "_law_many", "_law_great", "_law_letters", "_law_base", "_law_place", "_law_longer", "_law_names_here", "_law_k", "_law_word", "_law_some"]) (own := ["_law_k"]) (frn := ["_law_deck_here"]) (frj := [0]) rfl rfl (by decide +kernel)) rfl (pi_range1 rfl T.z_range (pa_cons (pe_op op_add pe_int (pe_call G_l_next hr_l_next rfl T.m_l_next T.k_l_next T.b_l_next .nil pass0 (pa_cons (pv 0) (pa_cons pe_int pa_nil)))) pa_nil)) (fun _ _ _ _ => (pg_name (i := 0) (show List.Nodup (["_law_k", "_law_deck_here"] : List Str) by decide +kernel) rfl (Or.inl rfl))) (fun _ _ _ _ => pifs_nil) (fun _ _ _ _ => (pe_call G_l_next hr_l_next rfl T.m_l_next T.k_l_next T.b_l_next .nil pass0 (pa_cons (pv 1) (pa_cons pe_int pa_nil))))))
  (pss_cons (ps_set (i := 5) sc_l_names.nd rfl (Or.inr rfl) (pe_call G_l_next hr_l_next rfl T.m_l_next T.k_l_next T.b_l_next .nil pass0 (pa_cons (pv 0) (pa_cons (pe_callB (call_lenK K) (by rfl) T.z_len bt_len (pa_cons (pv 4) pa_nil)) pa_nil))))
  (pss_cons (ps_set (i := 6) sc_l_names.nd rfl (Or.inl rfl) (pe_call G_l_next hr_l_next rfl T.m_l_next T.k_l_next T.b_l_next .nil pass0 (pa_cons (pv 0) (pa_cons pe_int pa_nil))))
  (pss_cons (ps_set (i := 7) sc_l_names.nd rfl (Or.inr rfl) (pe_lst pa_nil))
  (pss_cons (ps_for PassesOwn.never rfl (pi_range1 rfl T.z_range (pa_cons (pv 1) pa_nil)) (pg_name (i := 8) sc_l_names.nd rfl (Or.inr rfl))
   (pss_cons (ps_set (i := 9) sc_l_names.nd rfl (Or.inl rfl) (pe_bm PySem.F.plainAttrs_str PySem.F.slot_str_join PySem.F.type_str_join (mt_joinK K) pe_str (pa_cons (pe_comp (CompScope.mk' (esc := defScope s_l_names) (N := ["_law_deck_here", "_law_many", "_law_great", "_law_letters", "_law_base", "_law_place", "_law_longer", "_law_names_here", "_law_k", "_law_word", "_law_some"]) (own := ["_law_j"]) (frn := ["_law_letters", "_law_base", "_law_k", "_law_place"]) (frj := [3, 4, 8, 5]) rfl rfl (by decide +kernel)) rfl (pi_range1 rfl T.z_range (pa_cons (pe_callB (call_lenK K) (by rfl) T.z_len bt_len (pa_cons (pv 4) pa_nil)) pa_nil)) (fun _ _ _ _ => (pg_name (i := 0) (show List.Nodup (["_law_j", "_law_letters", "_law_base", "_law_k", "_law_place"] : List Str) by decide +kernel) rfl (Or.inl rfl))) (fun _ _ _ _ => pifs_nil) (fun _ _ _ _ => (pe_ix ix_str (pv 1) (pe_op op_modP (pe_op op_add (pe_ix (ix_listK K) (pv 2) (pv 0) (fun _ _ => rfl)) (pe_op op_mul (pv 3) (pe_callTy call_int1 (by rfl) T.z_int bt_int (pa_cons (pe_cmpR op_eq (pv 0) (pv 4) (nomark _)) pa_nil)))) pe_int) (fun _ _ => rfl)))) pa_nil)))
   (pss_cons (ps_if (pt_cmpR (op_inK K) (pv 9) (pe_lst (pa_cons pe_str (pa_cons pe_str (pa_cons pe_str pa_nil)))) (by with_unfolding_all rfl))
    (pss_one (ps_set (i := 9) sc_l_names.nd rfl (Or.inl rfl) (pe_slice sl_str (pv 9) po_none (po_some (pe_un un_neg pe_int)))))
    (pss_one (ps_if (PW.pt (pw_and (pt_cmpR op_eq (pv 6) pe_int (nomark _)) (pw_and (pt_cmpR op_eq (pe_op op_modP (pv 8) pe_int) pe_int (nomark _)) (pw_and1 (pt_cmpR op_lt (pe_callB (call_lenK K) (by rfl) T.z_len bt_len (pa_cons (pv 9) pa_nil)) pe_int (nomark _))))))
     (pss_one (ps_set (i := 9) sc_l_names.nd rfl (Or.inl rfl) (pe_op op_add_str (pv 9) (pe_ix ix_str (pv 3) pe_int (fun _ _ => rfl)))))
     pss_nil)))
   (pss_one (ps_expr (pe_bm PySem.F.plainAttrs_list PySem.F.slot_list_append PySem.F.type_list_append mt_append (pv 7) (pa_cons (pv 9) pa_nil)))))))
  (pss_cons (ps_if (PW.pt (pw_and (pt_cmpR op_gt (pv 1) pe_int (nomark _)) (pw_and (pt_not (pt_truth (pv 2) (fun _ => rfl))) (pw_and1 (pt_cmpR op_eq (pe_call G_l_next hr_l_next rfl T.m_l_next T.k_l_next T.b_l_next .nil pass0 (pa_cons (pv 0) (pa_cons pe_int pa_nil))) pe_int (nomark _))))))
   (pss_cons (ps_setComp (i := 10) (CompScope.mk' (esc := defScope s_l_names) (N := ["_law_deck_here", "_law_many", "_law_great", "_law_letters", "_law_base", "_law_place", "_law_longer", "_law_names_here", "_law_k", "_law_word", "_law_some"]) (own := ["_law_word"]) (frn := ["_law_names_here"]) (frj := [7]) rfl rfl (by decide +kernel)) rfl (pi_list (pe_lst (pa_cons pe_str (pa_cons pe_str (pa_cons pe_str (pa_cons pe_str (pa_cons pe_str (pa_cons pe_str (pa_cons pe_str pa_nil))))))))) (fun _ _ _ _ => (pg_name (i := 0) (show List.Nodup (["_law_word", "_law_names_here"] : List Str) by decide +kernel) rfl (Or.inl rfl))) (fun _ _ _ _ => (pifs_one (pt_cmpR (op_notInK K) (pv 0) (pv 1) (by with_unfolding_all rfl)))) (fun _ _ _ _ => (pv 0)) sc_l_names.nd rfl rfl)
   (pss_one (ps_asg (pe_ix (ix_listK K) (pv 10) pe_int (fun _ _ => rfl)) (pg_sub (pv 7) (pe_call G_l_next hr_l_next rfl T.m_l_next T.k_l_next T.b_l_next .nil pass0 (pa_cons (pv 0) (pa_cons (pv 1) pa_nil))) set_list))))
   pss_nil)
  (pss_one (ps_ret (pv 7)))))))))), ?_⟩
  refine ⟨by show 2 ≤ sizeLine; decide, fun L hL => ⟨_, rfl, .inr ⟨g, rfl, L, _, _, .str (abc g), rfl, rfl, .of upd_same, by cases g <;> rfl, ?_⟩⟩⟩
  have s1 := Same.new (o := .lst [.str "abcdefghijklmnopqrstuvwxyz", .str "ABCDEFGHIJKLMNOPQRSTUVWXYZ"]) hL
  have d1 := hd.same s1
  refine ⟨_, rfl, d, 3, rfl, d1, by decide, fun t H2 t0 t1 k2 d2 => ⟨_, _, rfl, rfl, _, rfl, by omega, by omega, fun B hB => ?_⟩⟩
  have nBd : B ≠ d := (d2.ne hB).symm
  refine comp_range (fun i σ H' => ∃ (rs : List Int) (v : Option V), σ = [v, some (.ref d)] ∧ KB d H2 H' ∧ Deck2 H' d ∧ H' B = some (.lst (rs.map V.int)) ∧ rs.length = i)
   ⟨[], none, rfl, (Same.new hB).kb, d2.same (Same.new hB), upd_same, rfl⟩ ?_ ?_
  ·rintro i σ H3 hi ⟨rs, v, rfl, k3, d3, e3, lr⟩
   refine ⟨_, rfl, d, 26, rfl, d3, by decide, fun r H4 r0 r1 k4 d4 => ?_⟩
   refine ⟨rs.map V.int, k4 _ _ e3 nBd, ?_, rs ++ [r], _, rfl, ?_, d4.kb KB.write nBd.symm, ?_, ?_⟩
   ·rw [List.length_map]; exact Nat.lt_of_lt_of_le (show rs.length < 100 by omega) (by decide)
   ·intro b o e n
    rw [upd_ne (ne_of_none e hB)]
    exact k4 b o (k3 b o e n) n
   ·rw [upd_same, List.map_append]; rfl
   ·rw [List.length_append, lr]; rfl
  rintro σ H3 ⟨rs, v, rfl, k3, d3, e3, lr⟩
  have lr' : 0 < rs.length ∧ rs.length ≤ 3 := by omega
  refine ⟨_, rfl, _, rfl, _, rs.length, rfl, .inl ⟨_, .of e3, by rw [List.length_map]⟩, d, (rs.length : Int), rfl, d3, by omega, fun pl H4 p0 p1 k4 d4 => ?_⟩
  have e4 := k4 _ _ e3 nBd
  refine ⟨_, rfl, d, 2, rfl, d4, by decide, fun lo H5 l0 l1 k5 d5 => ?_⟩
  have e5 := k5 _ _ e4 nBd
  refine ⟨by decide, fun N hN => ?_⟩
  have nNd : N ≠ d := (d5.ne hN).symm
  have nBN : B ≠ N := ne_of_none e5 hN
  have kAll : KB d H H5 := (((s1.kb).trans k2).trans k3).trans (k4.trans k5)
  have hN0 : H N = none := by
   cases z : H N with
   | none => rfl
   | some o =>
    have := kAll N o z nNd
    rw [hN] at this; cases this
  refine ⟨_, rfl, m, rfl, by omega, by omega, for_range (n := (m : Int).toNat) (fun i σ H' => ∃ (ss : List Str) (v8 v9 : Option V), σ = [some (.ref d), some (.int m), some (.bl g), some (.str (abc g)), some (.ref B), some (.int pl), some (.int lo), some (.ref N), v8, v9, none] ∧ KB d H H' ∧ Deck2 H' d ∧ H' B = some (.lst (rs.map V.int)) ∧ H' N = some (.lst (ss.map V.str)) ∧ ss.length = i ∧ ss = (List.range i).map (wdS g rs pl lo))
   ⟨[], none, none, rfl, kAll.trans (Same.new hN).kb, d5.same (Same.new hN), by rw [upd_ne nBN]; exact e5, upd_same, rfl, rfl⟩ ?_ ?_⟩
  ·rintro i σ H6 hi ⟨ss, v8, v9, rfl, k6, d6, e6, n6, ls, ess⟩
   rw [Int.toNat_natCast] at hi
   refine ⟨rfl, _, rfl, _, rs.length, rfl, .inl ⟨_, .of e6, by rw [List.length_map]⟩, _, rfl, by omega, by omega, fun C hC => ?_⟩
   refine comp_range (fun j σ H' => ∃ (ys : List Str) (v : Option V), σ = [v, some (.str (abc g)), some (.ref B), some (.int (0 + (i : Int))), some (.int pl)] ∧ Same H6 H' ∧ H' C = some (.lst (ys.map V.str)) ∧ ys.length = j ∧ (ys.map (·.length)).sum = j ∧ ys = (List.range j).map fun t => (⟨#[letC g (shI rs pl i t)]⟩ : Str))
    ⟨[], none, rfl, Same.new hC, upd_same, rfl, rfl, rfl⟩ ?_ ?_
   ·rintro j σ H7 hj ⟨ys, v, rfl, s7, e7, ly, ly2, eys⟩
    rw [Int.toNat_natCast] at hj
    obtain ⟨q, hq⟩ : ∃ q, rs[j]? = some q := ⟨_, List.getElem?_eq_getElem hj⟩
    refine ⟨_, rfl, _, rfl, _, rfl, B, _, _, V.int q, rfl, rfl, .of (s7 _ _ e6), ?_, _, rfl, _, rfl, _, rfl, rfl, .inr ⟨_, rfl, _, _, rfl, rfl, .inl (by constructor <;> omega), _, _, rfl, rfl, _, _, rfl, rfl, cpos (by decide), ?_⟩⟩
    ·rw [show (0 : Int) + (j : Int) = (j : Int) by omega]
     exact atI_nat (by rw [List.getElem?_map, hq]; rfl)
    generalize hx : (q + (0 + (i : Int)) * (if decide (V.int (0 + (j : Int)) = V.int pl) then 1 else 0)) % 26 = x
    have x0 : 0 ≤ x := by rw [← hx]; exact Int.emod_nonneg _ (by decide)
    have x1 : x < 26 := by rw [← hx]; exact Int.emod_lt_of_pos _ (by decide)
    obtain ⟨c, hc⟩ := abc_at g x x0 x1
    refine ⟨abc g, x, c, rfl, by rw [← hx], abc_len' g, hc, ys.map V.str, e7, ?_, ys ++ [⟨#[c]⟩], _, rfl, s7.kbn hC KB.write, ?_, ?_, ?_, ?_⟩
    ·rw [List.length_map]; exact Nat.lt_of_lt_of_le (show ys.length < 100 by omega) (by decide)
    ·rw [upd_same, List.map_append]; rfl
    ·rw [List.length_append, ly]; rfl
    ·rw [List.map_append, List.sum_append, ly2]; rfl
    ·have ex : x = shI rs pl i j := by
      rw [← hx]
      unfold shI
      rw [List.getD_eq_getElem?_getD, hq]
      have e1 : (0 : Int) + (i : Int) = (i : Int) := by omega
      have e2 : (if decide (V.int (0 + (j : Int)) = V.int pl) = true then (1 : Int) else 0) = if (j : Int) = pl then 1 else 0 := by
       by_cases z : (j : Int) = pl
       ·rw [dI (by omega), if_pos z]; rfl
       ·rw [dIn (by omega), if_neg z]; rfl
      rw [e1, e2]
      rfl
     rw [letC_at x0 x1 hc, ex, List.range_succ, List.map_append, eys]
     rfl
   rintro σ H7 ⟨ys, v, rfl, s7, e7, ly, ly2, eys⟩
   rw [Int.toNat_natCast] at ly ly2 eys
   refine ⟨"", C, ys, rfl, rfl, .of e7, ?_, fun z hz hze => ?_⟩
   ·rw [ly2, ly]
    have : (Str.length ("" : Str)) = 0 := rfl
    rw [this]; omega
   have zlen : z.length ≤ sizeLine := hz
   have zc : z.cps.toList = cw g rs pl i := by
    rw [hze, eys, show ((List.range rs.length).map fun t => (⟨#[letC g (shI rs pl i t)]⟩ : Str)) = (cw g rs pl i).map fun c => (⟨#[c]⟩ : Str) by unfold cw; rw [List.map_map]; rfl]
    exact join_codes _
   dsimp only [gName]
   have k7 : KB d H H7 := k6.trans s7.kb
   refine seq_rest (t := tIfS _ _ _) (u := tDrop _) (fun σ H' => ∃ z : Str, σ = [some (.ref d), some (.int m), some (.bl g), some (.str (abc g)), some (.ref B), some (.int pl), some (.int lo), some (.ref N), some (.int (0 + (i : Int))), some (.str z), none] ∧ Same H7 H' ∧ z = wdS g rs pl lo i) ?_ (fun rest => ?_)
   ·rintro σ H8 ⟨z, rfl, s8, ez⟩
    have n8 := s8 _ _ (s7 _ _ n6)
    refine ⟨_, rfl, .inl ⟨rfl, _, .of n8⟩, _, rfl, N, _, _, rfl, rfl, n8, ?_, ?_⟩
    ·rw [List.length_map]; exact Nat.lt_of_lt_of_le (show ss.length < 100 by omega) (by decide)
    refine ⟨ss ++ [z], _, _, rfl, ?_, ((d6.same s7).same s8).kb KB.write nNd.symm, ?_, ?_, ?_, by rw [List.range_succ, List.map_append, ess, ez]; rfl⟩
    ·intro b o e n
     rw [upd_ne (ne_of_none e hN0)]
     exact s8 _ _ (k7 b o e n)
    ·rw [upd_ne nBN]; exact s8 _ _ (s7 _ _ e6)
    ·rw [upd_same, List.map_append]; rfl
    ·rw [List.length_append, ls]; rfl
   ·refine ⟨_, rfl, by show 3 ≤ sizeLine; decide, fun W hW => ⟨W, _, rfl, .inl (.of upd_same), rfl, rfl, _, rfl, ?_⟩⟩
    have sW := Same.new (o := .lst [.str "not", .str "and", .str "or"]) hW
    rw [show inV (V.str z) [V.str "not", V.str "and", V.str "or"] = decide (z ∈ (["not", "and", "or"] : List Str)) from inV_strs z ["not", "and", "or"]]
    refine ite2 (fun hn => ?_) (fun hn => ?_)
    ·exact ⟨_, rfl, _, rfl, _, rfl, z, rfl, hz, rest _ _ ⟨_, rfl, sW, wd_cut zc (of_decide_eq_true hn)⟩⟩
    ·have hn' : z ∉ (["not", "and", "or"] : List Str) := fun q => hn (decide_eq_true q)
     refine ⟨_, rfl, rfl, _, rfl, ?_⟩
     refine ite2 (fun h1 => ?_) (fun h1 => iteF (rest _ _ ⟨z, rfl, sW, wd_same zc hn' fun q => h1 (dI q.1)⟩))
     have h1' : lo = 1 := V.int.inj (of_decide_eq_true h1)
     refine ⟨_, rfl, _, _, rfl, rfl, cpos (by decide), rfl, _, rfl, ?_⟩
     refine ite2 (fun h2 => ?_) (fun h2 => iteF (rest _ _ ⟨z, rfl, sW, wd_same zc hn' fun q => h2 (dI (by have := q.2.1; omega))⟩))
     have h2' : i % 2 = 1 := by
      have : (0 + (i : Int)) % 2 = 1 := V.int.inj (of_decide_eq_true h2)
      omega
     refine ⟨_, rfl, _, z.length, rfl, ⟨hz, rfl⟩, _, _, rfl, rfl, _, rfl, ?_⟩
     refine ite2 (fun hl => ?_) (fun hl => rest _ _ ⟨z, rfl, sW, wd_same zc hn' fun q => hl (decide_eq_true (by have := q.2.2; omega))⟩)
     have hl' : z.length < 3 := by have := of_decide_eq_true hl; omega
     obtain ⟨c, hc⟩ := abc_at g 16 (by decide) (by decide)
     refine ⟨_, rfl, _, rfl, abc g, 16, c, rfl, rfl, abc_len' g, hc, z, ⟨#[c]⟩, rfl, rfl, ?_, rest _ _ ⟨_, rfl, sW, wd_app zc hn' (letC_at (by decide) (by decide) hc) h1' h2' hl'⟩⟩
     show z.length + 1 ≤ sizeLine
     exact Nat.le_trans (show z.length + 1 ≤ 10 by omega) (by decide)
  ·rintro σ H6 ⟨ss, v8, v9, rfl, k6, d6, e6, n6, ls, ess⟩
   rw [Int.toNat_natCast] at ls ess
   have nd : ss.Nodup := by rw [ess]; exact wd_nodup lr'.1 p0 p1 m (by omega)
   have fin : ∀ (σ : St) (H' : Hp), (∃ (ss : List Str) (v8 v9 v10 : Option V), σ = [some (.ref d), some (.int m), some (.bl g), some (.str (abc g)), some (.ref B), some (.int pl), some (.int lo), some (.ref N), v8, v9, v10] ∧ KB d H H' ∧ Deck2 H' d ∧ H' N = some (.lst (ss.map V.str)) ∧ ss.length = m ∧ ss.Nodup) →
     ∃ v, σ[7]? = some (some v) ∧ Q v H' := by
    rintro σ H' ⟨ss, v8, v9, v10, rfl, k7, d7, n7, l7, u7⟩
    exact ⟨_, rfl, k N ss H' hN0 k7 d7 n7 l7 u7⟩
   refine ⟨_, rfl, _, _, rfl, rfl, _, rfl, ?_⟩
   refine ite2 (fun hm0 => ?_) (fun _ => iteF (fin _ _ ⟨ss, _, _, _, rfl, k6, d6, n6, ls, nd⟩))
   have hm0' : 0 < m := by have := of_decide_eq_true hm0; omega
   refine ⟨_, rfl, g, rfl, ?_⟩
   refine ite2 (fun _ => ?_) (fun _ => iteF (fin _ _ ⟨ss, _, _, _, rfl, k6, d6, n6, ls, nd⟩))
   refine ⟨_, rfl, d, 6, rfl, d6, by decide, fun r H7 r0 r1 k7 d7 => ⟨rfl, _, rfl, ?_⟩⟩
   have n7 := k7 _ _ n6 nNd
   have k67 := k6.trans k7
   refine ite2 (fun _ => ?_) (fun _ => fin _ _ ⟨ss, _, _, _, rfl, k67, d7, n7, ls, nd⟩)
   refine ⟨by show 7 ≤ sizeLine; decide, fun S hS => ⟨S, rfl, ⟨_, .of upd_same⟩, fun C hC => ?_⟩⟩
   have nNS : N ≠ S := ne_of_none n7 hS
   have n7S := (Same.new (o := .lst [.str "ora", .str "orb", .str "ort", .str "orz", .str "orr", .str "oro", .str "ors"]) hS) _ _ n7
   have nSC : S ≠ C := ne_of_none upd_same hC
   refine comp_list (xs := seven.map V.str) (fun i σ H' => ∃ v : Option V, σ = [v, some (.ref N)] ∧ KB C (upd H7 S (.lst [.str "ora", .str "orb", .str "ort", .str "orz", .str "orr", .str "oro", .str "ors"])) H' ∧ H' C = some (.lst (((seven.take i).filter fun c => !(inV (.str c) (ss.map V.str))).map V.str)))
    ⟨none, rfl, (Same.new hC).kb, upd_same⟩ (fun i σ H' _ ⟨_, _, h, _⟩ => .of (h _ _ upd_same nSC)) ?_ ?_
   ·rintro i x σ H8 hx ⟨v, rfl, k8, e8⟩
    obtain ⟨c, rfl, hc⟩ := strItem hx
    have nNC : N ≠ C := ne_of_none n7S hC
    refine ⟨_, rfl, _, rfl, N, _, rfl, .inl (.of (k8 _ _ n7S nNC)), rfl, ?_, _, rfl, ?_⟩
    ·rw [List.all_map]; exact List.all_eq_true.mpr fun _ _ => rfl
    have et : seven.take (i + 1) = seven.take i ++ [c] := by rw [List.take_add_one, hc]; rfl
    refine ite2 (fun hin => ?_) (fun hin => ?_)
    ·refine ⟨_, rfl, _, e8, ?_, _, rfl, k8.trans KB.write, ?_⟩
     ·rw [List.length_map]
      refine Nat.lt_of_le_of_lt (List.length_filter_le _ _) ?_
      rw [List.length_take]
      exact Nat.lt_of_le_of_lt (Nat.min_le_right _ _) (by decide)
     ·rw [upd_same, et, List.filter_append, List.map_append]
      have hin' : (!(inV (.str c) (ss.map V.str))) = true := hin
      simp [hin']
    ·refine ⟨_, rfl, k8, ?_⟩
     have hin' : (!(inV (.str c) (ss.map V.str))) = false := by
      cases z : (!(inV (.str c) (ss.map V.str))) with
      | false => rfl
      | true => exact absurd z hin
     rw [e8, et, List.filter_append]
     simp [hin']
   rintro σ H8 ⟨v, rfl, k8, e8⟩
   have nNC : N ≠ C := ne_of_none n7S hC
   have n8 := k8 _ _ n7S nNC
   have hlen := enough ss seven (by decide +kernel)
   have h7 : seven.length = 7 := rfl
   rw [show seven.take (seven.map V.str).length = seven from rfl] at e8
   obtain ⟨y, ys, hy⟩ : ∃ y ys, (seven.filter fun c => !(inV (.str c) (ss.map V.str))) = y :: ys := by
    cases z : (seven.filter fun c => !(inV (.str c) (ss.map V.str))) with
    | nil => rw [z] at hlen; simp at hlen; omega
    | cons y ys => exact ⟨y, ys, rfl⟩
   rw [hy] at e8
   refine ⟨_, rfl, C, _, 0, .str y, rfl, rfl, .of e8, atI_nat (j := 0) rfl, ?_⟩
   have nCd : C ≠ d := by
    obtain ⟨xd, exd⟩ := (d7.same (Same.new (o := .lst [.str "ora", .str "orb", .str "ort", .str "orz", .str "orr", .str "oro", .str "ors"]) hS)).is
    exact (ne_of_none exd hC).symm
   have d8 : Deck2 H8 d := (d7.same (Same.new (o := .lst [.str "ora", .str "orb", .str "ort", .str "orz", .str "orr", .str "oro", .str "ors"]) hS)).kb k8 nCd.symm
   refine ⟨_, rfl, _, rfl, _, rfl, d, m, rfl, d8, by omega, fun r' H9 r0' r1' k9 d9 => ?_⟩
   have n9 := k9 _ _ n8 nNd
   obtain ⟨q, hq⟩ : ∃ q : Nat, r' = (q : Int) := ⟨r'.toNat, by omega⟩
   subst hq
   refine ⟨N, _, _, q, rfl, rfl, n9, ?_, ?_⟩
   ·unfold ixN; rw [if_pos (by omega), List.length_map, if_pos (by omega)]; rfl
   have hyn : y ∉ ss := by
    have : y ∈ seven.filter fun c => !(inV (.str c) (ss.map V.str)) := by rw [hy]; exact List.mem_cons_self
    have := (List.mem_filter.mp this).2
    rw [inV_strs] at this
    intro z
    rw [decide_eq_true z] at this
    cases this
   refine fin _ _ ⟨ss.set q y, _, _, _, rfl, ?_, d9.kb KB.write nNd.symm, ?_, ?_, nodup_set nd hyn q⟩
   ·intro b o e n
    have n1 : b ≠ N := ne_of_none e hN0
    rw [upd_ne n1]
    have e7 := k67 b o e n
    have n2 : b ≠ S := ne_of_none e7 hS
    have e7' := (Same.new (o := .lst [.str "ora", .str "orb", .str "ort", .str "orz", .str "orr", .str "oro", .str "ors"]) hS) _ _ e7
    exact k9 _ _ (k8 _ _ e7' (ne_of_none e7' hC)) n
   ·rw [upd_same, List.map_set]
   ·rw [List.length_set, ls]
def spTerm (K : PySem.W.Frag) : Sp := fun vs H Q _ => ∃ (d nm : Addr) (ss : List Str), vs = [.ref d, .ref nm] ∧ Deck2 H d ∧ SqL K H nm (ss.map V.str) ∧ nm ≠ d ∧ ss.length ≤ 10 ∧
 ∀ (p : Addr) (t : Term) (H' : Hp), DatAt K H' (.ref p) t.dt → t.parts.length ≤ 3 → (∀ q ∈ t.parts, q.1 ∈ ss) → KB d H H' → Deck2 H' d → Q (.ref p) H'
def spPlain (K : PySem.W.Frag) : Sp := fun vs H Q _ => ∃ (d nm rw : Addr) (ss rs : List Str), vs = [.ref d, .ref nm, .ref rw] ∧ Deck2 H d ∧ SqL K H nm (ss.map V.str) ∧ nm ≠ d ∧ ss.length ≤ 10 ∧ SqL K H rw (rs.map V.str) ∧ rw ≠ d ∧ rs.length ≤ 10 ∧
 ∀ (p : Addr) (f : Say) (H' : Hp), DatAt K H' (.ref p) f.dt → f.deep = 0 ∧ f.Over ss → KB d H H' → Deck2 H' d → Q (.ref p) H'
theorem pick3 (a b c : Int) (r : Int) (h0 : 0 ≤ r) (h1 : r < 3) : ∃ x, atI ([.int a, .int b, .int c] : List V) r = some (.int x) ∧ (x = a ∨ x = b ∨ x = c) := by
 have : r = 0 ∨ r = 1 ∨ r = 2 := by omega
 rcases this with rfl | rfl | rfl
 ·exact ⟨a, rfl, .inl rfl⟩
 ·exact ⟨b, rfl, .inr (.inl rfl)⟩
 ·exact ⟨c, rfl, .inr (.inr rfl)⟩
theorem pick2 {α : Type} (a b : α) (r : Int) (h0 : 0 ≤ r) (h1 : r < 2) : ∃ x, atI [a, b] r = some x ∧ (x = a ∨ x = b) := by
 have : r = 0 ∨ r = 1 := by omega
 rcases this with rfl | rfl
 ·exact ⟨a, rfl, .inl rfl⟩
 ·exact ⟨b, rfl, .inr rfl⟩
theorem pickS (ss : List Str) (r : Int) (h0 : 0 ≤ r) (h1 : r < ss.length) : ∃ x, atI (ss.map V.str) r = some (.str x) ∧ x ∈ ss := by
 obtain ⟨n, rfl⟩ : ∃ n : Nat, r = (n : Int) := ⟨r.toNat, by omega⟩
 have hn : n < ss.length := by omega
 exact ⟨ss[n], atI_nat (by rw [List.getElem?_map, List.getElem?_eq_getElem hn]; rfl), List.getElem_mem hn⟩
theorem sc_l_term : FnScope ["_law_deck_here", "_law_names_here", "_law_parts", "_law_name"] ["_law_deck_here", "_law_names_here"] (defScope s_l_term) := ⟨rfl, rfl, rfl, by decide +kernel, rfl, by decide +kernel, by decide +kernel⟩
theorem ok_l_term {a : Adr} (T : Txt K mg a) : FnOk P w K mg base CX0 2 a.f_l_term a.fd_l_term ["_law_deck_here", "_law_names_here"] (spTerm K) := by
 have G_l_next := ok_l_next (P := P) (w := w) (base := base) T
 refine T.F_l_term.ok sc_l_term (fun vs H Q E h => ?_) (fun cdv A outer s H vs Q E hr h => ?_)
 ·obtain ⟨d, nm, ss, rfl, _⟩ := h
  rfl
 ·obtain ⟨d, nm, ss, rfl, hd, hS, hne, hss, k⟩ := h
  have hr_l_next : Room 1 _ := hr
  refine ⟨_, (pss_cons (ps_set (i := 2) sc_l_term.nd rfl (Or.inl rfl) (pe_lst pa_nil))
  (pss_cons (ps_for PassesOwn.never rfl (pi_list (pe_callB (call_sortSK K) (by rfl) T.z_sorted bt_sorted (pa_cons (pv 1) pa_nil))) (pg_name (i := 3) sc_l_term.nd rfl (Or.inl rfl))
   (pss_one (ps_if (PW.pt (pw_and (pt_cmpR op_eq (pe_call G_l_next hr_l_next rfl T.m_l_next T.k_l_next T.b_l_next .nil pass0 (pa_cons (pv 0) (pa_cons pe_int pa_nil))) pe_int (nomark _)) (pw_and1 (pt_cmpR op_lt (pe_callB (call_lenK K) (by rfl) T.z_len bt_len (pa_cons (pv 2) pa_nil)) pe_int (nomark _)))))
    (pss_one (ps_expr (pe_bm PySem.F.plainAttrs_list PySem.F.slot_list_append PySem.F.type_list_append mt_append (pv 2) (pa_cons (pe_tup (pa_cons (pv 3) (pa_cons (pe_op op_add pe_int (pe_call G_l_next hr_l_next rfl T.m_l_next T.k_l_next T.b_l_next .nil pass0 (pa_cons (pv 0) (pa_cons (pe_ix (ix_listK K) (pe_lst (pa_cons pe_int (pa_cons pe_int (pa_cons pe_int pa_nil)))) (pe_call G_l_next hr_l_next rfl T.m_l_next T.k_l_next T.b_l_next .nil pass0 (pa_cons (pv 0) (pa_cons pe_int pa_nil))) (fun _ _ => rfl)) pa_nil)))) pa_nil))) pa_nil))))
    pss_nil)))
  (pss_one (ps_ret (pe_tup (pa_cons (pe_ix (ix_listK K) (pe_lst (pa_cons pe_int (pa_cons (pe_call G_l_next hr_l_next rfl T.m_l_next T.k_l_next T.b_l_next .nil pass0 (pa_cons (pv 0) (pa_cons pe_int pa_nil))) (pa_cons (pe_call G_l_next hr_l_next rfl T.m_l_next T.k_l_next T.b_l_next .nil pass0 (pa_cons (pv 0) (pa_cons pe_int pa_nil))) pa_nil)))) (pe_call G_l_next hr_l_next rfl T.m_l_next T.k_l_next T.b_l_next .nil pass0 (pa_cons (pv 0) (pa_cons pe_int pa_nil))) (fun _ _ => rfl)) (pa_cons (pe_callTy (call_tupleK K) (by rfl) T.z_tuple bt_tuple (pa_cons (pv 2) pa_nil)) pa_nil))))))), ?_⟩
  refine ⟨by decide, fun L hL => ?_⟩
  have s1 := Same.new (o := .lst []) hL
  have nLd : L ≠ d := (hd.ne hL).symm
  refine ⟨_, rfl, nm, ss, rfl, s1.seq hS, by omega, fun Z zs hZ hperm _ => ⟨Z, rfl, ⟨_, .of upd_same⟩, ?_⟩⟩
  have nLZ : L ≠ Z := ne_of_none upd_same hZ
  have nZd : Z ≠ d := (((hd.same s1).ne hZ)).symm
  refine for_list (xs := zs.map V.str) (fun i σ H' => ∃ (xs : List V) (ps : List (Str × Int)) (v3 : Option V), σ = [some (.ref d), some (.ref nm), some (.ref L), v3] ∧ KB d H H' ∧ Deck2 H' d ∧ H' Z = some (.lst (zs.map V.str)) ∧ H' L = some (.lst xs) ∧ DatsAt K H' xs (ps.map partDt) ∧ ps.length ≤ 3 ∧ ∀ q ∈ ps, q.1 ∈ ss)
   ⟨[], [], none, rfl, (s1.trans (Same.new hZ)).kb, (hd.same s1).same (Same.new hZ), upd_same, by rw [upd_ne nLZ]; exact upd_same, dats_nil, by simp, fun q h => (nomatch h)⟩ (fun i σ H' _ ⟨_, _, _, _, _, _, h, _⟩ => .of h) ?_ ?_
  ·rintro i x σ H1 hx ⟨xs, ps, v3, rfl, k1, d1, z1, l1, dt1, lp, mp⟩
   obtain ⟨z, rfl, hz⟩ := strItem hx
   have zin : z ∈ ss := hperm.mem_iff.mp (List.mem_of_getElem? hz)
   have lx : xs.length = ps.length := by rw [dt1.length, List.length_map]
   refine ⟨_, rfl, d, 2, rfl, d1, by decide, fun r H2 r0 r1 k2 d2 => ⟨rfl, _, rfl, ?_⟩⟩
   have z2 := k2 _ _ z1 nZd
   have l2 := k2 _ _ l1 nLd
   have dt2 := dats_stay (d1.kts k2) _ _ (parts_noL ps) dt1
   refine ite2 (fun _ => ?_) (fun _ => iteF ⟨xs, ps, _, rfl, k1.trans k2, d2, z2, l2, dt2, lp, mp⟩)
   refine ⟨_, rfl, _, xs.length, rfl, .inl ⟨_, .of l2, rfl⟩, _, _, rfl, rfl, _, rfl, ?_⟩
   refine ite2 (fun hlt => ?_) (fun _ => ⟨xs, ps, _, rfl, k1.trans k2, d2, z2, l2, dt2, lp, mp⟩)
   have hlt' : xs.length < 3 := by have := of_decide_eq_true hlt; omega
   refine ⟨_, rfl, .inl ⟨rfl, _, .of l2⟩, _, rfl, _, rfl, by show 3 ≤ sizeLine; decide, fun O hO => ?_⟩
   have sO := Same.new (o := .lst [.int 1, .int 2, .int 9]) hO
   refine ⟨_, rfl, d, 3, rfl, d2.same sO, by decide, fun r' H3 r0' r1' k3 d3 => ?_⟩
   obtain ⟨m, hm, hmv⟩ := pick3 1 2 9 r' r0' r1'
   have nOd : O ≠ d := (d2.ne hO).symm
   refine ⟨O, _, _, .int m, rfl, rfl, .of (k3 _ _ upd_same nOd), hm, d, m, rfl, d3, by omega, fun q H4 q0 q1 k4 d4 => ⟨_, _, rfl, rfl, by show 2 ≤ sizeLine; decide, fun p hp => ?_⟩⟩
   have l4 := k4 _ _ (k3 _ _ (sO _ _ l2) nLd) nLd
   have z4 := k4 _ _ (k3 _ _ (sO _ _ z2) nZd) nZd
   have dt4 := dats_stay (d3.kts k4) _ _ (parts_noL ps) (dats_stay ((d2.same sO).kts k3) _ _ (parts_noL ps) (dats_stay sO.kts _ _ (parts_noL ps) dt2))
   have sp := Same.new (o := .tup [.str z, .int (1 + q)]) hp
   have l5 := sp _ _ l4
   refine ⟨L, _, _, rfl, rfl, l5, Nat.lt_of_lt_of_le (show xs.length < 10 by omega) (by decide), xs ++ [.ref p], ps ++ [(z, 1 + q)], _, rfl, ?_, ?_, ?_, upd_same, ?_, ?_, ?_⟩
   ·intro b o e n
    have n1 : b ≠ L := ne_of_none e hL
    rw [upd_ne n1]
    exact sp _ _ (k4 _ _ (k3 _ _ (sO _ _ (k2 _ _ (k1 _ _ e n) n)) n) n)
   ·exact (d4.same sp).kb KB.write nLd.symm
   ·rw [upd_ne nLZ.symm]; exact sp _ _ z4
   ·rw [List.map_append]
    have kk : KTs K (upd H4 p (.tup [.str z, .int (1 + q)])) (upd (upd H4 p (.tup [.str z, .int (1 + q)])) L (.lst (xs ++ [.ref p]))) := KB.kts l5 KB.write
    refine dats_stay kk _ _ ?_ (dats_app (dats_stay sp.kts _ _ (parts_noL ps) dt4) (dats_cons (dat_tup (.of upd_same) (dats_cons dat_str (dats_cons dat_int dats_nil))) dats_nil))
    rw [noLs_app, parts_noL]
    simp [partDt, Dt.noL, Dt.noLs]
   ·rw [List.length_append]; show ps.length + 1 ≤ 3; omega
   ·intro y hy
    rcases List.mem_append.mp hy with e | e
    ·exact mp y e
    ·have : y = (z, 1 + q) := by simpa using e
     subst this; exact zin
  ·rintro σ H1 ⟨xs, ps, v3, rfl, k1, d1, z1, l1, dt1, lp, mp⟩
   have lx : xs.length = ps.length := by rw [dt1.length, List.length_map]
   refine ⟨_, rfl, d, 5, rfl, d1, by decide, fun r1 H2 _ _ k2 d2 => ?_⟩
   refine ⟨_, rfl, d, 100, rfl, d2, by decide, fun r2 H3 _ _ k3 d3 => ⟨by show 3 ≤ sizeLine; decide, fun O hO => ?_⟩⟩
   have sO := Same.new (o := .lst [.int 0, .int r1, .int r2]) hO
   have nOd : O ≠ d := (d3.ne hO).symm
   refine ⟨_, rfl, d, 3, rfl, d3.same sO, by decide, fun r H4 r0 r1' k4 d4 => ?_⟩
   obtain ⟨m, hm, hmv⟩ := pick3 0 r1 r2 r r0 r1'
   have l4 := k4 _ _ (sO _ _ (k3 _ _ (k2 _ _ l1 nLd) nLd)) nLd
   have dt4 := dats_stay ((d3.same sO).kts k4) _ _ (parts_noL ps) (dats_stay sO.kts _ _ (parts_noL ps) (dats_stay (d2.kts k3) _ _ (parts_noL ps) (dats_stay (d1.kts k2) _ _ (parts_noL ps) dt1)))
   refine ⟨O, _, _, .int m, rfl, rfl, .of (k4 _ _ upd_same nOd), hm, _, rfl, L, xs, rfl, .inl ⟨.of l4, fun t ht => ⟨by show 2 ≤ sizeLine; decide, fun p hp => ?_⟩⟩⟩
   have st := Same.new (o := .tup xs) ht
   have sp := Same.new (o := .tup [.int m, .ref t]) hp
   refine k p ⟨m, ps⟩ _ (dat_tup (.of upd_same) (dats_cons dat_int (dats_cons (dat_tup (sp.seqT (.of upd_same)) (dats_stay (st.trans sp).kts _ _ (parts_noL ps) dt4)) dats_nil))) lp mp ?_ ((d4.same st).same sp)
   exact ((((k1.trans k2).trans k3).trans sO.kb).trans k4).trans (st.trans sp).kb
theorem sc_l_plain : FnScope ["_law_deck_here", "_law_names_here", "_law_rows", "_law_goes", "_law_one", "_law_other"] ["_law_deck_here", "_law_names_here", "_law_rows"] (defScope s_l_plain) := ⟨rfl, rfl, rfl, by decide +kernel, rfl, by decide +kernel, by decide +kernel⟩
theorem ok_l_plain {a : Adr} (T : Txt K mg a) : FnOk P w K mg base CX0 3 a.f_l_plain a.fd_l_plain ["_law_deck_here", "_law_names_here", "_law_rows"] (spPlain K) := by
 have G_l_next := ok_l_next (P := P) (w := w) (base := base) T
 have G_l_term := ok_l_term (P := P) (w := w) (base := base) T
 refine T.F_l_plain.ok sc_l_plain (fun vs H Q E h => ?_) (fun cdv A outer s H vs Q E hr h => ?_)
 ·obtain ⟨d, nm, rw, ss, rs, rfl, _⟩ := h
  rfl
 ·obtain ⟨d, nm, rw, ss, rs, rfl, hd, hS, hne, hss, hR, hnr, hrs, k⟩ := h
  have hr_l_next : Room 1 _ := hr.mono (by decide)
  have hr_l_term : Room 2 _ := hr
  refine ⟨_, (pss_cons (ps_set (i := 3) sc_l_plain.nd rfl (Or.inl rfl) (pe_call G_l_next hr_l_next rfl T.m_l_next T.k_l_next T.b_l_next .nil pass0 (pa_cons (pv 0) (pa_cons pe_int pa_nil))))
  (pss_cons (ps_set (i := 4) sc_l_plain.nd rfl (Or.inl rfl) (pe_call G_l_term hr_l_term rfl T.m_l_term T.k_l_term T.b_l_term .nil pass0 (pa_cons (pv 0) (pa_cons (pv 1) pa_nil))))
  (pss_cons (ps_set (i := 5) sc_l_plain.nd rfl (Or.inl rfl) (pe_call G_l_term hr_l_term rfl T.m_l_term T.k_l_term T.b_l_term .nil pass0 (pa_cons (pv 0) (pa_cons (pv 1) pa_nil))))
  (pss_cons (ps_if (PW.pt (pw_or (pt_cmpR op_eq (pv 3) pe_int (nomark _)) (pw_or1 (pt_cmpR (op_eqD K hr.units) (pv 2) (pe_lst pa_nil) (nomark _)))))
   (pss_one (ps_ret (pe_tup (pa_cons (pe_ix (ix_listK K) (pe_lst (pa_cons pe_str (pa_cons pe_str pa_nil))) (pe_call G_l_next hr_l_next rfl T.m_l_next T.k_l_next T.b_l_next .nil pass0 (pa_cons (pv 0) (pa_cons pe_int pa_nil))) (fun _ _ => rfl)) (pa_cons (pv 4) (pa_cons (pv 5) pa_nil))))))
   pss_nil)
  (pss_cons (ps_if (pt_cmpR op_eq (pv 3) pe_int (nomark _))
   (pss_one (ps_ret (pe_tup (pa_cons pe_str (pa_cons (pv 4) (pa_cons (pv 5) pa_nil))))))
   pss_nil)
  (pss_cons (ps_if (pt_cmpR op_eq (pv 3) pe_int (nomark _))
   (pss_one (ps_ret (pe_tup (pa_cons pe_str (pa_cons (pe_ix (ix_listK K) (pv 2) (pe_call G_l_next hr_l_next rfl T.m_l_next T.k_l_next T.b_l_next .nil pass0 (pa_cons (pv 0) (pa_cons (pe_callB (call_lenK K) (by rfl) T.z_len bt_len (pa_cons (pv 2) pa_nil)) pa_nil))) (fun _ _ => rfl)) (pa_cons (pv 4) (pa_cons (pe_call G_l_next hr_l_next rfl T.m_l_next T.k_l_next T.b_l_next .nil pass0 (pa_cons (pv 0) (pa_cons (pe_ix (ix_listK K) (pe_lst (pa_cons pe_int (pa_cons pe_int pa_nil))) (pe_call G_l_next hr_l_next rfl T.m_l_next T.k_l_next T.b_l_next .nil pass0 (pa_cons (pv 0) (pa_cons pe_int pa_nil))) (fun _ _ => rfl)) pa_nil))) pa_nil)))))))
   pss_nil)
  (pss_one (ps_ret (pe_tup (pa_cons pe_str (pa_cons (pe_ix (ix_listK K) (pv 2) (pe_call G_l_next hr_l_next rfl T.m_l_next T.k_l_next T.b_l_next .nil pass0 (pa_cons (pv 0) (pa_cons (pe_callB (call_lenK K) (by rfl) T.z_len bt_len (pa_cons (pv 2) pa_nil)) pa_nil))) (fun _ _ => rfl)) (pa_cons (pv 4) (pa_cons (pe_ix (ix_listK K) (pv 2) (pe_call G_l_next hr_l_next rfl T.m_l_next T.k_l_next T.b_l_next .nil pass0 (pa_cons (pv 0) (pa_cons (pe_callB (call_lenK K) (by rfl) T.z_len bt_len (pa_cons (pv 2) pa_nil)) pa_nil))) (fun _ _ => rfl)) (pa_cons (pv 5) pa_nil)))))))))))))), ?_⟩
  refine ⟨_, rfl, d, 4, rfl, hd, by decide, fun go H1 g0 g1 k1 d1 => ?_⟩
  refine ⟨_, rfl, _, rfl, d, nm, ss, rfl, d1, k1.seq hne hS, hne, hss, fun p1 t1 H2 dt1 o1 o1' k2 d2 => ?_⟩
  have k12 := k1.trans k2
  refine ⟨_, rfl, _, rfl, d, nm, ss, rfl, d2, k12.seq hne hS, hne, hss, fun p2 t2 H3 dt2 o2 o2' k3 d3 => ?_⟩
  have k13 := k12.trans k3
  have dt1' := dat_stay (d2.kts k3) _ _ t1.noL dt1
  have hR3 := k13.seq hnr hR
  have case1 : ∀ H4, Same H3 H4 → ∀ (Q' : VK), (∀ (p : Addr) (f : Say) (H' : Hp), DatAt K H' (.ref p) f.dt → f.deep = 0 ∧ f.Over ss → KB d H H' → Deck2 H' d → Q' (.ref p) H') →
    tTup (tCons (tOp (rIxL K) (tLst (tCons (tC (.str "same")) (tCons (tC (.str "less")) tNil))) (tCall spNext2 [] E0 (tCons (tVar 0) (tCons (tC (.int 2)) tNil)))) (tCons (tVar 4) (tCons (tVar 5) tNil)))
     [some (.ref d), some (.ref nm), some (.ref rw), some (.int go), some (.ref p1), some (.ref p2)] H4 Q' := by
   intro H4 s4 Q' k'
   have d4 := d3.same s4
   refine ⟨by show 2 ≤ sizeLine; decide, fun O hO => ?_⟩
   have sO := Same.new (o := .lst [.str "same", .str "less"]) hO
   have nOd : O ≠ d := (d4.ne hO).symm
   refine ⟨_, rfl, d, 2, rfl, d4.same sO, by decide, fun r H5 r0 r1 k5 d5 => ?_⟩
   obtain ⟨x, hx, hv⟩ := pick2 (V.str "same") (V.str "less") r r0 r1
   refine ⟨O, _, _, x, rfl, rfl, .of (k5 _ _ upd_same nOd), hx, _, rfl, _, rfl, by show 3 ≤ sizeLine; decide, fun p hp => ?_⟩
   have kk : KTs K H3 H5 := (s4.trans sO).kts.trans ((d4.same sO).kts k5)
   have a1 := dat_stay kk _ _ t1.noL dt1'
   have a2 := dat_stay kk _ _ t2.noL dt2
   have kf : KB d H (upd H5 p (.tup [x, .ref p1, .ref p2])) := ((k13.trans (s4.trans sO).kb).trans k5).trans (Same.new hp).kb
   have b1 := dat_stay (Same.new (o := .tup [x, .ref p1, .ref p2]) hp).kts _ _ t1.noL a1
   have b2 := dat_stay (Same.new (o := .tup [x, .ref p1, .ref p2]) hp).kts _ _ t2.noL a2
   rcases hv with rfl | rfl
   ·exact k' p (.same t1 t2) _ (dat_tup (.of upd_same) (dats_cons dat_str (dats_cons b1 (dats_cons b2 dats_nil)))) ⟨rfl, ⟨o1, o1'⟩, ⟨o2, o2'⟩⟩ kf (d5.same (Same.new hp))
   ·exact k' p (.less t1 t2) _ (dat_tup (.of upd_same) (dats_cons dat_str (dats_cons b1 (dats_cons b2 dats_nil)))) ⟨rfl, ⟨o1, o1'⟩, ⟨o2, o2'⟩⟩ kf (d5.same (Same.new hp))
  refine ⟨_, rfl, rfl, _, rfl, ?_⟩
  refine ite2 (fun _ => iteT (case1 H3 (Same.refl _) _ k)) (fun _ => ?_)
  refine ⟨_, rfl, by decide, fun O hO => ?_⟩
  have sO := Same.new (o := .lst []) hO
  refine ⟨.lst (rs.map .str), .lst [], dat_lst (sO.seq hR3) (dats_strs rs), dat_lst (.of upd_same) dats_nil, rfl, rfl, ?_, _, rfl, ?_⟩
  ·have : ∀ l : List Str, Dt.deps (l.map Dt.str) = 0 := fun l => by
    induction l with
    | nil => simp [Dt.deps]
    | cons y ys ih => rw [List.map_cons, Dt.deps, ih]; simp [Dt.dep]
   rw [Dt.dep, this]; decide
  have eb : (if false = true then !(Dt.lst (rs.map .str)).beq (.lst []) else (Dt.lst (rs.map .str)).beq (.lst [])) = decide (rs = []) := by
   rw [if_neg (by decide), Dt.beq]
   cases rs with
   | nil => simp [Dt.beqs]
   | cons y ys => simp [Dt.beqs]
  rw [eb]
  refine ite2 (fun _ => case1 _ sO _ k) (fun hrs0 => ?_)
  have hrs0' : 0 < rs.length := by
   cases rs with
   | nil => exact absurd (by simp) hrs0
   | cons y ys => simp
  have d4 := d3.same sO
  have k14 := k13.trans (sO.kb (d := d))
  have c1 := dat_stay sO.kts _ _ t1.noL dt1'
  have c2 := dat_stay sO.kts _ _ t2.noL dt2
  have hR4 := sO.seq hR3
  generalize upd H3 O (.lst []) = H4 at d4 k14 c1 c2 hR4
  refine ⟨_, rfl, rfl, _, rfl, ?_⟩
  refine ite2 (fun _ => ?_) (fun _ => ?_)
  ·refine ⟨_, rfl, _, rfl, by show 3 ≤ sizeLine; decide, fun p hp => ?_⟩
   have sp := Same.new (o := .tup [.str "less", .ref p1, .ref p2]) hp
   exact k p (.less t1 t2) _ (dat_tup (.of upd_same) (dats_cons dat_str (dats_cons (dat_stay sp.kts _ _ t1.noL c1) (dats_cons (dat_stay sp.kts _ _ t2.noL c2) dats_nil)))) ⟨rfl, ⟨o1, o1'⟩, ⟨o2, o2'⟩⟩ (k14.trans sp.kb) (d4.same sp)
  refine ⟨_, rfl, rfl, _, rfl, ?_⟩
  refine ite2 (fun _ => ?_) (fun _ => ?_)
  ·refine ⟨_, rfl, _, rfl, _, rfl, _, rs.length, rfl, .inl ⟨_, hR4, by rw [List.length_map]⟩, d, (rs.length : Int), rfl, d4, by omega, fun r H5 r0 r1 k5 d5 => ?_⟩
   obtain ⟨x, hx, _⟩ := pickS rs r r0 r1
   have hR5 := k5.seq hnr hR4
   refine ⟨rw, _, _, .str x, rfl, rfl, hR5, hx, _, rfl, _, rfl, by show 2 ≤ sizeLine; decide, fun O2 hO2 => ?_⟩
   have sO2 := Same.new (o := .lst [.int 2, .int 10]) hO2
   have nO2d : O2 ≠ d := (d5.ne hO2).symm
   refine ⟨_, rfl, d, 2, rfl, d5.same sO2, by decide, fun r' H6 r0' r1' k6 d6 => ?_⟩
   obtain ⟨m, hm, hv⟩ := pick2 (V.int 2) (V.int 10) r' r0' r1'
   obtain ⟨mi, rfl, hmi⟩ : ∃ mi : Int, m = .int mi ∧ 0 < mi := by
    rcases hv with rfl | rfl
    ·exact ⟨2, rfl, by decide⟩
    ·exact ⟨10, rfl, by decide⟩
   refine ⟨O2, _, _, .int mi, rfl, rfl, .of (k6 _ _ upd_same nO2d), hm, d, mi, rfl, d6, hmi, fun sg H7 s0 s1 k7 d7 => ⟨by show 4 ≤ sizeLine; decide, fun p hp => ?_⟩⟩
   have sp := Same.new (o := .tup [.str "sign", .str x, .ref p1, .int sg]) hp
   have kk : KTs K H4 (upd H7 p (.tup [.str "sign", .str x, .ref p1, .int sg])) := ((d4.kts k5).trans sO2.kts).trans ((((d5.same sO2).kts k6).trans (d6.kts k7)).trans sp.kts)
   refine k p (.sign x t1 sg) _ (dat_tup (.of upd_same) (dats_cons dat_str (dats_cons dat_str (dats_cons (dat_stay kk _ _ t1.noL c1) (dats_cons dat_int dats_nil))))) ⟨rfl, ⟨o1, o1'⟩⟩ ?_ (d7.same sp)
   exact ((((k14.trans k5).trans sO2.kb).trans k6).trans k7).trans sp.kb
  ·refine ⟨_, rfl, _, rfl, _, rfl, _, rs.length, rfl, .inl ⟨_, hR4, by rw [List.length_map]⟩, d, (rs.length : Int), rfl, d4, by omega, fun r H5 r0 r1 k5 d5 => ?_⟩
   obtain ⟨x, hx, _⟩ := pickS rs r r0 r1
   have hR5 := k5.seq hnr hR4
   refine ⟨rw, _, _, .str x, rfl, rfl, hR5, hx, _, rfl, _, rfl, _, rfl, _, rfl, _, rs.length, rfl, .inl ⟨_, hR5, by rw [List.length_map]⟩, d, (rs.length : Int), rfl, d5, by omega, fun r' H6 r0' r1' k6 d6 => ?_⟩
   obtain ⟨y, hy, _⟩ := pickS rs r' r0' r1'
   refine ⟨rw, _, _, .str y, rfl, rfl, k6.seq hnr hR5, hy, _, rfl, by show 5 ≤ sizeLine; decide, fun p hp => ?_⟩
   have sp := Same.new (o := .tup [.str "alike", .str x, .ref p1, .str y, .ref p2]) hp
   have kk : KTs K H4 (upd H6 p (.tup [.str "alike", .str x, .ref p1, .str y, .ref p2])) := (d4.kts k5).trans ((d5.kts k6).trans sp.kts)
   refine k p (.alike x t1 y t2) _ (dat_tup (.of upd_same) (dats_cons dat_str (dats_cons dat_str (dats_cons (dat_stay kk _ _ t1.noL c1) (dats_cons dat_str (dats_cons (dat_stay kk _ _ t2.noL c2) dats_nil)))))) ⟨rfl, ⟨o1, o1'⟩, ⟨o2, o2'⟩⟩ ?_ (d6.same sp)
   exact ((k14.trans k5).trans k6).trans sp.kb
def spSaying (K : PySem.W.Frag) (n : Nat) : Sp := fun vs H Q _ => ∃ (d nm rw bx : Addr) (ss rs : List Str) (bk : Int) (deep : Nat), vs = [.ref d, .ref nm, .ref rw, .ref bx, .int deep] ∧ Deck2 H d ∧ (SqL K H nm (ss.map V.str) ∧ nm ≠ d ∧ nm ≠ bx ∧ 0 < ss.length ∧ ss.length ≤ 10) ∧ (SqL K H rw (rs.map V.str) ∧ rw ≠ d ∧ rw ≠ bx ∧ rs.length ≤ 10) ∧
 H bx = some (.lst [.int bk]) ∧ bx ≠ d ∧ deep < n ∧
 ∀ (p : Addr) (f : Say) (H' : Hp) (bk' : Int), DatAt K H' (.ref p) f.dt → f.deep ≤ deep ∧ f.Over ss → KB2 d bx H H' → Deck2 H' d → H' bx = some (.lst [.int bk']) → Q (.ref p) H'
theorem sc_l_saying : FnScope ["_law_deck_here", "_law_names_here", "_law_rows", "_law_box", "_law_deep", "_law_goes", "_law_one", "_law_name"] ["_law_deck_here", "_law_names_here", "_law_rows", "_law_box", "_law_deep"] (defScope s_l_saying) := ⟨rfl, rfl, rfl, by decide +kernel, rfl, by decide +kernel, by decide +kernel⟩
theorem ok_l_saying {a : Adr} (T : Txt K mg a) : ∀ n : Nat, FnOk P w K mg base CX0 (n + 4) a.f_l_saying a.fd_l_saying ["_law_deck_here", "_law_names_here", "_law_rows", "_law_box", "_law_deep"] (spSaying K n)
 | 0 => FnOk.none fun vs H Q E h => by
  obtain ⟨d, nm, rw, bx, ss, rs, bk, deep, _, _, _, _, _, _, hlt, _⟩ := h
  omega
 | n + 1 => by
  have G_l_saying := ok_l_saying T n
  have G_l_next := ok_l_next (P := P) (w := w) (base := base) T
  have G_l_plain := ok_l_plain (P := P) (w := w) (base := base) T
  refine T.F_l_saying.ok sc_l_saying (fun vs H Q E h => ?_) (fun cdv A outer s H vs Q E hr h => ?_)
  ·obtain ⟨d, nm, rw, bx, ss, rs, bk, deep, rfl, _⟩ := h
   rfl
  ·obtain ⟨d, nm, rw, bx, ss, rs, bk, deep, rfl, hd, ⟨hS, hne, hnb, hs0, hss⟩, ⟨hR, hnr, hrb, hrs⟩, hb, hbd, hlt, k⟩ := h
   have hr_l_next : Room 1 _ := hr.mono (by omega)
   have hr_l_plain : Room 3 _ := hr.mono (by omega)
   have hr_l_saying : Room (n + 4) _ := hr
   refine ⟨_, (pss_cons (ps_asg (pe_op op_sub (pe_ix (ix_listK K) (pv 3) pe_int (fun _ _ => rfl)) pe_int) (pg_sub (pv 3) pe_int set_list))
   (pss_cons (ps_set (i := 5) sc_l_saying.nd rfl (Or.inl rfl) (pe_call G_l_next hr_l_next rfl T.m_l_next T.k_l_next T.b_l_next .nil pass0 (pa_cons (pv 0) (pa_cons pe_int pa_nil))))
   (pss_cons (ps_if (PW.pt (pw_or (pt_cmpR op_eq (pv 4) pe_int (nomark _)) (pw_or (pt_cmpR op_lt (pe_ix (ix_listK K) (pv 3) pe_int (fun _ _ => rfl)) pe_int (nomark _)) (pw_or1 (pt_cmpR op_lt (pv 5) pe_int (nomark _))))))
    (pss_one (ps_ret (pe_call G_l_plain hr_l_plain rfl T.m_l_plain T.k_l_plain T.b_l_plain .nil pass0 (pa_cons (pv 0) (pa_cons (pv 1) (pa_cons (pv 2) pa_nil))))))
    pss_nil)
   (pss_cons (ps_if (pt_cmpR op_eq (pv 5) pe_int (nomark _))
    (pss_one (ps_ret (pe_tup (pa_cons pe_str (pa_cons (pe_call G_l_saying hr_l_saying rfl T.m_l_saying T.k_l_saying T.b_l_saying .nil pass0 (pa_cons (pv 0) (pa_cons (pv 1) (pa_cons (pv 2) (pa_cons (pv 3) (pa_cons (pe_op op_sub (pv 4) pe_int) pa_nil)))))) pa_nil)))))
    pss_nil)
   (pss_cons (ps_if (pt_cmpR op_lt (pv 5) pe_int (nomark _))
    (pss_cons (ps_set (i := 6) sc_l_saying.nd rfl (Or.inl rfl) (pe_call G_l_saying hr_l_saying rfl T.m_l_saying T.k_l_saying T.b_l_saying .nil pass0 (pa_cons (pv 0) (pa_cons (pv 1) (pa_cons (pv 2) (pa_cons (pv 3) (pa_cons (pe_op op_sub (pv 4) pe_int) pa_nil)))))))
    (pss_one (ps_ret (pe_tup (pa_cons (pe_ix (ix_listK K) (pe_lst (pa_cons pe_str (pa_cons pe_str pa_nil))) (pe_op op_modP (pv 5) pe_int) (fun _ _ => rfl)) (pa_cons (pv 6) (pa_cons (pe_call G_l_saying hr_l_saying rfl T.m_l_saying T.k_l_saying T.b_l_saying .nil pass0 (pa_cons (pv 0) (pa_cons (pv 1) (pa_cons (pv 2) (pa_cons (pv 3) (pa_cons (pe_op op_sub (pv 4) pe_int) pa_nil)))))) pa_nil)))))))
    pss_nil)
   (pss_cons (ps_set (i := 7) sc_l_saying.nd rfl (Or.inl rfl) (pe_ix (ix_listK K) (pv 1) (pe_call G_l_next hr_l_next rfl T.m_l_next T.k_l_next T.b_l_next .nil pass0 (pa_cons (pv 0) (pa_cons (pe_callB (call_lenK K) (by rfl) T.z_len bt_len (pa_cons (pv 1) pa_nil)) pa_nil))) (fun _ _ => rfl)))
   (pss_one (ps_ret (pe_tup (pa_cons (pe_ix (ix_listK K) (pe_lst (pa_cons pe_str (pa_cons pe_str pa_nil))) (pe_op op_sub (pv 5) pe_int) (fun _ _ => rfl)) (pa_cons (pv 7) (pa_cons (pe_call G_l_saying hr_l_saying rfl T.m_l_saying T.k_l_saying T.b_l_saying .nil pass0 (pa_cons (pv 0) (pa_cons (pv 1) (pa_cons (pv 2) (pa_cons (pv 3) (pa_cons (pe_op op_sub (pv 4) pe_int) pa_nil)))))) pa_nil)))))))))))), ?_⟩
   refine ⟨_, rfl, bx, _, 0, .int bk, rfl, rfl, .of hb, atI_nat (j := 0) rfl, _, _, rfl, rfl, ?_⟩
   refine ⟨_, rfl, bx, _, 0, 0, rfl, rfl, hb, rfl, ?_⟩
   have b1 : (upd H bx (.lst ([V.int bk].set 0 (V.int (bk - 1))))) bx = some (.lst [.int (bk - 1)]) := upd_same
   have k1 : KB2 d bx H (upd H bx (.lst ([V.int bk].set 0 (V.int (bk - 1))))) := KB.r KB.write
   have d1 : Deck2 (upd H bx (.lst ([V.int bk].set 0 (V.int (bk - 1))))) d := hd.kb KB.write hbd.symm
   generalize upd H bx (.lst ([V.int bk].set 0 (V.int (bk - 1)))) = H1 at b1 k1 d1
   refine ⟨_, rfl, d, 9, rfl, d1, by decide, fun go H2 g0 g1 k2 d2 => ?_⟩
   have b2 := k2 _ _ b1 hbd
   have k12 := k1.trans (k2.l (e := bx))
   have hS2 := k12.seq hne hnb hS
   have hR2 := k12.seq hnr hrb hR
   have plain : ∃ v, ([some (.ref d), some (.ref nm), some (.ref rw), some (.ref bx), some (.int deep), some (.int go), none, none] : St)[0]? = some (some v) ∧ ∃ v', ([some (.ref d), some (.ref nm), some (.ref rw), some (.ref bx), some (.int deep), some (.int go), none, none] : St)[1]? = some (some v') ∧
     ∃ v'', ([some (.ref d), some (.ref nm), some (.ref rw), some (.ref bx), some (.int deep), some (.int go), none, none] : St)[2]? = some (some v'') ∧ spPlain K ([v, v', v''] ++ []) H2 Q E0 := by
    refine ⟨_, rfl, _, rfl, _, rfl, d, nm, rw, ss, rs, rfl, d2, hS2, hne, hss, hR2, hnr, hrs, fun p f H' dt dp kk dd => ?_⟩
    exact k p f H' (bk - 1) dt ⟨by have := dp.1; omega, dp.2⟩ (k12.trans (kk.l (e := bx))) dd (kk _ _ b2 hbd)
   refine ⟨_, rfl, rfl, _, rfl, ?_⟩
   refine ite2 (fun _ => iteT plain) (fun hdeep => ?_)
   refine ⟨_, rfl, bx, _, 0, .int (bk - 1), rfl, rfl, .of b2, atI_nat (j := 0) rfl, _, _, rfl, rfl, _, rfl, ?_⟩
   refine ite2 (fun _ => iteT plain) (fun _ => ?_)
   refine ⟨_, rfl, _, _, rfl, rfl, _, rfl, ?_⟩
   refine ite2 (fun _ => plain) (fun hgo3 => ?_)
   have deep1 : 0 < deep := by
    by_cases z : deep = 0
    ·exact absurd (dI (by omega)) hdeep
    ·omega
   obtain ⟨e, he⟩ : ∃ e : Nat, (deep : Int) - 1 = (e : Int) := ⟨deep - 1, by omega⟩
   have he' : e = deep - 1 := by omega
   have self : ∀ (H3 : Hp) (b3 : Int) (Q' : VK), Deck2 H3 d → H3 bx = some (.lst [.int b3]) → KB2 d bx H H3 →
     (∀ (p : Addr) (f : Say) (H' : Hp) (bk' : Int), DatAt K H' (.ref p) f.dt → f.deep ≤ deep - 1 ∧ f.Over ss → KB2 d bx H3 H' → Deck2 H' d → H' bx = some (.lst [.int bk']) → Q' (.ref p) H') →
     spSaying K n ([.ref d, .ref nm, .ref rw, .ref bx, .int ((deep : Int) - 1)] ++ []) H3 Q' E0 := by
    intro H3 b3 Q' d3 h3 k3 kq
    refine ⟨d, nm, rw, bx, ss, rs, b3, e, by rw [he]; rfl, d3, ⟨k3.seq hne hnb hS, hne, hnb, hs0, hss⟩, ⟨k3.seq hnr hrb hR, hnr, hrb, hrs⟩, h3, hbd, by omega, fun p f H' bk' dt dp kk dd hb' => ?_⟩
    exact kq p f H' bk' dt ⟨by have := dp.1; omega, dp.2⟩ kk dd hb'
   refine ⟨_, rfl, rfl, _, rfl, ?_⟩
   refine ite2 (fun _ => ?_) (fun _ => ?_)
   ·refine ⟨_, rfl, _, rfl, _, rfl, _, rfl, _, rfl, _, _, rfl, rfl, ?_⟩
    dsimp only [tNil]
    refine self H2 _ _ d2 b2 k12 fun p f H3 b3 dt dp kk dd hb3 => ⟨by show 2 ≤ sizeLine; decide, fun q hq => ?_⟩
    have sq := Same.new (o := .tup [.str "not", .ref p]) hq
    exact k q (.no f) _ b3 (dat_tup (.of upd_same) (dats_cons dat_str (dats_cons (dat_stay sq.kts _ _ f.noL dt) dats_nil))) ⟨by have := dp.1; simp only [Say.deep]; omega, dp.2⟩ ((k12.trans kk).trans sq.kb2) (dd.same sq) (sq _ _ hb3)
   refine ⟨_, rfl, _, _, rfl, rfl, _, rfl, ?_⟩
   refine ite2 (fun _ => ?_) (fun hgo7 => ?_)
   ·refine ⟨_, rfl, _, rfl, _, rfl, _, rfl, _, rfl, _, _, rfl, rfl, ?_⟩
    dsimp only [tNil]
    refine self H2 _ _ d2 b2 k12 fun p f H3 b3 dt dp kk dd hb3 => ?_
    refine ⟨by show 2 ≤ sizeLine; decide, fun O hO => ?_⟩
    have sO := Same.new (o := .lst [.str "and", .str "or"]) hO
    obtain ⟨x, hx, hv⟩ := pick2 (V.str "and") (V.str "or") (go % 2) (Int.emod_nonneg _ (by decide)) (Int.emod_lt_of_pos _ (by decide))
    refine ⟨_, rfl, _, _, rfl, rfl, cpos (by decide), O, _, _, x, rfl, rfl, .of upd_same, hx, _, rfl, _, rfl, _, rfl, _, rfl, _, rfl, _, rfl, _, _, rfl, rfl, ?_⟩
    dsimp only [tNil]
    refine self _ _ _ (dd.same sO) (sO _ _ hb3) ((k12.trans kk).trans sO.kb2) fun p2 f2 H4 b4 dt2 dp2 kk2 dd2 hb4 => ⟨by show 3 ≤ sizeLine; decide, fun q hq => ?_⟩
    have sq := Same.new (o := .tup [x, .ref p, .ref p2]) hq
    obtain ⟨xd, exd⟩ := (dd.same sO).is
    have kt : KTs K H3 (upd H4 q (.tup [x, .ref p, .ref p2])) := sO.kts.trans ((KB2.kts exd (sO _ _ hb3) kk2).trans sq.kts)
    have m1 := dat_stay kt _ _ f.noL dt
    have m2 := dat_stay sq.kts _ _ f2.noL dt2
    have kf : KB2 d bx H (upd H4 q (.tup [x, .ref p, .ref p2])) := (((k12.trans kk).trans sO.kb2).trans kk2).trans sq.kb2
    rcases hv with rfl | rfl
    ·exact k q (.and f f2) _ b4 (dat_tup (.of upd_same) (dats_cons dat_str (dats_cons m1 (dats_cons m2 dats_nil)))) ⟨by have := dp.1; have := dp2.1; simp only [Say.deep]; omega, dp.2, dp2.2⟩ kf (dd2.same sq) (sq _ _ hb4)
    ·exact k q (.or f f2) _ b4 (dat_tup (.of upd_same) (dats_cons dat_str (dats_cons m1 (dats_cons m2 dats_nil)))) ⟨by have := dp.1; have := dp2.1; simp only [Say.deep]; omega, dp.2, dp2.2⟩ kf (dd2.same sq) (sq _ _ hb4)
   ·refine ⟨_, rfl, _, rfl, _, rfl, _, ss.length, rfl, .inl ⟨_, hS2, by rw [List.length_map]⟩, d, (ss.length : Int), rfl, d2, by omega, fun r H3 r0 r1 k3 d3 => ?_⟩
    obtain ⟨nx, hnx, _⟩ := pickS ss r r0 r1
    have k13 := k12.trans (k3.l (e := bx))
    have b3 := k3 _ _ b2 hbd
    refine ⟨nm, _, _, .str nx, rfl, rfl, k13.seq hne hnb hS, hnx, ?_⟩
    refine ⟨by show 2 ≤ sizeLine; decide, fun O hO => ?_⟩
    have sO := Same.new (o := .lst [.str "some", .str "each"]) hO
    have hgo7' : 7 ≤ go := by
     have : ¬ (go < 7) := fun z => hgo7 (decide_eq_true z)
     omega
    obtain ⟨x, hx, hv⟩ := pick2 (V.str "some") (V.str "each") (go - 7) (by omega) (by omega)
    refine ⟨_, rfl, _, _, rfl, rfl, O, _, _, x, rfl, rfl, .of upd_same, hx, _, rfl, _, rfl, _, rfl, _, rfl, _, rfl, _, rfl, _, _, rfl, rfl, ?_⟩
    dsimp only [tNil]
    refine self _ _ _ (d3.same sO) (sO _ _ b3) (k13.trans sO.kb2) fun p f H4 b4 dt dp kk dd hb4 => ⟨by show 3 ≤ sizeLine; decide, fun q hq => ?_⟩
    have sq := Same.new (o := .tup [x, .str nx, .ref p]) hq
    have m1 := dat_stay sq.kts _ _ f.noL dt
    have kf : KB2 d bx H (upd H4 q (.tup [x, .str nx, .ref p])) := ((k13.trans sO.kb2).trans kk).trans sq.kb2
    rcases hv with rfl | rfl
    ·exact k q (.some nx f) _ b4 (dat_tup (.of upd_same) (dats_cons dat_str (dats_cons dat_str (dats_cons m1 dats_nil)))) ⟨by have := dp.1; simp only [Say.deep]; omega, dp.2⟩ kf (dd.same sq) (sq _ _ hb4)
    ·exact k q (.each nx f) _ b4 (dat_tup (.of upd_same) (dats_cons dat_str (dats_cons dat_str (dats_cons m1 dats_nil)))) ⟨by have := dp.1; simp only [Say.deep]; omega, dp.2⟩ kf (dd.same sq) (sq _ _ hb4)
def Say.word : Say → Str
 | .same _ _ => "same" | .less _ _ => "less" | .sign _ _ _ => "sign" | .alike _ _ _ _ => "alike" | .no _ => "not" | .and _ _ => "and" | .or _ _ => "or" | .some _ _ => "some" | .each _ _ => "each"
def Say.inner : Say → List Say
 | .no f => [f] | .and f g => [f, g] | .or f g => [f, g] | .some _ f => [f] | .each _ f => [f] | _ => []
def Say.spots : Say → List Nat
 | .no _ => [1] | .and _ _ => [1, 2] | .or _ _ => [1, 2] | .some _ _ => [2] | .each _ _ => [2] | _ => []
structure PAdr where
 d : Addr
 no : Addr
 an : Addr
 or : Addr
 so : Addr
 ea : Addr
def partTab (b : PAdr) : List (Str × Option V) :=
 [("not", some (.ref b.no)), ("and", some (.ref b.an)), ("or", some (.ref b.or)), ("some", some (.ref b.so)), ("each", some (.ref b.ea)), ("same", none), ("less", none), ("sign", none), ("alike", none)]
structure TopsP (K : PySem.W.Frag) (pr : Params) (mg : Str → Option Value) (b : PAdr) : Prop where
 m_PART : mg "PART_SPOTS" = some (.ref b.d)
 D_PART : TopDict K pr b.d (partTab b)
 no : ∀ H, SqT K H b.no [.int 1]
 an : ∀ H, SqT K H b.an [.int 1, .int 2]
 or : ∀ H, SqT K H b.or [.int 1, .int 2]
 so : ∀ H, SqT K H b.so [.int 2]
 ea : ∀ H, SqT K H b.ea [.int 2]
theorem TopsP.spots {K : PySem.W.Frag} {pr : Params} {mg : Str → Option Value} {b : PAdr} (U : TopsP K pr mg b) (f : Say) (H : Hp) (e : Addr) (he : SqT K H e []) :
  ∃ r p, (f.word, r) ∈ partTab b ∧ r.getD (.ref e) = .ref p ∧ SqT K H p (f.spots.map fun (n : Nat) => V.int (n : Int)) := by
 cases f with
 | same t u => exact ⟨none, e, by simp [partTab, Say.word], rfl, he⟩
 | less t u => exact ⟨none, e, by simp [partTab, Say.word], rfl, he⟩
 | sign a t s => exact ⟨none, e, by simp [partTab, Say.word], rfl, he⟩
 | alike a t c u => exact ⟨none, e, by simp [partTab, Say.word], rfl, he⟩
 | no f => exact ⟨some (.ref b.no), b.no, by simp [partTab, Say.word], rfl, U.no H⟩
 | and f g => exact ⟨some (.ref b.an), b.an, by simp [partTab, Say.word], rfl, U.an H⟩
 | or f g => exact ⟨some (.ref b.or), b.or, by simp [partTab, Say.word], rfl, U.or H⟩
 | some n f => exact ⟨some (.ref b.so), b.so, by simp [partTab, Say.word], rfl, U.so H⟩
 | each n f => exact ⟨some (.ref b.ea), b.ea, by simp [partTab, Say.word], rfl, U.ea H⟩
theorem dats_inv {K : PySem.W.Frag} {H : Hp} {xs : List V} {d : Dt} {ds : List Dt} (h : DatsAt K H xs (d :: ds)) : ∃ y ys, xs = y :: ys ∧ DatAt K H y d ∧ DatsAt K H ys ds := by
 cases xs with
 | nil => simp [DatsAt] at h
 | cons y ys => rw [DatsAt] at h; exact ⟨y, ys, rfl, h.1, h.2⟩
theorem dat_tup_inv {K : PySem.W.Frag} {H : Hp} {x : V} {ds : List Dt} (h : DatAt K H x (.tup ds)) : ∃ a xs, x = .ref a ∧ SqT K H a xs ∧ DatsAt K H xs ds := by rw [DatAt] at h; exact h
theorem Say.isTup (f : Say) : ∃ ds, f.dt = .tup (.str f.word :: ds) := by
 cases f <;> exact ⟨_, rfl⟩
theorem say_at {K : PySem.W.Frag} {H : Hp} {x : V} (f : Say) (h : DatAt K H x f.dt) : ∃ a xs, x = .ref a ∧ SqT K H a xs ∧ xs[0]? = some (.str f.word) ∧
  ∀ (i n : Nat), f.spots[i]? = some n → ∃ y g, xs[n]? = some y ∧ f.inner[i]? = some g ∧ DatAt K H y g.dt := by
 obtain ⟨ds, e⟩ := f.isTup
 have h' := h
 rw [e] at h'
 obtain ⟨a, xs, rfl, hq, hd⟩ := dat_tup_inv h'
 obtain ⟨y0, ys, rfl, h0, hd1⟩ := dats_inv hd
 clear hd
 refine ⟨a, _, rfl, hq, by rw [DatAt] at h0; rw [h0]; rfl, ?_⟩
 have one : ∀ {i n m : Nat}, ([m] : List Nat)[i]? = some n → i = 0 ∧ n = m := fun {i n m} z => by
  cases i with
  | zero => simp at z; exact ⟨rfl, z.symm⟩
  | succ i => simp at z
 have two : ∀ {i n m k : Nat}, ([m, k] : List Nat)[i]? = some n → (i = 0 ∧ n = m) ∨ (i = 1 ∧ n = k) := fun {i n m k} z => by
  match i with
  | 0 => simp at z; exact .inl ⟨rfl, z.symm⟩
  | 1 => simp at z; exact .inr ⟨rfl, z.symm⟩
  | i + 2 => simp at z
 cases f with
 | same t u => intro i n z; simp [Say.spots] at z
 | less t u => intro i n z; simp [Say.spots] at z
 | sign b t s => intro i n z; simp [Say.spots] at z
 | alike b t c u => intro i n z; simp [Say.spots] at z
 | no f =>
  cases e
  obtain ⟨y1, ys, rfl, h1, _⟩ := dats_inv hd1
  intro i n z
  obtain ⟨rfl, rfl⟩ := one z
  exact ⟨y1, f, rfl, rfl, h1⟩
 | and f g =>
  cases e
  obtain ⟨y1, ys, rfl, h1, hd2⟩ := dats_inv hd1
  obtain ⟨y2, ys, rfl, h2, _⟩ := dats_inv hd2
  intro i n z
  rcases two z with ⟨rfl, rfl⟩ | ⟨rfl, rfl⟩
  ·exact ⟨y1, f, rfl, rfl, h1⟩
  ·exact ⟨y2, g, rfl, rfl, h2⟩
 | or f g =>
  cases e
  obtain ⟨y1, ys, rfl, h1, hd2⟩ := dats_inv hd1
  obtain ⟨y2, ys, rfl, h2, _⟩ := dats_inv hd2
  intro i n z
  rcases two z with ⟨rfl, rfl⟩ | ⟨rfl, rfl⟩
  ·exact ⟨y1, f, rfl, rfl, h1⟩
  ·exact ⟨y2, g, rfl, rfl, h2⟩
 | some m f =>
  cases e
  obtain ⟨y1, ys, rfl, h1, hd2⟩ := dats_inv hd1
  obtain ⟨y2, ys, rfl, h2, _⟩ := dats_inv hd2
  intro i n z
  obtain ⟨rfl, rfl⟩ := one z
  exact ⟨y2, f, rfl, rfl, h2⟩
 | each m f =>
  cases e
  obtain ⟨y1, ys, rfl, h1, hd2⟩ := dats_inv hd1
  obtain ⟨y2, ys, rfl, h2, _⟩ := dats_inv hd2
  intro i n z
  obtain ⟨rfl, rfl⟩ := one z
  exact ⟨y2, f, rfl, rfl, h2⟩
theorem spots_len (f : Say) : f.spots.length = f.inner.length := by cases f <;> rfl
theorem inner_small (f : Say) : f.inner.length ≤ 2 := by cases f <;> simp [Say.inner]
theorem inner_deep (f g : Say) (h : g ∈ f.inner) : g.deep < f.deep := by
 cases f with
 | no f =>
  have : g = f := by simpa [Say.inner] using h
  subst this; simp [Say.deep]
 | and f1 f2 =>
  have : g = f1 ∨ g = f2 := by simpa [Say.inner] using h
  rcases this with rfl | rfl <;> simp only [Say.deep] <;> omega
 | or f1 f2 =>
  have : g = f1 ∨ g = f2 := by simpa [Say.inner] using h
  rcases this with rfl | rfl <;> simp only [Say.deep] <;> omega
 | some n f =>
  have : g = f := by simpa [Say.inner] using h
  subst this; simp [Say.deep]
 | each n f =>
  have : g = f := by simpa [Say.inner] using h
  subst this; simp [Say.deep]
 | _ => simp [Say.inner] at h
theorem says_noL : ∀ fs : List Say, Dt.noLs (fs.map Say.dt) = true
 | [] => by simp [Dt.noLs]
 | f :: fs => by rw [List.map_cons, Dt.noLs, says_noL fs, f.noL]; rfl
def spInner (K : PySem.W.Frag) : Sp := fun vs H Q _ => ∃ (x : V) (f : Say), vs = [x] ∧ DatAt K H x f.dt ∧ ∀ (D : Addr) (xs : List V) (H' : Hp), H D = none → Same H H' → H' D = some (.lst xs) → DatsAt K H' xs (f.inner.map Say.dt) → Q (.ref D) H'
theorem sc_inner_parts : FnScope ["saying"] ["saying"] (defScope s_inner_parts) := ⟨rfl, rfl, rfl, by decide +kernel, rfl, by decide +kernel, by decide +kernel⟩
theorem ok_inner_parts {a : Adr} {b : PAdr} (T : Txt K mg a) (U : TopsP K w.params mg b) : FnOk P w K mg base CX0 1 a.f_inner_parts a.fd_inner_parts ["saying"] (spInner K) := by
 refine T.F_inner_parts.ok sc_inner_parts (fun vs H Q E h => ?_) (fun cdv A outer s H vs Q E hr h => ?_)
 ·obtain ⟨x, f, rfl, _⟩ := h
  rfl
 ·obtain ⟨x, f, rfl, hf, k⟩ := h
  obtain ⟨a, xs, rfl, hq, h0, hsp⟩ := say_at f hf
  refine ⟨_, (pss_one (ps_ret (pe_comp (CompScope.mk' (esc := defScope s_inner_parts) (N := ["saying"]) (own := ["spot"]) (frn := ["saying"]) (frj := [0]) rfl rfl (by decide +kernel)) rfl (pi_tup (pe_topget U.D_PART rfl U.m_PART (pe_ix (ix_tupK K) (pv 0) pe_int (fun _ _ => rfl)) (pe_tup pa_nil))) (fun _ _ _ _ => (pg_name (i := 0) (show List.Nodup (["spot", "saying"] : List Str) by decide +kernel) rfl (Or.inl rfl))) (fun _ _ _ _ => pifs_nil) (fun _ _ _ _ => (pe_ix (ix_tupK K) (pv 1) (pv 0) (fun _ _ => rfl)))))), ?_⟩
  refine ⟨_, rfl, a, xs, 0, .str f.word, rfl, rfl, hq, atI_nat (j := 0) h0, by decide, fun e he => ?_⟩
  have s1 := Same.new (o := .tup []) he
  obtain ⟨r, p, hr1, hr2, hr3⟩ := U.spots f (upd H e (.tup [])) e (.of upd_same)
  refine ⟨f.word, r, rfl, hr1, p, hr2, ⟨_, hr3⟩, fun C hC => ?_⟩
  refine comp_tup (xs := f.spots.map fun (n : Nat) => V.int (n : Int)) (fun i σ H' => ∃ (ys : List V) (v : Option V), σ = [v, some (.ref a)] ∧ Same (upd H e (.tup [])) H' ∧ H' C = some (.lst ys) ∧ DatsAt K H' ys ((f.inner.take i).map Say.dt) ∧ ys.length = i)
   ⟨[], none, rfl, Same.new hC, upd_same, dats_nil, rfl⟩ (fun i σ H' _ ⟨_, _, _, h, _⟩ => h.seqT hr3) ?_ ?_
  ·rintro i y σ H1 hy ⟨ys, v, rfl, s2, e2, dt2, ly⟩
   rw [List.getElem?_map] at hy
   cases en : f.spots[i]? with
   | none => rw [en] at hy; cases hy
   | some n =>
    rw [en] at hy
    have ey : y = .int (n : Int) := (Option.some.inj hy).symm
    subst ey
    obtain ⟨z, g, hz, hg, hdz⟩ := hsp i n en
    have kt : KTs K H H1 := (s1.trans s2).kts
    refine ⟨_, rfl, _, rfl, a, xs, _, z, rfl, rfl, kt _ _ hq, atI_nat hz, ys, e2, ?_, ys ++ [z], _, rfl, s2.kbn hC KB.write, upd_same, ?_, ?_⟩
    ·have : i < f.spots.length := (List.getElem?_eq_some_iff.mp en).1
     have h2 := inner_small f
     rw [spots_len] at this
     exact Nat.lt_of_lt_of_le (show ys.length < 10 by omega) (by decide)
    ·have e1 : f.inner.take (i + 1) = f.inner.take i ++ [g] := by rw [List.take_add_one, hg]; rfl
     rw [e1, List.map_append]
     have kk : KTs K H1 (upd H1 C (.lst (ys ++ [z]))) := KB.kts e2 KB.write
     exact dats_app (dats_stay kk _ _ (says_noL _) dt2) (dats_cons (dat_stay (kt.trans kk) _ _ g.noL hdz) dats_nil)
    ·rw [List.length_append, ly]; rfl
  ·rintro σ H1 ⟨ys, v, rfl, s2, e2, dt2, ly⟩
   rw [List.length_map, spots_len, List.take_length] at dt2
   exact k C ys H1 (s1.free hC) (s1.trans s2) e2 dt2
def Say.terms : Say → List Term
 | .same t u => [t, u] | .less t u => [t, u] | .sign _ t _ => [t] | .alike _ t _ u => [t, u] | _ => []
def Say.tspots : Say → List Nat
 | .same _ _ => [1, 2] | .less _ _ => [1, 2] | .sign _ _ _ => [2] | .alike _ _ _ _ => [2, 4] | _ => []
def tnm (t : Term) : List Str := t.parts.map (·.1)
def Say.tnames (f : Say) : List Str := f.terms.flatMap tnm
def Say.binds : Say → Option Str
 | .some n _ => Option.some n | .each n _ => Option.some n | _ => Option.none
def Say.Free : Say → Str → Prop
 | .same t u, y => y ∈ tnm t ∨ y ∈ tnm u
 | .less t u, y => y ∈ tnm t ∨ y ∈ tnm u
 | .sign _ t _, y => y ∈ tnm t
 | .alike _ t _ u, y => y ∈ tnm t ∨ y ∈ tnm u
 | .no f, y => f.Free y
 | .and f g, y => f.Free y ∨ g.Free y
 | .or f g, y => f.Free y ∨ g.Free y
 | .some n f, y => f.Free y ∧ y ≠ n
 | .each n f, y => f.Free y ∧ y ≠ n
theorem free_iff (f : Say) (y : Str) : f.Free y ↔ (y ∈ f.tnames ∨ ∃ g ∈ f.inner, g.Free y) ∧ f.binds ≠ some y := by
 cases f <;> simp [Say.Free, Say.tnames, Say.terms, Say.inner, Say.binds]
 all_goals (intro _; constructor <;> (intro h e; exact h e.symm))
theorem over_terms {ss : List Str} {f : Say} (h : f.Over ss) : ∀ t ∈ f.terms, TOver ss t := by
 cases f <;> simp [Say.Over, Say.terms] at h ⊢ <;> first | exact h | skip
theorem over_inner {ss : List Str} {f : Say} (h : f.Over ss) : ∀ g ∈ f.inner, g.Over ss := by
 cases f <;> simp [Say.Over, Say.inner] at h ⊢ <;> first | exact h | skip
theorem tnm_in {ss : List Str} {t : Term} (h : TOver ss t) {y : Str} (hy : y ∈ tnm t) : y ∈ ss := by
 obtain ⟨q, hq, rfl⟩ := List.mem_map.mp hy
 exact h.2 q hq
theorem free_in {ss : List Str} {y : Str} : ∀ {f : Say}, f.Over ss → f.Free y → y ∈ ss
 | .same t u, h, hf => hf.elim (tnm_in h.1) (tnm_in h.2)
 | .less t u, h, hf => hf.elim (tnm_in h.1) (tnm_in h.2)
 | .sign _ t _, h, hf => tnm_in (show TOver ss t from h) hf
 | .alike _ t _ u, h, hf => hf.elim (tnm_in h.1) (tnm_in h.2)
 | .no f, h, hf => free_in (f := f) h hf
 | .and f g, h, hf => hf.elim (free_in h.1) (free_in h.2)
 | .or f g, h, hf => hf.elim (free_in h.1) (free_in h.2)
 | .some n f, h, hf => free_in (f := f) h hf.1
 | .each n f, h, hf => free_in (f := f) h hf.1
structure IsFree (ks : List Str) (f : Say) : Prop where
 sorted : PyProof.Rows.sortedS ks = true
 once : ks.Nodup
 mem : ∀ y, y ∈ ks ↔ f.Free y
theorem IsFree.len {ks ss : List Str} {f : Say} (h : IsFree ks f) (o : f.Over ss) : ks.length ≤ ss.length := nodup_len h.once fun y hy => free_in o ((h.mem y).mp hy)
theorem terms_small (f : Say) : f.terms.length ≤ 2 := by cases f <;> simp [Say.terms]
theorem tspots_len (f : Say) : f.tspots.length = f.terms.length := by cases f <;> rfl
theorem flat_small {ss : List Str} : ∀ {ts : List Term}, (∀ t ∈ ts, TOver ss t) → (ts.flatMap tnm).length ≤ 3 * ts.length
 | [], _ => Nat.zero_le _
 | t :: ts, h => by
  rw [List.flatMap_cons, List.length_append, List.length_cons, tnm, List.length_map]
  have h1 := (h t List.mem_cons_self).1
  have h2 := flat_small (ts := ts) fun u hu => h u (List.mem_cons_of_mem _ hu)
  omega
theorem tnames_small {ss : List Str} {f : Say} (h : f.Over ss) : f.tnames.length ≤ 6 := by
 have h1 := flat_small (over_terms h)
 have h2 := terms_small f
 unfold Say.tnames
 omega
structure TAdr where
 d : Addr
 sa : Addr
 le : Addr
 si : Addr
 al : Addr
def termTab (b : TAdr) : List (Str × Option V) :=
 [("same", some (.ref b.sa)), ("less", some (.ref b.le)), ("sign", some (.ref b.si)), ("alike", some (.ref b.al)), ("not", none), ("and", none), ("or", none), ("some", none), ("each", none)]
structure TopsT (K : PySem.W.Frag) (pr : Params) (mg : Str → Option Value) (b : TAdr) : Prop where
 m_TERM : mg "TERM_SPOTS" = some (.ref b.d)
 D_TERM : TopDict K pr b.d (termTab b)
 sa : ∀ H, SqT K H b.sa [.int 1, .int 2]
 le : ∀ H, SqT K H b.le [.int 1, .int 2]
 si : ∀ H, SqT K H b.si [.int 2]
 al : ∀ H, SqT K H b.al [.int 2, .int 4]
theorem TopsT.spots {K : PySem.W.Frag} {pr : Params} {mg : Str → Option Value} {b : TAdr} (U : TopsT K pr mg b) (f : Say) (H : Hp) (e : Addr) (he : SqT K H e []) :
  ∃ r p, (f.word, r) ∈ termTab b ∧ r.getD (.ref e) = .ref p ∧ SqT K H p (f.tspots.map fun (n : Nat) => V.int (n : Int)) := by
 cases f with
 | same t u => exact ⟨some (.ref b.sa), b.sa, by simp [termTab, Say.word], rfl, U.sa H⟩
 | less t u => exact ⟨some (.ref b.le), b.le, by simp [termTab, Say.word], rfl, U.le H⟩
 | sign a t s => exact ⟨some (.ref b.si), b.si, by simp [termTab, Say.word], rfl, U.si H⟩
 | alike a t c u => exact ⟨some (.ref b.al), b.al, by simp [termTab, Say.word], rfl, U.al H⟩
 | no f => exact ⟨none, e, by simp [termTab, Say.word], rfl, he⟩
 | and f g => exact ⟨none, e, by simp [termTab, Say.word], rfl, he⟩
 | or f g => exact ⟨none, e, by simp [termTab, Say.word], rfl, he⟩
 | some n f => exact ⟨none, e, by simp [termTab, Say.word], rfl, he⟩
 | each n f => exact ⟨none, e, by simp [termTab, Say.word], rfl, he⟩
theorem say_terms {K : PySem.W.Frag} {H : Hp} {x : V} (f : Say) (h : DatAt K H x f.dt) : ∃ a xs, x = .ref a ∧ SqT K H a xs ∧ xs[0]? = some (.str f.word) ∧
  (∀ (i n : Nat), f.tspots[i]? = some n → ∃ y t, xs[n]? = some y ∧ f.terms[i]? = some t ∧ DatAt K H y t.dt) ∧ ∀ n, f.binds = some n → xs[1]? = some (.str n) := by
 obtain ⟨ds, e⟩ := f.isTup
 have h' := h
 rw [e] at h'
 obtain ⟨a, xs, rfl, hq, hd⟩ := dat_tup_inv h'
 obtain ⟨y0, ys, rfl, h0, hd1⟩ := dats_inv hd
 clear hd
 refine ⟨a, _, rfl, hq, by rw [DatAt] at h0; rw [h0]; rfl, ?_⟩
 have one : ∀ {i n m : Nat}, ([m] : List Nat)[i]? = some n → i = 0 ∧ n = m := fun {i n m} z => by
  cases i with
  | zero => simp at z; exact ⟨rfl, z.symm⟩
  | succ i => simp at z
 have two : ∀ {i n m k : Nat}, ([m, k] : List Nat)[i]? = some n → (i = 0 ∧ n = m) ∨ (i = 1 ∧ n = k) := fun {i n m k} z => by
  match i with
  | 0 => simp at z; exact .inl ⟨rfl, z.symm⟩
  | 1 => simp at z; exact .inr ⟨rfl, z.symm⟩
  | i + 2 => simp at z
 have nb : ∀ {P : Prop} {n : Str}, (Option.none : Option Str) = some n → P := fun z => nomatch z
 cases f with
 | same t u =>
  cases e
  obtain ⟨y1, ys, rfl, h1, hd2⟩ := dats_inv hd1
  obtain ⟨y2, ys, rfl, h2, _⟩ := dats_inv hd2
  refine ⟨fun i n z => ?_, fun n z => nb z⟩
  rcases two z with ⟨rfl, rfl⟩ | ⟨rfl, rfl⟩
  ·exact ⟨y1, t, rfl, rfl, h1⟩
  ·exact ⟨y2, u, rfl, rfl, h2⟩
 | less t u =>
  cases e
  obtain ⟨y1, ys, rfl, h1, hd2⟩ := dats_inv hd1
  obtain ⟨y2, ys, rfl, h2, _⟩ := dats_inv hd2
  refine ⟨fun i n z => ?_, fun n z => nb z⟩
  rcases two z with ⟨rfl, rfl⟩ | ⟨rfl, rfl⟩
  ·exact ⟨y1, t, rfl, rfl, h1⟩
  ·exact ⟨y2, u, rfl, rfl, h2⟩
 | sign b t s =>
  cases e
  obtain ⟨y1, ys, rfl, h1, hd2⟩ := dats_inv hd1
  obtain ⟨y2, ys, rfl, h2, _⟩ := dats_inv hd2
  refine ⟨fun i n z => ?_, fun n z => nb z⟩
  obtain ⟨rfl, rfl⟩ := one z
  exact ⟨y2, t, rfl, rfl, h2⟩
 | alike b t c u =>
  cases e
  obtain ⟨y1, ys, rfl, h1, hd2⟩ := dats_inv hd1
  obtain ⟨y2, ys, rfl, h2, hd3⟩ := dats_inv hd2
  obtain ⟨y3, ys, rfl, h3, hd4⟩ := dats_inv hd3
  obtain ⟨y4, ys, rfl, h4, _⟩ := dats_inv hd4
  refine ⟨fun i n z => ?_, fun n z => nb z⟩
  rcases two z with ⟨rfl, rfl⟩ | ⟨rfl, rfl⟩
  ·exact ⟨y2, t, rfl, rfl, h2⟩
  ·exact ⟨y4, u, rfl, rfl, h4⟩
 | no f => exact ⟨fun i n z => by simp [Say.tspots] at z, fun n z => nb z⟩
 | and f g => exact ⟨fun i n z => by simp [Say.tspots] at z, fun n z => nb z⟩
 | or f g => exact ⟨fun i n z => by simp [Say.tspots] at z, fun n z => nb z⟩
 | some m f =>
  cases e
  obtain ⟨y1, ys, rfl, h1, hd2⟩ := dats_inv hd1
  refine ⟨fun i n z => by simp [Say.tspots] at z, fun n z => ?_⟩
  have z' : m = n := Option.some.inj z
  rw [DatAt] at h1
  rw [← z', h1]; rfl
 | each m f =>
  cases e
  obtain ⟨y1, ys, rfl, h1, hd2⟩ := dats_inv hd1
  refine ⟨fun i n z => by simp [Say.tspots] at z, fun n z => ?_⟩
  have z' : m = n := Option.some.inj z
  rw [DatAt] at h1
  rw [← z', h1]; rfl
theorem term_at {K : PySem.W.Frag} {H : Hp} {x : V} {t : Term} (h : DatAt K H x t.dt) : ∃ a p ys, x = .ref a ∧ SqT K H a [.int t.num, .ref p] ∧ SqT K H p ys ∧ DatsAt K H ys (t.parts.map partDt) := by
 obtain ⟨a, xs, rfl, hq, hd⟩ := dat_tup_inv (show DatAt K H x (.tup [.int t.num, .tup (t.parts.map partDt)]) from h)
 obtain ⟨y0, ys, rfl, h0, hd1⟩ := dats_inv hd
 obtain ⟨y1, ys, rfl, h1, hd2⟩ := dats_inv hd1
 have e : ys = [] := by
  have := hd2.length
  simpa using this
 subst e
 rw [DatAt] at h0
 subst h0
 obtain ⟨p, zs, rfl, hp, hz⟩ := dat_tup_inv h1
 exact ⟨a, p, zs, rfl, hq, hp, hz⟩
theorem part_one {K : PySem.W.Frag} {H : Hp} {x : V} {p : Str × Int} (h : DatAt K H x (partDt p)) : ∃ a, x = .ref a ∧ SqT K H a [.str p.1, .int p.2] := by
 obtain ⟨a, xs, rfl, hq, hd⟩ := dat_tup_inv (show DatAt K H x (.tup [.str p.1, .int p.2]) from h)
 obtain ⟨y0, ys, rfl, h0, hd1⟩ := dats_inv hd
 obtain ⟨y1, ys, rfl, h1, hd2⟩ := dats_inv hd1
 have e : ys = [] := by
  have := hd2.length
  simpa using this
 subst e
 rw [DatAt] at h0
 rw [DatAt] at h1
 subst h0 h1
 exact ⟨a, rfl, hq⟩
theorem take_snoc {α : Type} {xs : List α} {i : Nat} {x : α} (h : xs[i]? = some x) : xs.take (i + 1) = xs.take i ++ [x] := by rw [List.take_add_one, h]; rfl
def spTermNames (K : PySem.W.Frag) : Sp := fun vs H Q _ => ∃ (x : V) (f : Say) (ss : List Str), vs = [x] ∧ DatAt K H x f.dt ∧ f.Over ss ∧ ∀ (D : Addr) (H' : Hp), H D = none → Same H H' → H' D = some (.lst (f.tnames.map V.str)) → Q (.ref D) H'
theorem sc_term_names : FnScope ["saying", "names", "spot"] ["saying"] (defScope s_term_names) := ⟨rfl, rfl, rfl, by decide +kernel, rfl, by decide +kernel, by decide +kernel⟩
theorem ok_term_names {a : Adr} {b : TAdr} (T : Txt K mg a) (Y : TopsT K w.params mg b) : FnOk P w K mg base CX0 1 a.f_term_names a.fd_term_names ["saying"] (spTermNames K) := by
 refine T.F_term_names.ok sc_term_names (fun vs H Q E h => ?_) (fun cdv A outer s H vs Q E hr h => ?_)
 ·obtain ⟨x, f, ss, rfl, _⟩ := h
  rfl
 ·obtain ⟨x, f, ss, rfl, hf, ov, k⟩ := h
  obtain ⟨a, xs, rfl, hq, h0, hsp, _⟩ := say_terms f hf
  refine ⟨_, (pss_cons (ps_set (i := 1) sc_term_names.nd rfl (Or.inl rfl) (pe_lst pa_nil))
  (pss_cons (ps_for PassesOwn.never rfl (pi_tup (pe_topget Y.D_TERM rfl Y.m_TERM (pe_ix (ix_tupK K) (pv 0) pe_int (fun _ _ => rfl)) (pe_tup pa_nil))) (pg_name (i := 2) sc_term_names.nd rfl (Or.inl rfl))
   (pss_one (ps_expr (pe_bm PySem.F.plainAttrs_list PySem.F.slot_list_extend PySem.F.type_list_extend mt_extend (pv 1) (pa_cons (pe_comp (CompScope.mk' (esc := defScope s_term_names) (N := ["saying", "names", "spot"]) (own := ["part"]) (frn := []) (frj := []) rfl rfl (by decide +kernel)) rfl (pi_tup (pe_ix (ix_tupK K) (pe_ix (ix_tupK K) (pv 0) (pv 2) (fun _ _ => rfl)) pe_int (fun _ _ => rfl))) (fun _ _ _ _ => (pg_name (i := 0) (show List.Nodup (["part"] : List Str) by decide +kernel) rfl (Or.inl rfl))) (fun _ _ _ _ => pifs_nil) (fun _ _ _ _ => (pe_ix (ix_tupK K) (pv 0) pe_int (fun _ _ => rfl)))) pa_nil)))))
  (pss_one (ps_ret (pv 1))))), ?_⟩
  refine ⟨by decide, fun N hN => ?_⟩
  have sN := Same.new (o := .lst []) hN
  refine ⟨_, rfl, a, xs, 0, .str f.word, rfl, rfl, sN.seqT hq, atI_nat (j := 0) h0, by decide, fun e he => ?_⟩
  have s1 := sN.trans (Same.new (o := .tup []) he)
  obtain ⟨r, p, hr1, hr2, hr3⟩ := Y.spots f (upd (upd H N (.lst [])) e (.tup [])) e (.of upd_same)
  have eN1 : (upd (upd H N (.lst [])) e (.tup [])) N = some (.lst []) := (Same.new (o := .tup []) he) _ _ upd_same
  generalize upd (upd H N (.lst [])) e (.tup []) = H1 at s1 hr3 eN1 ⊢
  refine ⟨f.word, r, rfl, hr1, p, hr2, ⟨_, hr3⟩, for_tup (xs := f.tspots.map fun (n : Nat) => V.int (n : Int)) (fun i σ H' => ∃ v2 : Option V, σ = [some (.ref a), some (.ref N), v2] ∧ KB N H1 H' ∧ H' N = some (.lst (((f.terms.take i).flatMap tnm).map V.str)))
   ⟨none, rfl, KB.refl _ _, eN1⟩ (fun i σ H' _ ⟨_, _, h, e⟩ => (KB.kts eN1 h) _ _ hr3) ?_ ?_⟩
  ·rintro i y σ H2 hy ⟨v2, rfl, k2, eN⟩
   rw [List.getElem?_map] at hy
   cases en : f.tspots[i]? with
   | none => rw [en] at hy; cases hy
   | some n =>
    rw [en] at hy
    have ey : y = .int (n : Int) := (Option.some.inj hy).symm
    subst ey
    obtain ⟨z, t, hz, ht, hdz⟩ := hsp i n en
    have kt : KTs K H H2 := s1.kts.trans (KB.kts eN1 k2)
    obtain ⟨ta, pa, ys, rfl, q1, q2, q3⟩ := term_at (dat_stay kt _ _ t.noL hdz)
    have to := over_terms ov t (List.mem_of_getElem? ht)
    refine ⟨_, rfl, .inl ⟨rfl, _, .of eN⟩, _, rfl, _, rfl, a, xs, _, _, rfl, rfl, kt _ _ hq, atI_nat hz, ta, _, _, _, rfl, rfl, q1, atI_nat (j := 1) (v := .ref pa) rfl, pa, rfl, ⟨_, q2⟩, fun C hC => ?_⟩
    have nNC : N ≠ C := ne_of_none eN hC
    refine comp_tup (xs := ys) (fun j σ H' => ∃ v : Option V, σ = [v] ∧ Same H2 H' ∧ H' C = some (.lst (((t.parts.take j).map (·.1)).map V.str)))
     ⟨none, ?sg, Same.new hC, upd_same⟩ (fun j σ H' _ ⟨_, _, s, _⟩ => s.seqT q2) ?_ ?_
    case sg => rfl
    ·rintro j y σ H3 hy ⟨v, rfl, s3, eC⟩
     obtain ⟨d, ed, hd⟩ := q3.get hy
     rw [List.getElem?_map] at ed
     cases ep : t.parts[j]? with
     | none => rw [ep] at ed; cases ed
     | some pp =>
      rw [ep] at ed
      have ed' : partDt pp = d := Option.some.inj ed
      subst ed'
      obtain ⟨qa, rfl, hqa⟩ := part_one hd
      refine ⟨_, rfl, qa, _, _, _, rfl, rfl, s3.seqT hqa, atI_nat (j := 0) (v := .str pp.1) rfl, _, eC, ?_, _, rfl, s3.kbn hC KB.write, ?_⟩
      ·rw [List.length_map, List.length_map, List.length_take]
       exact Nat.lt_of_le_of_lt (show min j t.parts.length ≤ 3 by have := to.1; omega) (by decide)
      ·rw [upd_same, take_snoc ep, List.map_append, List.map_append]; rfl
    rintro σ H3 ⟨v, rfl, s3, eC⟩
    have ly : ys.length = t.parts.length := by rw [q3.length, List.length_map]
    rw [ly, List.take_length] at eC
    have eN3 := s3 _ _ eN
    have hl1 := flat_small (ts := f.terms.take i) fun u hu => over_terms ov u (List.mem_of_mem_take hu)
    have hl2 : (f.terms.take i).length ≤ 2 := by rw [List.length_take]; have := terms_small f; omega
    refine ⟨N, C, _, _, rfl, rfl, eN3, eC, ?_, _, rfl, (k2.trans s3.kb).trans KB.write, ?_⟩
    ·rw [List.length_map, List.length_map, List.length_map]
     exact Nat.le_trans (show _ ≤ 20 by have := to.1; omega) (by decide)
    ·rw [upd_same, take_snoc ht, List.flatMap_append, List.map_append]
     simp [tnm]
  ·rintro σ H2 ⟨v2, rfl, k2, eN⟩
   rw [List.length_map, tspots_len, List.take_length] at eN
   exact ⟨_, rfl, k N H2 hN (s1.kbn hN k2) eN⟩
def Say.post : Say → List Nat → List (List Nat × Say)
 | .no f, ns => f.post (ns ++ [0]) ++ [(ns, .no f)]
 | .and f g, ns => (f.post (ns ++ [0]) ++ g.post (ns ++ [1])) ++ [(ns, .and f g)]
 | .or f g, ns => (f.post (ns ++ [0]) ++ g.post (ns ++ [1])) ++ [(ns, .or f g)]
 | .some n f, ns => f.post (ns ++ [0]) ++ [(ns, .some n f)]
 | .each n f, ns => f.post (ns ++ [0]) ++ [(ns, .each n f)]
 | .same t u, ns => [(ns, .same t u)]
 | .less t u, ns => [(ns, .less t u)]
 | .sign a t s, ns => [(ns, .sign a t s)]
 | .alike a t b u, ns => [(ns, .alike a t b u)]
theorem post_shift : ∀ (f : Say) (ns ms : List Nat), f.post (ns ++ ms) = (f.post ms).map fun e => (ns ++ e.1, e.2)
 | .no f, ns, ms => by simp only [Say.post, List.map_append, List.append_assoc, post_shift f]; rfl
 | .and f g, ns, ms => by simp only [Say.post, List.map_append, List.append_assoc, post_shift f, post_shift g]; rfl
 | .or f g, ns, ms => by simp only [Say.post, List.map_append, List.append_assoc, post_shift f, post_shift g]; rfl
 | .some n f, ns, ms => by simp only [Say.post, List.map_append, List.append_assoc, post_shift f]; rfl
 | .each n f, ns, ms => by simp only [Say.post, List.map_append, List.append_assoc, post_shift f]; rfl
 | .same t u, ns, ms => rfl
 | .less t u, ns, ms => rfl
 | .sign a t s, ns, ms => rfl
 | .alike a t b u, ns, ms => rfl
def Say.rowsOf : Say → List Str
 | .sign a _ _ => [a] | .alike a _ b _ => [a, b] | _ => []
def Say.fr : Say → List Str
 | .same t u => tnm t ++ tnm u
 | .less t u => tnm t ++ tnm u
 | .sign _ t _ => tnm t
 | .alike _ t _ u => tnm t ++ tnm u
 | .no f => f.fr
 | .and f g => f.fr ++ g.fr
 | .or f g => f.fr ++ g.fr
 | .some n f => f.fr.filter fun y => decide (y ≠ n)
 | .each n f => f.fr.filter fun y => decide (y ≠ n)
theorem mem_fr (y : Str) : ∀ f : Say, y ∈ f.fr ↔ f.Free y
 | .same t u => by simp [Say.fr, Say.Free]
 | .less t u => by simp [Say.fr, Say.Free]
 | .sign _ t _ => by simp [Say.fr, Say.Free]
 | .alike _ t _ u => by simp [Say.fr, Say.Free]
 | .no f => by simp only [Say.fr, Say.Free]; exact mem_fr y f
 | .and f g => by simp only [Say.fr, Say.Free, List.mem_append, mem_fr y f, mem_fr y g]
 | .or f g => by simp only [Say.fr, Say.Free, List.mem_append, mem_fr y f, mem_fr y g]
 | .some n f => by simp only [Say.fr, Say.Free, List.mem_filter, mem_fr y f, decide_eq_true_eq]
 | .each n f => by simp only [Say.fr, Say.Free, List.mem_filter, mem_fr y f, decide_eq_true_eq]
def dd : List Str → List Str
 | [] => []
 | x :: l => if x ∈ dd l then dd l else x :: dd l
theorem mem_dd (y : Str) : ∀ l : List Str, y ∈ dd l ↔ y ∈ l
 | [] => by simp [dd]
 | x :: l => by
  unfold dd
  by_cases h : x ∈ dd l
  ·rw [if_pos h, List.mem_cons, mem_dd y l]
   exact ⟨.inr, fun z => z.elim (fun e => by rw [e]; exact (mem_dd x l).mp h) id⟩
  ·rw [if_neg h, List.mem_cons, List.mem_cons, mem_dd y l]
theorem dd_nodup : ∀ l : List Str, (dd l).Nodup
 | [] => by simp [dd]
 | x :: l => by
  unfold dd
  by_cases h : x ∈ dd l
  ·rw [if_pos h]; exact dd_nodup l
  ·rw [if_neg h, List.nodup_cons]; exact ⟨h, dd_nodup l⟩
theorem once_len {ks : List Str} {f : Say} (h1 : ks.Nodup) (h2 : ∀ y, y ∈ ks ↔ f.Free y) : ks.length = (dd f.fr).length := by
 have a := nodup_len (ss := dd f.fr) h1 fun y hy => (mem_dd y _).mpr ((mem_fr y f).mpr ((h2 y).mp hy))
 have b := nodup_len (ss := ks) (dd_nodup f.fr) fun y hy => (h2 y).mpr ((mem_fr y f).mp ((mem_dd y _).mp hy))
 omega
def bad (R : List Str) (f : Say) : Bool := (f.rowsOf.any fun a => !decide (a ∈ R)) || decide (3 < (dd f.fr).length)
def firstAt (R : List Str) (f : Say) (ns : List Nat) : Option (List Nat) := ((f.post ns).find? fun e => bad R e.2).map (·.1)
theorem first_shift (R : List Str) (f : Say) (ns : List Nat) : firstAt R f ns = (firstAt R f []).map fun ms => ns ++ ms := by
 unfold firstAt
 have e := post_shift f ns []
 rw [List.append_nil] at e
 rw [e, List.find?_map, Option.map_map, Option.map_map]
 rfl
def natsV (ns : List Nat) : List V := ns.map fun (n : Nat) => V.int (n : Int)
def Say.at : Say → List Nat → Option Say
 | f, [] => Option.some f
 | f, n :: ns => (f.inner[n]?).bind fun g => g.at ns
theorem at_app : ∀ (ns : List Nat) (f g h : Say) (k : Nat), f.at ns = some g → g.inner[k]? = some h → f.at (ns ++ [k]) = some h
 | [], f, g, h, k, e, e2 => by
  have e' : f = g := Option.some.inj e
  subst e'
  show (f.inner[k]?).bind (fun g => g.at []) = some h
  rw [e2]; rfl
 | n :: ns, f, g, h, k, e, e2 => by
  have e' : (f.inner[n]?).bind (fun g => g.at ns) = some g := e
  obtain ⟨u, eu, ea⟩ := Option.bind_eq_some_iff.mp e'
  show (f.inner[n]?).bind (fun g => g.at (ns ++ [k])) = some h
  rw [eu]
  exact at_app ns u g h k ea e2
def Say.size : Say → Nat
 | .no f => f.size + 1 | .and f g => f.size + g.size + 1 | .or f g => f.size + g.size + 1 | .some _ f => f.size + 1 | .each _ f => f.size + 1 | _ => 1
theorem size_inner (f : Say) : (f.inner.map Say.size).sum + 1 = f.size := by cases f <;> simp [Say.inner, Say.size]
theorem size_deep : ∀ f : Say, f.size + 1 ≤ 2 ^ (f.deep + 1)
 | .same _ _ => by simp [Say.size, Say.deep]
 | .less _ _ => by simp [Say.size, Say.deep]
 | .sign _ _ _ => by simp [Say.size, Say.deep]
 | .alike _ _ _ _ => by simp [Say.size, Say.deep]
 | .no f => by
  have := size_deep f
  simp only [Say.size, Say.deep]
  rw [Nat.pow_succ]
  omega
 | .and f g => by
  have h1 := size_deep f
  have h2 := size_deep g
  have a1 := Nat.pow_le_pow_right (n := 2) (by decide) (show f.deep + 1 ≤ max f.deep g.deep + 1 by omega)
  have a2 := Nat.pow_le_pow_right (n := 2) (by decide) (show g.deep + 1 ≤ max f.deep g.deep + 1 by omega)
  simp only [Say.size, Say.deep]
  rw [Nat.pow_succ 2 (max f.deep g.deep + 1)]
  omega
 | .or f g => by
  have h1 := size_deep f
  have h2 := size_deep g
  have a1 := Nat.pow_le_pow_right (n := 2) (by decide) (show f.deep + 1 ≤ max f.deep g.deep + 1 by omega)
  have a2 := Nat.pow_le_pow_right (n := 2) (by decide) (show g.deep + 1 ≤ max f.deep g.deep + 1 by omega)
  simp only [Say.size, Say.deep]
  rw [Nat.pow_succ 2 (max f.deep g.deep + 1)]
  omega
 | .some n f => by
  have := size_deep f
  simp only [Say.size, Say.deep]
  rw [Nat.pow_succ]
  omega
 | .each n f => by
  have := size_deep f
  simp only [Say.size, Say.deep]
  rw [Nat.pow_succ]
  omega
abbrev Ent := List Nat × Say
def kids (ns : List Nat) : Nat → List Say → List Ent
 | _, [] => []
 | k, h :: t => (ns ++ [k], h) :: kids ns (k + 1) t
theorem kids_at (ns : List Nat) : ∀ (l : List Say) (k i : Nat), (kids ns k l)[i]? = (l[i]?).map fun h => (ns ++ [k + i], h)
 | [], k, i => by simp [kids]
 | h :: t, k, 0 => rfl
 | h :: t, k, i + 1 => by
  rw [kids, List.getElem?_cons_succ, List.getElem?_cons_succ, kids_at ns t (k + 1) i, show k + 1 + i = k + (i + 1) by omega]
theorem kids_len (ns : List Nat) : ∀ (l : List Say) (k : Nat), (kids ns k l).length = l.length
 | [], _ => rfl
 | h :: t, k => by rw [kids, List.length_cons, kids_len ns t, List.length_cons]
theorem kids_sum (ns : List Nat) : ∀ (l : List Say) (k : Nat), ((kids ns k l).map fun e => e.2.size).sum = (l.map Say.size).sum
 | [], _ => rfl
 | h :: t, k => by rw [kids, List.map_cons, List.map_cons, List.sum_cons, List.sum_cons, kids_sum ns t]
def PrAt (K : PySem.W.Frag) (H : Hp) (q : Addr) (e : Ent) : Prop := ∃ pl y, H q = some (.tup [.ref pl, y]) ∧ H pl = some (.tup (natsV e.1)) ∧ DatAt K H y e.2.dt
theorem PrAt.keep {K : PySem.W.Frag} {H H' : Hp} {q : Addr} {e : Ent} (h : PrAt K H q e) (k : KTu H H') (ks : KTs K H H') : PrAt K H' q e := by
 obtain ⟨pl, y, h1, h2, h3⟩ := h
 exact ⟨pl, y, k _ _ h1, k _ _ h2, dat_stay ks _ _ e.2.noL h3⟩
abbrev PrsAt (K : PySem.W.Frag) (H : Hp) : List Addr → List Ent → Prop := Paired (PrAt K H)
theorem PrsAt.keep {K : PySem.W.Frag} {H H' : Hp} (k : KTu H H') (ks : KTs K H H') : ∀ {qs : List Addr} {es : List Ent}, PrsAt K H qs es → PrsAt K H' qs es
 | _, _, .nil => .nil
 | _, _, .cons h t => .cons (h.keep k ks) (PrsAt.keep k ks t)
theorem prs_app {K : PySem.W.Frag} {H : Hp} {qs rs : List Addr} {es ds : List Ent} (a : PrsAt K H qs es) (b : PrsAt K H rs ds) : PrsAt K H (qs ++ rs) (es ++ ds) := paired_append a b
theorem prs_get {K : PySem.W.Frag} {H : Hp} : ∀ {qs : List Addr} {es : List Ent} {i : Nat} {q : Addr}, PrsAt K H qs es → qs[i]? = some q → ∃ e, es[i]? = some e ∧ PrAt K H q e
 | _, _, _, _, .nil, h => by simp at h
 | _, _, 0, _, .cons a _, h => by simp at h; subst h; exact ⟨_, rfl, a⟩
 | _, _, i + 1, _, .cons _ t, h => by
  simp only [List.getElem?_cons_succ] at h ⊢
  exact prs_get t h
theorem prs_snoc {K : PySem.W.Frag} {H : Hp} : ∀ {qs : List Addr} {es : List Ent}, PrsAt K H qs es → qs ≠ [] → ∃ qs' q es' e, qs = qs' ++ [q] ∧ es = es' ++ [e] ∧ PrsAt K H qs' es' ∧ PrAt K H q e
 | _, _, .nil, h => absurd rfl h
 | [q], [e], .cons a .nil, _ => ⟨[], q, [], e, rfl, rfl, .nil, a⟩
 | q :: q2 :: qs, e :: e2 :: es, .cons a (.cons b t), _ => by
  obtain ⟨qs', r, es', d, e1, e3, h1, h2⟩ := prs_snoc (.cons b t) (by simp)
  exact ⟨q :: qs', r, e :: es', d, by rw [e1]; rfl, by rw [e3]; rfl, .cons a h1, h2⟩
structure Ord (f : Say) (we fe : List Ent) : Prop where
 here : ∀ e, e ∈ we ∨ e ∈ fe → f.at e.1 = some e.2
 kid : ∀ (i : Nat) (ns : List Nat) (g : Say), fe[i]? = some (ns, g) → ∀ k h, g.inner[k]? = some h → (ns ++ [k], h) ∈ we ∨ ∃ j, i < j ∧ fe[j]? = some (ns ++ [k], h)
 root : ([], f) ∈ we ∨ ([], f) ∈ fe
 ex : f.post [] = (we.flatMap fun e => e.2.post e.1) ++ fe.reverse
theorem post_kids (ns : List Nat) (g : Say) : g.post ns = ((kids ns 0 g.inner).flatMap fun e => e.2.post e.1) ++ [(ns, g)] := by
 cases g <;> simp [Say.post, Say.inner, kids]
theorem Ord.step {f : Say} {we fe : List Ent} {ns : List Nat} {g : Say} (o : Ord f (we ++ [(ns, g)]) fe) : Ord f (we ++ kids ns 0 g.inner) (fe ++ [(ns, g)]) where
 here := fun e he => by
  have hg : f.at ns = some g := o.here (ns, g) (.inl (by simp))
  rcases he with he | he
  ·rcases List.mem_append.mp he with he | he
   ·exact o.here e (.inl (List.mem_append.mpr (.inl he)))
   ·obtain ⟨i, hi⟩ := List.getElem?_of_mem he
    rw [kids_at] at hi
    cases eh : g.inner[i]? with
    | none => rw [eh] at hi; cases hi
    | some h =>
     rw [eh] at hi
     have hi' : (ns ++ [0 + i], h) = e := Option.some.inj hi
     rw [← hi', Nat.zero_add]
     exact at_app ns f g h i hg eh
  ·rcases List.mem_append.mp he with he | he
   ·exact o.here e (.inr he)
   ·rw [List.mem_singleton.mp he]; exact hg
 kid := fun i ms u hi k h hk => by
  by_cases lt : i < fe.length
  ·rw [List.getElem?_append_left lt] at hi
   rcases o.kid i ms u hi k h hk with z | ⟨j, hj, z⟩
   ·rcases List.mem_append.mp z with z | z
    ·exact .inl (List.mem_append.mpr (.inl z))
    ·refine .inr ⟨fe.length, lt, ?_⟩
     rw [List.getElem?_append_right (Nat.le_refl _), Nat.sub_self, List.mem_singleton.mp z]; rfl
   ·have hj2 := (List.getElem?_eq_some_iff.mp z).1
    exact .inr ⟨j, hj, by rw [List.getElem?_append_left hj2]; exact z⟩
  ·have hl := (List.getElem?_eq_some_iff.mp hi).1
   rw [List.length_append] at hl
   have hl' : i < fe.length + 1 := hl
   have e : i = fe.length := by omega
   subst e
   rw [List.getElem?_append_right (Nat.le_refl _), Nat.sub_self] at hi
   have hi' : (ns, g) = (ms, u) := Option.some.inj hi
   cases hi'
   refine .inl (List.mem_append.mpr (.inr (List.mem_of_getElem? (i := k) ?_)))
   rw [kids_at, hk, Nat.zero_add]; rfl
 root := by
  rcases o.root with z | z
  ·rcases List.mem_append.mp z with z | z
   ·exact .inl (List.mem_append.mpr (.inl z))
   ·exact .inr (List.mem_append.mpr (.inr z))
  ·exact .inr (List.mem_append.mpr (.inl z))
 ex := by
  rw [o.ex, List.flatMap_append, List.flatMap_append, List.reverse_append]
  simp only [List.flatMap_cons, List.flatMap_nil, List.append_nil]
  rw [post_kids ns g]
  simp
structure Late (f : Say) (es : List Ent) : Prop where
 here : ∀ e ∈ es, f.at e.1 = some e.2
 kid : ∀ (i : Nat) (ns : List Nat) (g : Say), es[i]? = some (ns, g) → ∀ k h, g.inner[k]? = some h → ∃ j, j < i ∧ es[j]? = some (ns ++ [k], h)
 root : ([], f) ∈ es
 ex : es = f.post []
theorem Ord.late {f : Say} {fe : List Ent} (o : Ord f [] fe) : Late f fe.reverse where
 here := fun e he => o.here e (.inr (List.mem_reverse.mp he))
 kid := fun i ns g hi k h hk => by
  have lt : i < fe.length := by have := (List.getElem?_eq_some_iff.mp hi).1; rwa [List.length_reverse] at this
  rw [List.getElem?_reverse lt] at hi
  rcases o.kid _ ns g hi k h hk with z | ⟨j, hj, z⟩
  ·cases z
  ·have hj2 := (List.getElem?_eq_some_iff.mp z).1
   refine ⟨fe.length - 1 - j, by omega, ?_⟩
   rw [List.getElem?_reverse (by omega), show fe.length - 1 - (fe.length - 1 - j) = j by omega]
   exact z
 root := by
  rcases o.root with z | z
  ·cases z
  ·exact List.mem_reverse.mpr z
 ex := by rw [o.ex]; rfl
theorem len_sum : ∀ we : List Ent, we.length ≤ (we.map fun e => e.2.size).sum
 | [] => Nat.le_refl _
 | e :: we => by
  have h1 := len_sum we
  have h2 := size_inner e.2
  rw [List.map_cons, List.sum_cons, List.length_cons]
  omega
theorem at_deep : ∀ (ns : List Nat) (f g : Say), f.at ns = some g → ns.length + g.deep ≤ f.deep
 | [], f, g, e => by
  have e' : f = g := Option.some.inj e
  subst e'
  simp
 | n :: ns, f, g, e => by
  have e' : (f.inner[n]?).bind (fun g => g.at ns) = some g := e
  obtain ⟨u, eu, ea⟩ := Option.bind_eq_some_iff.mp e'
  have h1 := at_deep ns u g ea
  have h2 := inner_deep f u (List.mem_of_getElem? eu)
  rw [List.length_cons]
  omega
theorem ns_small {f g : Say} {ns : List Nat} (h : f.deep ≤ 15) (e : f.at ns = some g) : ns.length ≤ 15 := by
 have := at_deep ns f g e
 omega
theorem prs_rev {K : PySem.W.Frag} {H : Hp} : ∀ {qs : List Addr} {es : List Ent}, PrsAt K H qs es → PrsAt K H qs.reverse es.reverse
 | _, _, .nil => .nil
 | _, _, .cons a t => by
  rw [List.reverse_cons, List.reverse_cons]
  exact prs_app (prs_rev t) (.cons a .nil)
def spOrder (K : PySem.W.Frag) : Sp := fun vs H Q _ => ∃ (x : V) (f : Say), vs = [x] ∧ DatAt K H x f.dt ∧ f.deep ≤ 15 ∧
 ∀ (D : Addr) (qs : List Addr) (es : List Ent) (H' : Hp), H D = none → Same H H' → H' D = some (.lst (qs.map V.ref)) → PrsAt K H' qs es → Late f es → es.length ≤ 100000 → Q (.ref D) H'
theorem refItem {rs : List Addr} {i : Nat} {x : V} (h : (rs.map V.ref)[i]? = some x) : ∃ r, x = .ref r ∧ rs[i]? = some r := by
 rw [List.getElem?_map] at h
 cases e : rs[i]? with
 | none => rw [e] at h; cases h
 | some r => rw [e] at h; exact ⟨r, (Option.some.inj h).symm, rfl⟩
theorem sc_parts_in_order : FnScope ["saying", "waiting", "found", "pair", "number", "part"] ["saying"] (defScope s_parts_in_order) := ⟨rfl, rfl, rfl, by decide +kernel, rfl, by decide +kernel, by decide +kernel⟩
theorem ok_parts_in_order {a : Adr} {b : PAdr} (T : Txt K mg a) (U : TopsP K w.params mg b) : FnOk P w K mg base CX0 2 a.f_parts_in_order a.fd_parts_in_order ["saying"] (spOrder K) := by
 have G_inner_parts : FnOk P w K mg base CX0 1 a.f_inner_parts a.fd_inner_parts ["saying"] (spInner K) := ok_inner_parts T U
 refine T.F_parts_in_order.ok sc_parts_in_order (fun vs H Q E h => ?_) (fun cdv A outer s H vs Q E hr h => ?_)
 ·obtain ⟨x, f, rfl, _⟩ := h
  rfl
 ·obtain ⟨x, f, rfl, hf, hdp, k⟩ := h
  have hr_inner_parts : Room 1 _ := hr
  refine ⟨_, (pss_cons (ps_set (i := 1) sc_parts_in_order.nd rfl (Or.inl rfl) (pe_lst (pa_cons (pe_tup (pa_cons (pe_tup pa_nil) (pa_cons (pv 0) pa_nil))) pa_nil)))
  (pss_cons (ps_set (i := 2) sc_parts_in_order.nd rfl (Or.inl rfl) (pe_lst pa_nil))
  (pss_cons (ps_while PassesOwn.never (pt_truth (pv 1) (fun _ => rfl))
   (pss_cons (ps_set (i := 3) sc_parts_in_order.nd rfl (Or.inl rfl) (pe_bm0 PySem.F.plainAttrs_list PySem.F.slot_list_pop PySem.F.type_list_pop mt_pop (pv 1)))
   (pss_cons (ps_expr (pe_bm PySem.F.plainAttrs_list PySem.F.slot_list_append PySem.F.type_list_append mt_append (pv 2) (pa_cons (pv 3) pa_nil)))
   (pss_one (ps_for PassesOwn.never rfl (pi_enum rfl T.z_enumerate (pa_cons (pe_call G_inner_parts hr_inner_parts rfl T.m_inner_parts T.k_inner_parts T.b_inner_parts .nil pass0 (pa_cons (pe_ix (ix_tupK K) (pv 3) pe_int (fun _ _ => rfl)) pa_nil)) pa_nil)) (pg_tup rfl (pgs_cons (pg_name (i := 4) sc_parts_in_order.nd rfl (Or.inl rfl)) (pgs_cons (pg_name (i := 5) sc_parts_in_order.nd rfl (Or.inl rfl)) pgs_nil)))
    (pss_one (ps_expr (pe_bm PySem.F.plainAttrs_list PySem.F.slot_list_append PySem.F.type_list_append mt_append (pv 1) (pa_cons (pe_tup (pa_cons (pe_op (op_catNK K) (pe_ix (ix_tupK K) (pv 3) pe_int (fun _ _ => rfl)) (pe_tup (pa_cons (pv 4) pa_nil))) (pa_cons (pv 5) pa_nil))) pa_nil)))))))))
  (pss_one (ps_ret (pe_listrev K rfl rfl T.z_list rfl T.z_reversed (pa_cons (pv 2) pa_nil))))))), ?_⟩
  have fsz : f.size ≤ 70000 := by
   have h1 := size_deep f
   have h2 := Nat.pow_le_pow_right (n := 2) (by decide) (show f.deep + 1 ≤ 16 by omega)
   have h3 : (2 : Nat) ^ 16 = 65536 := by decide
   omega
  refine ⟨by decide, fun e0 he0 => ⟨_, rfl, by show 2 ≤ sizeLine; decide, fun q0 hq0 => ⟨by show 1 ≤ sizeLine; decide, fun Wt hWt => ?_⟩⟩⟩
  have s0 := Same.new (o := .tup []) he0
  have s1 := Same.new (o := .tup [.ref e0, x]) hq0
  have s2 := Same.new (o := .lst [.ref q0]) hWt
  refine ⟨by decide, fun Fo hFo => ?_⟩
  have s3 := Same.new (o := .lst []) hFo
  have eW := s3 _ _ (upd_same (H := upd (upd H e0 (.tup [])) q0 (.tup [.ref e0, x])) (a := Wt) (o := .lst [.ref q0]))
  have eF : (upd (upd (upd (upd H e0 (.tup [])) q0 (.tup [.ref e0, x])) Wt (.lst [.ref q0])) Fo (.lst [])) Fo = some (.lst []) := upd_same
  have pr : PrAt K (upd (upd (upd (upd H e0 (.tup [])) q0 (.tup [.ref e0, x])) Wt (.lst [.ref q0])) Fo (.lst [])) q0 ([], f) :=
   ⟨e0, x, s3 _ _ (s2 _ _ upd_same), s3 _ _ (s2 _ _ (s1 _ _ upd_same)), dat_stay (((s0.trans s1).trans s2).trans s3).kts _ _ f.noL hf⟩
  have sA := ((s0.trans s1).trans s2).trans s3
  have nWF : Wt ≠ Fo := ne_of_none upd_same hFo
  have hW0 : H Wt = none := (s0.trans s1).free hWt
  have hF0 : H Fo = none := ((s0.trans s1).trans s2).free hFo
  generalize upd (upd (upd (upd H e0 (.tup [])) q0 (.tup [.ref e0, x])) Wt (.lst [.ref q0])) Fo (.lst []) = H1 at eW eF pr sA ⊢
  refine ⟨fun m σ H' => ∃ (ws fs : List Addr) (we fe : List Ent) (v3 v4 v5 : Option V), σ = [some x, some (.ref Wt), some (.ref Fo), v3, v4, v5] ∧ Same H H' ∧ H' Wt = some (.lst (ws.map V.ref)) ∧ H' Fo = some (.lst (fs.map V.ref)) ∧ PrsAt K H' ws we ∧ PrsAt K H' fs fe ∧ Ord f we fe ∧
    m = (we.map fun e => e.2.size).sum ∧ fe.length + (we.map fun e => e.2.size).sum ≤ 70000,
   ⟨_, [q0], [], [([], f)], [], none, none, none, rfl, sA, eW, eF, .cons pr .nil, .nil, ⟨fun e he => ?_, fun i ns g z => by simp at z, .inl (by simp), by simp⟩, rfl, by simpa using fsz⟩, ?_⟩
  ·have e' : e = ([], f) := by simpa using he
   rw [e']; rfl
  rintro m σ H2 ⟨ws, fs, we, fe, v3, v4, v5, rfl, s2', eW2, eF2, pw, pf, od, rfl, hsz⟩
  refine ⟨_, rfl, !(ws.map V.ref).isEmpty, .inl ⟨_, .of eW2, rfl⟩, ?_⟩
  refine ite2 (fun hne => ?_) (fun hem => ?_)
  ·have wne : ws ≠ [] := fun z => by subst z; simp at hne
   obtain ⟨ws', q, we', ⟨ns, g⟩, rfl, rfl, pw', pq⟩ := prs_snoc pw wne
   refine ⟨fun σ' H' => ∃ (ws fs : List Addr) (we fe : List Ent) (v3 v4 v5 : Option V), σ' = [some x, some (.ref Wt), some (.ref Fo), v3, v4, v5] ∧ Same H H' ∧ H' Wt = some (.lst (ws.map V.ref)) ∧ H' Fo = some (.lst (fs.map V.ref)) ∧ PrsAt K H' ws we ∧ PrsAt K H' fs fe ∧ Ord f we fe ∧
     (we.map fun e => e.2.size).sum < ((we' ++ [(ns, g)]).map fun e => e.2.size).sum ∧ fe.length + (we.map fun e => e.2.size).sum ≤ 70000,
    fun σ' H' ⟨ws, fs, we, fe, v3, v4, v5, a1, a2, a3, a4, a5, a6, a7, a8, a9⟩ => ⟨_, a8, ws, fs, we, fe, v3, v4, v5, a1, a2, a3, a4, a5, a6, a7, rfl, a9⟩, ?_⟩
   refine ⟨_, rfl, .inl ⟨rfl, _, .of eW2⟩, Wt, _, .ref q, rfl, rfl, eW2, by simp, ?_⟩
   have dl : ((ws' ++ [q]).map V.ref).dropLast = ws'.map V.ref := by rw [List.map_append]; simp
   rw [dl]
   have kW := KB.write (d := Wt) (H := H2) (o := .lst (ws'.map V.ref))
   have ktW := KTu.lst (o := .lst (ws'.map V.ref)) eW2
   have ksW := KB.kts (K := K) eW2 kW
   have eW3 : (upd H2 Wt (.lst (ws'.map V.ref))) Wt = some (.lst (ws'.map V.ref)) := upd_same
   have eF3 := kW _ _ eF2 nWF.symm
   have pw3 := PrsAt.keep ktW ksW pw'
   have pf3 := PrsAt.keep ktW ksW pf
   have pq3 := pq.keep ktW ksW
   have sH3 := s2'.kbn hW0 kW
   generalize upd H2 Wt (.lst (ws'.map V.ref)) = H3 at eW3 eF3 pw3 pf3 pq3 sH3 ⊢
   have lfe : fs.length = fe.length := Paired.length pf
   refine ⟨_, rfl, .inl ⟨rfl, _, .of eF3⟩, _, rfl, Fo, _, _, rfl, rfl, eF3, ?_, ?_⟩
   ·rw [List.length_map]; exact Nat.lt_of_le_of_lt (show fs.length ≤ 70000 by omega) (by decide)
   have kF := KB.write (d := Fo) (H := H3) (o := .lst (fs.map V.ref ++ [.ref q]))
   have ktF := KTu.lst (o := .lst (fs.map V.ref ++ [.ref q])) eF3
   have ksF := KB.kts (K := K) eF3 kF
   have eF4 : (upd H3 Fo (.lst (fs.map V.ref ++ [.ref q]))) Fo = some (.lst ((fs ++ [q]).map V.ref)) := by rw [upd_same, List.map_append]; rfl
   have eW4 := kF _ _ eW3 nWF
   have pw4 := PrsAt.keep ktF ksF pw3
   have pf4 := PrsAt.keep ktF ksF pf3
   have pq4 := pq3.keep ktF ksF
   have sH4 := sH3.kbn hF0 kF
   generalize upd H3 Fo (.lst (fs.map V.ref ++ [.ref q])) = H4 at eF4 eW4 pw4 pf4 pq4 sH4 ⊢
   obtain ⟨pl, y, eq, epl, dy⟩ := id pq4
   refine ⟨_, rfl, q, _, _, _, rfl, rfl, .of eq, atI_nat (j := 1) (v := y) rfl, y, g, rfl, dy, fun D xs H5 hD s5 eD dts => ?_⟩
   have eW5 := s5 _ _ eW4
   have nDW : D ≠ Wt := (ne_of_none eW4 hD).symm
   have lx : xs.length = g.inner.length := by rw [dts.length, List.length_map]
   have gin := inner_small g
   refine ⟨D, rfl, ⟨_, .of eD⟩, for_enum (xs := xs) (fun i σ H' => ∃ (rs : List Addr) (v4 v5 : Option V), σ = [some x, some (.ref Wt), some (.ref Fo), some (.ref q), v4, v5] ∧ KB Wt H5 H' ∧ H' Wt = some (.lst ((ws' ++ rs).map V.ref)) ∧ PrsAt K H' rs ((kids ns 0 g.inner).take i))
    ⟨[], _, _, rfl, KB.refl _ _, by rw [List.append_nil]; exact eW5, .nil⟩ (fun i σ H' _ ⟨_, _, _, _, h, _⟩ => .of (h _ _ eD nDW)) ?_ ?_⟩
   ·rintro i z pp σ H6 hz ⟨rs, v4, v5, rfl, k6, eW6, pr6⟩ hpp
    have sp := Same.new (o := .tup [.int i, z]) hpp
    refine ⟨pp, _, rfl, .of upd_same, rfl, _, _, rfl, _, _, rfl, rfl, ?_⟩
    obtain ⟨dz, edz, hdz⟩ := dts.get hz
    rw [List.getElem?_map] at edz
    cases eh : g.inner[i]? with
    | none => rw [eh] at edz; cases edz
    | some h =>
     rw [eh] at edz
     have edz' : h.dt = dz := Option.some.inj edz
     subst edz'
     have kt6 : KTu H5 H6 := KTu.kb eW5 k6
     have ks6 : KTs K H5 H6 := KB.kts eW5 k6
     have epl6 : H6 pl = some (.tup (natsV ns)) := kt6 _ _ (s5 _ _ epl)
     have eq6 : H6 q = some (.tup [.ref pl, y]) := kt6 _ _ (s5 _ _ eq)
     have eW7 := sp _ _ eW6
     have hdz7 := dat_stay (ks6.trans sp.kts) _ _ h.noL hdz
     have pr7 := PrsAt.keep sp.kt sp.kts pr6
     have epl7 := sp _ _ epl6
     have eq7 := sp _ _ eq6
     have k7 : KB Wt H5 (upd H6 pp (.tup [.int i, z])) := k6.trans sp.kb
     generalize upd H6 pp (.tup [.int i, z]) = H7 at eW7 hdz7 pr7 epl7 eq7 k7 ⊢
     refine ⟨_, rfl, .inl ⟨rfl, _, .of eW7⟩, _, rfl, q, _, _, _, rfl, rfl, .of eq7, atI_nat (j := 0) (v := .ref pl) rfl, _, rfl, by show 1 ≤ sizeLine; decide, fun oo hoo => ?_⟩
     have so := Same.new (o := .tup [.int (i : Int)]) hoo
     have eoo : (upd H7 oo (.tup [.int (i : Int)])) oo = some (.tup [.int (i : Int)]) := upd_same
     have done : ∀ (pn : Addr) (H8 : Hp), Same H7 H8 → H8 pn = some (.tup (natsV (ns ++ [i]))) → ∀ pr2, H8 pr2 = none →
       H8 Wt = some (.lst ((ws' ++ rs).map V.ref)) ∧ (∃ (rs' : List Addr) (v4 v5 : Option V), [some x, some (.ref Wt), some (.ref Fo), some (.ref q), some (.int (i : Int)), some z] = [some x, some (.ref Wt), some (.ref Fo), some (.ref q), v4, v5] ∧
        KB Wt H5 (upd (upd H8 pr2 (.tup [.ref pn, z])) Wt (.lst ((ws' ++ rs).map V.ref ++ [.ref pr2]))) ∧ (upd (upd H8 pr2 (.tup [.ref pn, z])) Wt (.lst ((ws' ++ rs).map V.ref ++ [.ref pr2]))) Wt = some (.lst ((ws' ++ rs').map V.ref)) ∧
        PrsAt K (upd (upd H8 pr2 (.tup [.ref pn, z])) Wt (.lst ((ws' ++ rs).map V.ref ++ [.ref pr2]))) rs' ((kids ns 0 g.inner).take (i + 1))) := fun pn H8 s8 epn pr2 hpr2 => by
      have eW8 := s8 _ _ eW7
      have s9 := Same.new (o := .tup [.ref pn, z]) hpr2
      have eW9 := s9 _ _ eW8
      have kt9 := KTu.lst (o := .lst ((ws' ++ rs).map V.ref ++ [.ref pr2])) eW9
      have ks9 : KTs K (upd H8 pr2 (.tup [.ref pn, z])) (upd (upd H8 pr2 (.tup [.ref pn, z])) Wt (.lst ((ws' ++ rs).map V.ref ++ [.ref pr2]))) := KB.kts eW9 KB.write
      refine ⟨eW8, rs ++ [pr2], _, _, rfl, ((k7.trans s8.kb).trans s9.kb).trans KB.write, ?_, ?_⟩
      ·rw [upd_same]; simp
      ·have ek : (kids ns 0 g.inner).take (i + 1) = (kids ns 0 g.inner).take i ++ [(ns ++ [i], h)] := take_snoc (by rw [kids_at, eh, Nat.zero_add]; rfl)
       rw [ek]
       refine prs_app (PrsAt.keep ((s8.kt.trans s9.kt).trans kt9) ((s8.kts.trans s9.kts).trans ks9) pr7) (.cons ⟨pn, z, kt9 _ _ upd_same, kt9 _ _ (s9 _ _ epn), dat_stay ((s8.kts.trans s9.kts).trans ks9) _ _ h.noL hdz7⟩ .nil)
     have lr : rs.length ≤ 2 := by rw [Paired.length pr7, List.length_take, kids_len]; omega
     have lw : ((ws' ++ rs).map V.ref).length < sizeLine := by
      rw [List.length_map, List.length_append]
      have lw' : ws'.length = we'.length := Paired.length pw'
      have : we'.length ≤ (we'.map fun e => e.2.size).sum := len_sum we'
      rw [List.map_append, List.sum_append] at hsz
      exact Nat.lt_of_le_of_lt (show _ ≤ 80000 by omega) (by decide)
     refine ⟨pl, oo, natsV ns, [.int (i : Int)], rfl, rfl, .of (so _ _ epl7), .of eoo, by simp, ?_, fun hn => ?_, fun hn pn hpn => ?_⟩
     ·have : ns.length ≤ 15 := ns_small hdp (od.here (ns, g) (.inl (by simp)))
      show (natsV ns).length + 1 ≤ sizeLine
      rw [natsV, List.length_map]
      exact Nat.le_trans (show _ ≤ 100 by omega) (by decide)
     ·have hn' : ns = [] := by cases ns with | nil => rfl | cons _ _ => cases hn
      subst hn'
      refine ⟨_, rfl, by show 2 ≤ sizeLine; decide, fun pr2 hpr2 => ?_⟩
      obtain ⟨d1, d2⟩ := done oo _ so eoo pr2 hpr2
      exact ⟨Wt, _, _, rfl, rfl, (Same.new hpr2) _ _ d1, lw, d2⟩
     ·have spn := Same.new (o := .tup (natsV ns ++ [.int (i : Int)])) hpn
      refine ⟨_, rfl, by show 2 ≤ sizeLine; decide, fun pr2 hpr2 => ?_⟩
      obtain ⟨d1, d2⟩ := done pn _ (so.trans spn) (by rw [upd_same, natsV, natsV, List.map_append]; rfl) pr2 hpr2
      exact ⟨Wt, _, _, rfl, rfl, (Same.new hpr2) _ _ d1, lw, d2⟩
   ·rintro σ H6 ⟨rs, v4, v5, rfl, k6, eW6, pr6⟩
    rw [lx, List.take_of_length_le (by rw [kids_len]; exact Nat.le_refl _)] at pr6
    have kt6 : KTu H4 H6 := s5.kt.trans (KTu.kb eW5 k6)
    have ks6 : KTs K H4 H6 := s5.kts.trans (KB.kts eW5 k6)
    have nFW := nWF.symm
    have sz := kids_sum ns g.inner 0
    have sg := size_inner g
    refine ⟨ws' ++ rs, fs ++ [q], we' ++ kids ns 0 g.inner, fe ++ [(ns, g)], _, _, _, rfl, (sH4.trans s5).kbn hW0 k6, eW6, k6 _ _ (s5 _ _ eF4) nFW, prs_app (PrsAt.keep kt6 ks6 pw4) pr6, prs_app (PrsAt.keep kt6 ks6 pf4) (.cons (pq4.keep kt6 ks6) .nil), od.step, ?_, ?_⟩
    ·rw [List.map_append, List.map_append, List.sum_append, List.sum_append, sz]
     show _ < _ + (g.size + 0)
     omega
    ·rw [List.map_append, List.sum_append, sz, List.length_append]
     rw [List.map_append, List.sum_append] at hsz
     have hsz' : fe.length + ((we'.map fun e => e.2.size).sum + (g.size + 0)) ≤ 70000 := hsz
     show fe.length + 1 + _ ≤ 70000
     omega
  ·have wem : ws = [] := by
    cases ws with
    | nil => rfl
    | cons q qs => exact absurd rfl hem
   subst wem
   have wee : we = [] := by cases pw; rfl
   subst wee
   refine ⟨_, rfl, Fo, _, rfl, .of eF2, fun l hl => ?_⟩
   have sl := Same.new (o := .lst (fs.map V.ref).reverse) hl
   refine k l fs.reverse fe.reverse _ (s2'.free hl) (s2'.trans sl) (by rw [upd_same, List.map_reverse]) ?_ od.late (by rw [List.length_reverse]; omega)
   exact prs_rev (PrsAt.keep sl.kt sl.kts pf)
theorem KB.ktsD {K : PySem.W.Frag} {d : Addr} {kvs : List (List Key × V)} {H H' : Hp} (h : H d = some (.dT kvs)) (k : KB d H H') : KTs K H H' := fun a ys e => by
 rcases e with (e | ⟨o, e⟩) | e
 ·exact .inl (.inl (k _ _ e (ne_of e h (fun z => nomatch z))))
 ·exact .inl (.inr ⟨o, k _ _ e (ne_of e h (fun z => nomatch z))⟩)
 ·exact .inr e
theorem KTu.dT {d : Addr} {kvs : List (List Key × V)} {H H' : Hp} (h : H d = some (.dT kvs)) (k : KB d H H') : KTu H H' := fun b ys e => k b _ e (ne_of e h (fun z => nomatch z))
def TupsS (H : Hp) : List Addr → List (List Str) → Prop := Paired fun r ks => H r = some (.tup (ks.map V.str))
theorem TupsS.keep {H H' : Hp} (k : KTu H H') : ∀ {rs : List Addr} {kss : List (List Str)}, TupsS H rs kss → TupsS H' rs kss
 | _, _, .nil => .nil
 | _, _, .cons a t => .cons (k _ _ a) (TupsS.keep k t)
theorem TupsS.get {H : Hp} : ∀ {rs : List Addr} {kss : List (List Str)} {i : Nat} {r : Addr}, TupsS H rs kss → rs[i]? = some r → ∃ ks, kss[i]? = some ks ∧ H r = some (.tup (ks.map V.str))
 | _, _, _, _, .nil, h => by simp at h
 | _, _, 0, _, .cons a _, h => by simp at h; subst h; exact ⟨_, rfl, a⟩
 | _, _, i + 1, _, .cons _ t, h => by
  simp only [List.getElem?_cons_succ] at h ⊢
  exact TupsS.get t h
theorem word_binds (f : Say) : inV (V.str f.word) [V.str "some", V.str "each"] = f.binds.isSome := by
 have e : inV (V.str f.word) [V.str "some", V.str "each"] = decide (f.word ∈ [("some" : Str), "each"]) := inV_strs f.word [("some" : Str), "each"]
 rw [e]
 have w1 : decide (("same" : Str) ∈ [("some" : Str), "each"]) = false := by decide +kernel
 have w2 : decide (("less" : Str) ∈ [("some" : Str), "each"]) = false := by decide +kernel
 have w3 : decide (("sign" : Str) ∈ [("some" : Str), "each"]) = false := by decide +kernel
 have w4 : decide (("alike" : Str) ∈ [("some" : Str), "each"]) = false := by decide +kernel
 have w5 : decide (("not" : Str) ∈ [("some" : Str), "each"]) = false := by decide +kernel
 have w6 : decide (("and" : Str) ∈ [("some" : Str), "each"]) = false := by decide +kernel
 have w7 : decide (("or" : Str) ∈ [("some" : Str), "each"]) = false := by decide +kernel
 have w8 : decide (("some" : Str) ∈ [("some" : Str), "each"]) = true := by decide +kernel
 have w9 : decide (("each" : Str) ∈ [("some" : Str), "each"]) = true := by decide +kernel
 cases f with
 | same t u => exact w1
 | less t u => exact w2
 | sign a t s => exact w3
 | alike a t c u => exact w4
 | no f => exact w5
 | and f g => exact w6
 | or f g => exact w7
 | some n f => exact w8
 | each n f => exact w9
theorem flat_len {N : Nat} : ∀ {kss : List (List Str)}, (∀ ks ∈ kss, ks.length ≤ N) → kss.flatten.length ≤ N * kss.length
 | [], _ => Nat.zero_le _
 | ks :: kss, h => by
  rw [List.flatten_cons, List.length_append, List.length_cons]
  have h1 := h ks List.mem_cons_self
  have h2 := flat_len (kss := kss) fun x hx => h x (List.mem_cons_of_mem _ hx)
  rw [Nat.mul_succ]
  omega
def spOver (K : PySem.W.Frag) : Sp := fun vs H Q _ => ∃ (x : V) (f : Say) (ss : List Str) (I : Addr) (rs : List Addr) (kss : List (List Str)), vs = [x, .ref I] ∧ DatAt K H x f.dt ∧ f.Over ss ∧ ss.length ≤ 10 ∧ H I = some (.lst (rs.map V.ref)) ∧ TupsS H rs kss ∧ kss.length = f.inner.length ∧
 (∀ (j : Nat) (ks : List Str) (g : Say), kss[j]? = some ks → f.inner[j]? = some g → IsFree ks g) ∧ ∀ (D : Addr) (ks : List Str) (H' : Hp), H D = none → Same H H' → H' D = some (.tup (ks.map V.str)) → IsFree ks f → Q (.ref D) H'
theorem sc_names_over : FnScope ["saying", "inner", "names", "some"] ["saying", "inner"] (defScope s_names_over) := ⟨rfl, rfl, rfl, by decide +kernel, rfl, by decide +kernel, by decide +kernel⟩
theorem ok_names_over {a : Adr} {b : TAdr} (T : Txt K mg a) (Y : TopsT K w.params mg b) : FnOk P w K mg base CX0 2 a.f_names_over a.fd_names_over ["saying", "inner"] (spOver K) := by
 have G_term_names : FnOk P w K mg base CX0 1 a.f_term_names a.fd_term_names ["saying"] (spTermNames K) := ok_term_names T Y
 refine T.F_names_over.ok sc_names_over (fun vs H Q E h => ?_) (fun cdv A outer s H vs Q E hr h => ?_)
 ·obtain ⟨x, f, ss, I, rs, kss, rfl, _⟩ := h
  rfl
 ·obtain ⟨x, f, ss, I, rs, kss, rfl, hf, ov, hss, eI, tp, lk, fr, k⟩ := h
  have hr_term_names : Room 1 _ := hr
  obtain ⟨a, xs, rfl, hq, h0, _, hbd⟩ := say_terms f hf
  refine ⟨_, (pss_cons (ps_set (i := 2) sc_names_over.nd rfl (Or.inl rfl) (pe_call G_term_names hr_term_names rfl T.m_term_names T.k_term_names T.b_term_names .nil pass0 (pa_cons (pv 0) pa_nil)))
  (pss_cons (ps_for PassesOwn.never rfl (pi_list (pv 1)) (pg_name (i := 3) sc_names_over.nd rfl (Or.inl rfl))
   (pss_one (ps_expr (pe_bm PySem.F.plainAttrs_list PySem.F.slot_list_extend PySem.F.type_list_extend (mt_extendT K) (pv 2) (pa_cons (pv 3) pa_nil)))))
  (pss_cons (ps_if (pt_cmpR (op_inK K) (pe_ix (ix_tupK K) (pv 0) pe_int (fun _ _ => rfl)) (pe_tup (pa_cons pe_str (pa_cons pe_str pa_nil))) (by with_unfolding_all rfl))
   (pss_one (ps_setComp (i := 2) (CompScope.mk' (esc := defScope s_names_over) (N := ["saying", "inner", "names", "some"]) (own := ["name"]) (frn := ["saying"]) (frj := [0]) rfl rfl (by decide +kernel)) rfl (pi_list (pv 2)) (fun _ _ _ _ => (pg_name (i := 0) (show List.Nodup (["name", "saying"] : List Str) by decide +kernel) rfl (Or.inl rfl))) (fun _ _ _ _ => (pifs_one (pt_cmpR op_ne (pv 0) (pe_ix (ix_tupK K) (pv 1) pe_int (fun _ _ => rfl)) (nomark _)))) (fun _ _ _ _ => (pv 0)) sc_names_over.nd rfl rfl))
   pss_nil)
  (pss_one (ps_ret (pe_callTy (call_tupleK K) (by rfl) T.z_tuple bt_tuple (pa_cons (pe_callB (call_sortSet rfl) (by rfl) T.z_sorted bt_sorted (pa_cons (pe_callTy (call_setT rfl) (by rfl) T.z_set bt_set (pa_cons (pv 2) pa_nil)) pa_nil)) pa_nil))))))), ?_⟩
  refine ⟨_, rfl, _, f, ss, rfl, hf, ov, fun N H1 hN s1 eN => ?_⟩
  have nIN : I ≠ N := ne_of_none eI hN
  have lr : rs.length = kss.length := Paired.length tp
  have li := inner_small f
  have lt6 := tnames_small ov
  have kl : ∀ ks ∈ kss, ks.length ≤ 10 := fun ks hks => by
   obtain ⟨j, hj⟩ := List.getElem?_of_mem hks
   have hl : j < f.inner.length := by rw [← lk]; exact (List.getElem?_eq_some_iff.mp hj).1
   have := (fr j ks _ hj (List.getElem?_eq_getElem hl)).len (over_inner ov _ (List.getElem_mem hl))
   omega
  refine ⟨_, rfl, I, rfl, ⟨_, .of (s1 _ _ eI)⟩, for_list (xs := rs.map V.ref) (fun i σ H' => ∃ v3 : Option V, σ = [some (.ref a), some (.ref I), some (.ref N), v3] ∧ KB N H1 H' ∧ H' N = some (.lst ((f.tnames ++ (kss.take i).flatten).map V.str)))
   ⟨none, rfl, KB.refl _ _, by rw [List.take_zero, List.flatten_nil, List.append_nil]; exact eN⟩ (fun i σ H' _ ⟨_, _, h, _⟩ => .of (h _ _ (s1 _ _ eI) nIN)) ?_ ?_⟩
  ·rintro i y σ H2 hy ⟨v3, rfl, k2, eN2⟩
   obtain ⟨r, rfl, hr'⟩ := refItem hy
   obtain ⟨ks, eks, er⟩ := TupsS.get tp hr'
   have kt : KTu H1 H2 := KTu.kb eN k2
   have er2 := kt _ _ (s1 _ _ er)
   have l1 := flat_len (N := 10) (kss := kss.take i) fun z hz => kl z (List.mem_of_mem_take hz)
   have l2 : (kss.take i).length ≤ 2 := by rw [List.length_take]; omega
   have l3 := kl ks (List.mem_of_getElem? eks)
   refine ⟨_, rfl, .inl ⟨rfl, _, .of eN2⟩, _, rfl, N, r, _, _, rfl, rfl, eN2, .of er2, ?_, _, rfl, k2.trans KB.write, ?_⟩
   ·rw [List.length_map, List.length_map, List.length_append]
    exact Nat.le_trans (show _ ≤ 100 by omega) (by decide)
   ·rw [upd_same, take_snoc eks, List.flatten_append, ← List.append_assoc, List.map_append]
    simp
  rintro σ H2 ⟨v3, rfl, k2, eN2⟩
  rw [List.length_map, lr, List.take_length] at eN2
  have s2 : Same H H2 := s1.kbn hN k2
  have l1 := flat_len kl
  have mem0 : ∀ y, y ∈ f.tnames ++ kss.flatten ↔ (y ∈ f.tnames ∨ ∃ g ∈ f.inner, g.Free y) := fun y => by
   rw [List.mem_append, List.mem_flatten]
   constructor
   ·rintro (z | ⟨ks, hks, hy⟩)
    ·exact .inl z
    ·obtain ⟨j, hj⟩ := List.getElem?_of_mem hks
     have hl : j < f.inner.length := by rw [← lk]; exact (List.getElem?_eq_some_iff.mp hj).1
     exact .inr ⟨_, List.getElem_mem hl, ((fr j ks _ hj (List.getElem?_eq_getElem hl)).mem y).mp hy⟩
   ·rintro (z | ⟨g, hg, hy⟩)
    ·exact .inl z
    ·obtain ⟨j, hj⟩ := List.getElem?_of_mem hg
     have hl : j < kss.length := by rw [lk]; exact (List.getElem?_eq_some_iff.mp hj).1
     exact .inr ⟨_, List.getElem_mem hl, ((fr j _ g (List.getElem?_eq_getElem hl) hj).mem y).mpr hy⟩
  have len0 : (f.tnames ++ kss.flatten).length ≤ 40 := by rw [List.length_append]; omega
  generalize f.tnames ++ kss.flatten = ls0 at eN2 mem0 len0
  dsimp only [gName]
  refine seq_rest (t := tIfS _ _ _) (u := tRet _) (fun σ H' => ∃ (L : Addr) (ls : List Str) (v3 : Option V), σ = [some (.ref a), some (.ref I), some (.ref L), v3] ∧ Same H H' ∧ H' L = some (.lst (ls.map V.str)) ∧ (∀ y, y ∈ ls ↔ f.Free y) ∧ ls.length ≤ 40) ?re (fun rest => ?ifp)
  case re =>
   rintro σ H3 ⟨L, ls, v3, rfl, s3, eL, mem, ll⟩
   refine ⟨_, rfl, L, ls, rfl, .of eL, Nat.lt_of_le_of_lt (show ls.length + 1 ≤ 41 by omega) (by decide), fun p ks hp nd mk lk2 => ?_⟩
   have kin : ∀ y, y ∈ ks ↔ f.Free y := fun y => (mk y).trans (mem y)
   have l10 : ks.length ≤ ss.length := nodup_len nd fun y hy => free_in ov ((kin y).mp hy)
   have sp := Same.new (o := SetO P w p ks) hp
   refine ⟨p, ks, rfl, upd_same, by omega, fun p2 zs hp2 perm srt => ?_⟩
   have sp2 := Same.new (o := .lst (zs.map V.str)) hp2
   refine ⟨p2, _, rfl, .inl ⟨.of upd_same, fun D hD => ?_⟩⟩
   have sD := Same.new (o := .tup (zs.map V.str)) hD
   exact k D zs _ ((s3.trans (sp.trans sp2)).free hD) (s3.trans ((sp.trans sp2).trans sD)) upd_same ⟨srt, perm.nodup_iff.mpr nd, fun y => perm.mem_iff.trans (kin y)⟩
  case ifp =>
   refine ⟨_, rfl, a, xs, 0, .str f.word, rfl, rfl, s2.seqT hq, atI_nat (j := 0) h0, by show 2 ≤ sizeLine; decide, fun Z hZ => ⟨Z, _, rfl, .inr (.of upd_same), rfl, rfl, _, rfl, ?_⟩⟩
   have sZ := Same.new (o := .tup [.str "some", .str "each"]) hZ
   have s3 := s2.trans sZ
   have eN3 := sZ _ _ eN2
   generalize upd H2 Z (.tup [.str "some", .str "each"]) = H3 at s3 eN3 ⊢
   have ew : (if false = true then !inV (V.str f.word) [V.str "some", V.str "each"] else inV (V.str f.word) [V.str "some", V.str "each"]) = f.binds.isSome := by rw [if_neg (by decide), word_binds]
   rw [ew]
   cases eb : f.binds with
   | none =>
    refine iteF (rest _ _ ⟨N, ls0, _, rfl, s3, eN3, fun y => ?_, len0⟩)
    rw [mem0 y, free_iff, eb]
    simp
   | some n =>
    refine iteT ?_
    have at1 := hbd n eb
    refine ⟨_, rfl, N, rfl, ⟨_, .of eN3⟩, fun C hC => ?_⟩
    refine comp_list (xs := ls0.map V.str) (fun j σ H' => ∃ v : Option V, σ = [v, some (.ref a)] ∧ Same H3 H' ∧ H' C = some (.lst (((ls0.take j).filter fun y => !decide (y = n)).map V.str)))
     ⟨none, ?sg, Same.new hC, upd_same⟩ (fun j σ H' _ ⟨_, _, s, _⟩ => .of (s _ _ eN3)) ?_ ?_
    case sg => rfl
    ·rintro j y σ H4 hy ⟨v, rfl, s4, eC⟩
     obtain ⟨z, rfl, ez⟩ := strItem hy
     have ed : decide (V.str z = V.str n) = decide (z = n) := decide_eq_decide.mpr ⟨fun h => by injection h, fun h => by rw [h]⟩
     refine ⟨_, rfl, _, rfl, a, xs, 1, .str n, rfl, rfl, (s3.trans s4).seqT hq, atI_nat (j := 1) at1, rfl, _, rfl, ?_⟩
     rw [ed]
     refine ite2 (fun hh => ?_) (fun hh => ?_)
     ·refine ⟨_, rfl, _, eC, ?_, _, rfl, s4.kbn hC KB.write, ?_⟩
      ·rw [List.length_map]
       refine Nat.lt_of_le_of_lt (List.length_filter_le _ _) ?_
       rw [List.length_take]
       exact Nat.lt_of_le_of_lt (show min j ls0.length ≤ 40 by omega) (by decide)
      ·rw [upd_same, take_snoc ez, List.filter_append, List.map_append]
       simp [hh]
     ·refine ⟨_, rfl, s4, ?_⟩
      have hh' : (!decide (z = n)) = false := by simpa using hh
      rw [eC, take_snoc ez, List.filter_append]
      simp [hh']
    rintro σ H4 ⟨v, rfl, s4, eC⟩
    rw [List.length_map, List.take_length] at eC
    refine rest _ _ ⟨C, _, _, rfl, s3.trans s4, eC, fun y => ?_, Nat.le_trans (List.length_filter_le _ _) len0⟩
    rw [List.mem_filter, mem0 y, free_iff, eb]
    constructor
    ·rintro ⟨a1, a2⟩
     exact ⟨a1, fun z => by rw [← Option.some.inj z] at a2; simp at a2⟩
    ·rintro ⟨a1, a2⟩
     exact ⟨a1, by simpa using fun z => a2 (by rw [z])⟩
def keyOf (ns : List Nat) : List Key := ns.map fun (n : Nat) => Sum.inl (n : Int)
theorem nats_key (ns : List Nat) : natsV ns = (keyOf ns).map kV := by
 unfold natsV keyOf
 rw [List.map_map]
 rfl
theorem over_at {ss : List Str} : ∀ (ns : List Nat) (f g : Say), f.Over ss → f.at ns = some g → g.Over ss
 | [], f, g, o, e => by
  have e' : f = g := Option.some.inj e
  rw [← e']; exact o
 | n :: ns, f, g, o, e => by
  have e' : (f.inner[n]?).bind (fun g => g.at ns) = some g := e
  obtain ⟨u, eu, ea⟩ := Option.bind_eq_some_iff.mp e'
  exact over_at ns u g (over_inner o u (List.mem_of_getElem? eu)) ea
theorem keyOf_inj : ∀ {ns ms : List Nat}, keyOf ns = keyOf ms → ns = ms
 | [], [], _ => rfl
 | [], _ :: _, h => by cases h
 | _ :: _, [], h => by cases h
 | n :: ns, m :: ms, h => by
  have h1 : (Sum.inl (n : Int) : Key) = Sum.inl (m : Int) := (List.cons.inj h).1
  have h2 : (n : Int) = m := Sum.inl.inj h1
  rw [keyOf_inj (List.cons.inj h).2, Int.ofNat_inj.mp h2]
def Known (H : Hp) (kvs : List (List Key × V)) (es : List Ent) : Prop := ∀ e ∈ es, ∃ r ks, valV kvs (keyOf e.1) = some (.ref r) ∧ H r = some (.tup (ks.map V.str)) ∧ IsFree ks e.2
theorem Known.keep {H H' : Hp} {kvs : List (List Key × V)} {es : List Ent} (h : Known H kvs es) (k : KTu H H') : Known H' kvs es := fun e he => by
 obtain ⟨r, ks, a, b, c⟩ := h e he
 exact ⟨r, ks, a, k _ _ b, c⟩
theorem kids_known {H : Hp} {kvs : List (List Key × V)} {g : Say} {ns : List Nat} {es : List Ent} (kn : Known H kvs es) (hk : ∀ (j : Nat) (h : Say), g.inner[j]? = some h → (ns ++ [j], h) ∈ es) :
  ∃ (rs : List Addr) (kss : List (List Str)), TupsS H rs kss ∧ kss.length = g.inner.length ∧ (∀ (j : Nat) (u : V), (rs.map V.ref)[j]? = some u → valV kvs (keyOf (ns ++ [j])) = some u) ∧
   ∀ (j : Nat) (ks : List Str) (h : Say), kss[j]? = some ks → g.inner[j]? = some h → IsFree ks h := by
 have all : ∀ n, n ≤ g.inner.length → ∃ (rs : List Addr) (kss : List (List Str)), TupsS H rs kss ∧ kss.length = n ∧ (∀ (j : Nat) (u : V), (rs.map V.ref)[j]? = some u → valV kvs (keyOf (ns ++ [j])) = some u) ∧
   ∀ (j : Nat) (ks : List Str) (h : Say), kss[j]? = some ks → g.inner[j]? = some h → IsFree ks h := by
  intro n
  induction n with
  | zero => exact fun _ => ⟨[], [], .nil, rfl, fun j u z => by simp at z, fun j ks h z => by simp at z⟩
  | succ n ih =>
   intro hn
   obtain ⟨rs, kss, tp, lk, vs, fr⟩ := ih (by omega)
   have lrs : rs.length = kss.length := Paired.length tp
   obtain ⟨h, hh⟩ : ∃ h, g.inner[n]? = some h := ⟨_, List.getElem?_eq_getElem hn⟩
   obtain ⟨r, ks, ev, er, ifr⟩ := kn _ (hk n h hh)
   refine ⟨rs ++ [r], kss ++ [ks], paired_append tp (.cons er .nil), by rw [List.length_append, lk]; rfl, fun j u z => ?_, fun t ks' h' z1 z2 => ?_⟩
   ·rw [List.map_append] at z
    by_cases lt : j < rs.length
    ·rw [List.getElem?_append_left (by rw [List.length_map]; exact lt)] at z
     exact vs j u z
    ·have hl := (List.getElem?_eq_some_iff.mp z).1
     rw [List.length_append, List.length_map] at hl
     have hl' : j < rs.length + 1 := hl
     have e : j = n := by omega
     subst e
     rw [List.getElem?_append_right (by rw [List.length_map]; omega), List.length_map, lrs, lk, Nat.sub_self] at z
     have z' : V.ref r = u := Option.some.inj z
     rw [← z']; exact ev
   ·by_cases lt : t < kss.length
    ·rw [List.getElem?_append_left lt] at z1
     exact fr t ks' h' z1 z2
    ·have hl := (List.getElem?_eq_some_iff.mp z1).1
     rw [List.length_append] at hl
     have hl' : t < kss.length + 1 := hl
     have e : t = kss.length := by omega
     subst e
     rw [List.getElem?_append_right (Nat.le_refl _), Nat.sub_self] at z1
     have z1' : ks = ks' := Option.some.inj z1
     rw [lk, hh] at z2
     have z2' : h = h' := Option.some.inj z2
     rw [← z1', ← z2']; exact ifr
 exact all _ (Nat.le_refl _)
def spToldOf (K : PySem.W.Frag) : Sp := fun vs H Q _ => ∃ (D pl : Addr) (y : V) (g : Say) (kvs : List (List Key × V)) (ns : List Nat) (us : List V), vs = [.ref D, .ref pl, y] ∧ DatAt K H y g.dt ∧ H D = some (.dT kvs) ∧ H pl = some (.tup (natsV ns)) ∧ ns.length ≤ 15 ∧ us.length = g.inner.length ∧
 (∀ (j : Nat) (u : V), us[j]? = some u → valV kvs (keyOf (ns ++ [j])) = some u) ∧ ∀ (C : Addr) (H' : Hp), H C = none → Same H H' → H' C = some (.lst us) → Q (.ref C) H'
def spNamesBy (K : PySem.W.Frag) : Sp := fun vs H Q _ => ∃ (x : V) (f : Say) (ss : List Str), vs = [x] ∧ DatAt K H x f.dt ∧ f.deep ≤ 15 ∧ f.Over ss ∧ ss.length ≤ 10 ∧
 ∀ (D : Addr) (kvs : List (List Key × V)) (H' : Hp), Same H H' → H' D = some (.dT kvs) → Known H' kvs (f.post []) → Q (.ref D) H'
theorem sc_told_of_parts : FnScope ["told", "place", "saying"] ["told", "place", "saying"] (defScope s_told_of_parts) := ⟨rfl, rfl, rfl, by decide +kernel, rfl, by decide +kernel, by decide +kernel⟩
theorem ok_told_of_parts {a : Adr} {b : PAdr} (T : Txt K mg a) (U : TopsP K w.params mg b) : FnOk P w K mg base CX0 2 a.f_told_of_parts a.fd_told_of_parts ["told", "place", "saying"] (spToldOf K) := by
 have G_inner_parts : FnOk P w K mg base CX0 1 a.f_inner_parts a.fd_inner_parts ["saying"] (spInner K) := ok_inner_parts T U
 refine T.F_told_of_parts.ok sc_told_of_parts (fun vs H Q E h => ?_) (fun cdv A outer s H vs Q E hr h => ?_)
 ·obtain ⟨D, pl, y, g, kvs, ns, us, rfl, _⟩ := h
  rfl
 ·obtain ⟨D, pl, y, g, kvs, ns, us, rfl, dy, eD, epl, hns, lus, hus, k⟩ := h
  have hr_inner_parts : Room 1 _ := hr
  refine ⟨_, (pss_one (ps_ret (pe_comp (CompScope.mk' (esc := defScope s_told_of_parts) (N := ["told", "place", "saying"]) (own := ["number"]) (frn := ["told", "place"]) (frj := [0, 1]) rfl rfl (by decide +kernel)) rfl (pi_range1 rfl T.z_range (pa_cons (pe_callB (call_lenK K) (by rfl) T.z_len bt_len (pa_cons (pe_call G_inner_parts hr_inner_parts rfl T.m_inner_parts T.k_inner_parts T.b_inner_parts .nil pass0 (pa_cons (pv 2) pa_nil)) pa_nil)) pa_nil)) (fun _ _ _ _ => (pg_name (i := 0) (show List.Nodup (["number", "told", "place"] : List Str) by decide +kernel) rfl (Or.inl rfl))) (fun _ _ _ _ => pifs_nil) (fun _ _ _ _ => (pe_dget (hu_of hr) (pv 1) (pe_op (op_catNK K) (pv 2) (pe_tup (pa_cons (pv 0) pa_nil))) (fun _ _ => rfl)))))), ?_⟩
  refine ⟨_, rfl, y, g, rfl, dy, fun D2 xs H4 hD2 s4 eD2' dts => ?_⟩
  have lx : xs.length = g.inner.length := by rw [dts.length, List.length_map]
  refine ⟨_, xs.length, rfl, .inl ⟨_, .of eD2', rfl⟩, ?_⟩
  have gin := inner_small g
  have eD4 := s4 _ _ eD
  have epl4 := s4 _ _ epl
  refine ⟨_, rfl, by omega, by omega, fun C hC => ?_⟩
  refine comp_range (lo := 0) (fun j σ H' => ∃ (v : Option V), σ = [v, some (.ref D), some (.ref pl)] ∧ Same H4 H' ∧ H' C = some (.lst (us.take j)))
   ⟨none, ?sg, Same.new hC, upd_same⟩ ?_ ?_
  case sg => rfl
  ·rintro j σ H5 hj ⟨v, rfl, s5, eC⟩
   have hj' : j < us.length := by omega
   have ej : (0 : Int) + (j : Int) = (j : Int) := by omega
   obtain ⟨u, hu⟩ : ∃ u, us[j]? = some u := ⟨_, List.getElem?_eq_getElem hj'⟩
   have ev := hus j u hu
   have done : ∀ (pn : Addr) (H6 : Hp), Same H5 H6 → H6 pn = some (.tup (natsV (ns ++ [j]))) → ∃ (a : Addr) (v : V), V.ref D = .ref a ∧ DGet H6 a (.ref pn) (some v) ∧ ∃ ys, H6 C = some (.lst ys) ∧ ys.length < sizeLine ∧
     ∃ (v' : Option V), [some (V.int (0 + (j : Int))), some (.ref D), some (.ref pl)] = [v', some (.ref D), some (.ref pl)] ∧ Same H4 (upd H6 C (.lst (ys ++ [v]))) ∧ (upd H6 C (.lst (ys ++ [v]))) C = some (.lst (us.take (j + 1))) := fun pn H6 s6 epn => by
    have s46 := s5.trans s6
    have eC6 := s6 _ _ eC
    refine ⟨D, u, rfl, .inr ⟨kvs, keyOf (ns ++ [j]), pn, .inl (s46 _ _ eD4), rfl, by rw [epn, nats_key], ev.symm⟩, _, eC6, ?_, _, rfl, s46.kbn hC KB.write, by rw [upd_same, take_snoc hu]⟩
    rw [List.length_take]; exact Nat.lt_of_lt_of_le (show min j us.length < 10 by omega) (by decide)
   refine ⟨_, rfl, _, rfl, _, rfl, by show 1 ≤ sizeLine; decide, fun oo hoo => ?_⟩
   have so := Same.new (o := .tup [.int (0 + (j : Int))]) hoo
   have eoo : (upd H5 oo (.tup [.int (0 + (j : Int))])) oo = some (.tup (natsV [j])) := by rw [upd_same, ej]; rfl
   have epl5 := s5 _ _ epl4
   refine ⟨pl, oo, natsV ns, natsV [j], rfl, rfl, .of (so _ _ epl5), .of eoo, by simp [natsV], ?_, fun hn => ?_, fun hn pn hpn => ?_⟩
   ·rw [natsV, natsV, List.length_map, List.length_map]
    exact Nat.le_trans (show _ ≤ 100 by simp; omega) (by decide)
   ·have hn' : ns = [] := by cases ns with | nil => rfl | cons _ _ => cases hn
    have e1 : natsV (ns ++ [j]) = natsV [j] := by rw [hn']; rfl
    exact done oo _ so (by rw [e1]; exact eoo)
   ·exact done pn _ (so.trans (Same.new hpn)) (by rw [upd_same, natsV, natsV, natsV, List.map_append])
  rintro σ H5 ⟨v, rfl, s5, eC⟩
  rw [Int.toNat_natCast, lx, ← lus, List.take_length] at eC
  exact k C H5 (s4.free hC) (s4.trans s5) eC
theorem sc_names_by_place : FnScope ["saying", "names", "place", "part"] ["saying"] (defScope s_names_by_place) := ⟨rfl, rfl, rfl, by decide +kernel, rfl, by decide +kernel, by decide +kernel⟩
theorem ok_names_by_place {a : Adr} {b : PAdr} {c : TAdr} (T : Txt K mg a) (U : TopsP K w.params mg b) (Y : TopsT K w.params mg c) : FnOk P w K mg base CX0 3 a.f_names_by_place a.fd_names_by_place ["saying"] (spNamesBy K) := by
 have G_told_of_parts : FnOk P w K mg base CX0 2 a.f_told_of_parts a.fd_told_of_parts ["told", "place", "saying"] (spToldOf K) := ok_told_of_parts T U
 have G_parts_in_order : FnOk P w K mg base CX0 2 a.f_parts_in_order a.fd_parts_in_order ["saying"] (spOrder K) := ok_parts_in_order T U
 have G_names_over : FnOk P w K mg base CX0 2 a.f_names_over a.fd_names_over ["saying", "inner"] (spOver K) := ok_names_over T Y
 refine T.F_names_by_place.ok sc_names_by_place (fun vs H Q E h => ?_) (fun cdv A outer s H vs Q E hr h => ?_)
 ·obtain ⟨x, f, ss, rfl, _⟩ := h
  rfl
 ·obtain ⟨x, f, ss, rfl, hf, hdp, ov, hss, k⟩ := h
  have hr_told_of_parts : Room 2 _ := hr
  have hr_parts_in_order : Room 2 _ := hr
  have hr_names_over : Room 2 _ := hr
  refine ⟨_, (pss_cons (ps_set (i := 1) sc_names_by_place.nd rfl (Or.inl rfl) pe_dnewT)
  (pss_cons (ps_for PassesOwn.never rfl (pi_list (pe_call G_parts_in_order hr_parts_in_order rfl T.m_parts_in_order T.k_parts_in_order T.b_parts_in_order .nil pass0 (pa_cons (pv 0) pa_nil))) (pg_tup rfl (pgs_cons (pg_name (i := 2) sc_names_by_place.nd rfl (Or.inl rfl)) (pgs_cons (pg_name (i := 3) sc_names_by_place.nd rfl (Or.inl rfl)) pgs_nil)))
   (pss_one (ps_dput (hu_of hr) (pv 1) (pv 2) (pe_call G_names_over hr_names_over rfl T.m_names_over T.k_names_over T.b_names_over .nil pass0 (pa_cons (pv 3) (pa_cons (pe_call G_told_of_parts hr_told_of_parts rfl T.m_told_of_parts T.k_told_of_parts T.b_told_of_parts .nil pass0 (pa_cons (pv 1) (pa_cons (pv 2) (pa_cons (pv 3) pa_nil)))) pa_nil))) rfl)))
  (pss_one (ps_ret (pv 1))))), ?_⟩
  refine fun D hD => ?_
  have sD := Same.new (o := .dT []) hD
  refine ⟨_, rfl, x, f, rfl, dat_stay sD.kts _ _ f.noL hf, hdp, fun L qs es H2 hL s2 eL prs late les => ?_⟩
  have eD2 : H2 D = some (.dT []) := s2 _ _ upd_same
  have nLD : L ≠ D := (ne_of_none upd_same hL).symm
  have lqs : qs.length = es.length := Paired.length prs
  have sH2 := sD.trans s2
  refine ⟨L, rfl, ⟨_, .of eL⟩, for_list (xs := qs.map V.ref) (fun i σ H' => ∃ (kvs : List (List Key × V)) (v2 v3 : Option V), σ = [some x, some (.ref D), v2, v3] ∧ KB D H2 H' ∧ H' D = some (.dT kvs) ∧ kvs.length ≤ i ∧ Known H' kvs (es.take i))
   ⟨[], none, none, rfl, KB.refl _ _, eD2, Nat.le_refl _, fun e he => by simp at he⟩ (fun i σ H' _ ⟨_, _, _, _, h, _⟩ => .of (h _ _ eL nLD)) ?_ ?_⟩
  ·rintro i y0 σ H3 hy ⟨kvs, v2, v3, rfl, k3, eD3, lkv, kn⟩
   obtain ⟨q, rfl, hq⟩ := refItem hy
   obtain ⟨⟨ns, g⟩, he, pq⟩ := prs_get prs hq
   have kt3 : KTu H2 H3 := KTu.dT eD2 k3
   have ks3 : KTs K H2 H3 := KB.ktsD eD2 k3
   obtain ⟨pl, y, eq, epl, dy⟩ := pq.keep kt3 ks3
   have hin := List.mem_of_getElem? he
   have gat : f.at ns = some g := late.here _ hin
   have gov := over_at ns f g ov gat
   have hi : i < es.length := (List.getElem?_eq_some_iff.mp he).1
   refine ⟨q, _, rfl, .of eq, rfl, _, _, rfl, _, _, rfl, rfl, ?_⟩
   have gin := inner_small g
   obtain ⟨rs, kss, tp, lk, vs', fr⟩ := kids_known (kvs := kvs) (H := H3) (g := g) (ns := ns) (es := es.take i) kn (fun j h hh => by
    obtain ⟨j', hj2, ee⟩ := late.kid i ns g he j h hh
    exact List.mem_of_getElem? (i := j') (by rw [List.getElem?_take_of_lt hj2]; exact ee))
   have lrs : rs.length = kss.length := Paired.length tp
   refine ⟨_, rfl, _, rfl, _, rfl, _, rfl, D, pl, y, g, kvs, ns, rs.map V.ref, rfl, dy, eD3, epl, ns_small hdp gat, by rw [List.length_map, lrs, lk], vs', fun C H5 hC s5 eC => ?_⟩
   refine ⟨y, g, ss, C, rs, kss, rfl, dat_stay s5.kts _ _ g.noL dy, gov, hss, eC, TupsS.keep s5.kt tp, lk, fr, fun D3 ks H6 hD3 s6 eD3' ifr => ?_⟩
   have s36 := s5.trans s6
   have eD6 := s36 _ _ eD3
   have epl6 := s36 _ _ epl
   refine ⟨_, rfl, _, rfl, D, _, rfl, DPut.t (k := keyOf ns) eD6 (by rw [epl6, nats_key]) (Nat.lt_of_le_of_lt (show kvs.length ≤ 100000 by omega) (by decide)), ?_⟩
   have ktD : KTu H6 (upd H6 D (.dT (putK kvs (keyOf ns) (.ref D3)))) := KTu.dT eD6 KB.write
   refine ⟨_, _, _, rfl, (k3.trans s36.kb).trans KB.write, upd_same, Nat.le_trans (length_putK _ _ _) (by omega), fun e hm => ?_⟩
   rw [take_snoc he] at hm
   by_cases ek : keyOf e.1 = keyOf ns
   ·have en := keyOf_inj ek
    have eg : e.2 = g := by
     have h1 : f.at e.1 = some e.2 := by
      rcases List.mem_append.mp hm with z | z
      ·exact late.here e (List.mem_of_mem_take z)
      ·rw [List.mem_singleton.mp z]; exact gat
     rw [en, gat] at h1
     exact (Option.some.inj h1).symm
    exact ⟨D3, ks, by rw [valV_put, if_pos ek], ktD _ _ eD3', by rw [eg]; exact ifr⟩
   ·rcases List.mem_append.mp hm with z | z
    ·obtain ⟨r, ks', a1, a2, a3⟩ := kn e z
     exact ⟨r, ks', by rw [valV_put, if_neg ek]; exact a1, ktD _ _ (s36.kt _ _ a2), a3⟩
    ·exact absurd (by rw [List.mem_singleton.mp z]) ek
  ·rintro σ H3 ⟨kvs, v2, v3, rfl, k3, eD3, lkv, kn⟩
   rw [List.length_map, lqs, List.take_length] at kn
   rw [late.ex] at kn
   exact ⟨_, rfl, k D kvs H3 (sH2.kbn hD k3) eD3 kn⟩
theorem inner_way (f : Say) : (decide (V.str f.word = V.str "not") = true ∧ f.spots = [1]) ∨ (decide (V.str f.word = V.str "not") = false ∧ inV (V.str f.word) [V.str "and", V.str "or"] = true ∧ f.spots = [1, 2]) ∨
  (decide (V.str f.word = V.str "not") = false ∧ inV (V.str f.word) [V.str "and", V.str "or"] = false ∧ inV (V.str f.word) [V.str "some", V.str "each"] = true ∧ f.spots = [2]) ∨
  (decide (V.str f.word = V.str "not") = false ∧ inV (V.str f.word) [V.str "and", V.str "or"] = false ∧ inV (V.str f.word) [V.str "some", V.str "each"] = false ∧ f.spots = []) := by
 have e1 : inV (V.str f.word) [V.str "and", V.str "or"] = decide (f.word ∈ [("and" : Str), "or"]) := inV_strs f.word [("and" : Str), "or"]
 have e2 : inV (V.str f.word) [V.str "some", V.str "each"] = decide (f.word ∈ [("some" : Str), "each"]) := inV_strs f.word [("some" : Str), "each"]
 rw [e1, e2]
 have n_same : decide (V.str ("same" : Str) = V.str ("not" : Str)) = false := by decide +kernel
 have n_less : decide (V.str ("less" : Str) = V.str ("not" : Str)) = false := by decide +kernel
 have n_sign : decide (V.str ("sign" : Str) = V.str ("not" : Str)) = false := by decide +kernel
 have n_alike : decide (V.str ("alike" : Str) = V.str ("not" : Str)) = false := by decide +kernel
 have n_not : decide (V.str ("not" : Str) = V.str ("not" : Str)) = true := by decide +kernel
 have n_and : decide (V.str ("and" : Str) = V.str ("not" : Str)) = false := by decide +kernel
 have n_or : decide (V.str ("or" : Str) = V.str ("not" : Str)) = false := by decide +kernel
 have n_some : decide (V.str ("some" : Str) = V.str ("not" : Str)) = false := by decide +kernel
 have n_each : decide (V.str ("each" : Str) = V.str ("not" : Str)) = false := by decide +kernel
 have p_same : decide (("same" : Str) ∈ [("and" : Str), ("or" : Str)]) = false := by decide +kernel
 have p_less : decide (("less" : Str) ∈ [("and" : Str), ("or" : Str)]) = false := by decide +kernel
 have p_sign : decide (("sign" : Str) ∈ [("and" : Str), ("or" : Str)]) = false := by decide +kernel
 have p_alike : decide (("alike" : Str) ∈ [("and" : Str), ("or" : Str)]) = false := by decide +kernel
 have p_not : decide (("not" : Str) ∈ [("and" : Str), ("or" : Str)]) = false := by decide +kernel
 have p_and : decide (("and" : Str) ∈ [("and" : Str), ("or" : Str)]) = true := by decide +kernel
 have p_or : decide (("or" : Str) ∈ [("and" : Str), ("or" : Str)]) = true := by decide +kernel
 have p_some : decide (("some" : Str) ∈ [("and" : Str), ("or" : Str)]) = false := by decide +kernel
 have p_each : decide (("each" : Str) ∈ [("and" : Str), ("or" : Str)]) = false := by decide +kernel
 have q_same : decide (("same" : Str) ∈ [("some" : Str), ("each" : Str)]) = false := by decide +kernel
 have q_less : decide (("less" : Str) ∈ [("some" : Str), ("each" : Str)]) = false := by decide +kernel
 have q_sign : decide (("sign" : Str) ∈ [("some" : Str), ("each" : Str)]) = false := by decide +kernel
 have q_alike : decide (("alike" : Str) ∈ [("some" : Str), ("each" : Str)]) = false := by decide +kernel
 have q_not : decide (("not" : Str) ∈ [("some" : Str), ("each" : Str)]) = false := by decide +kernel
 have q_and : decide (("and" : Str) ∈ [("some" : Str), ("each" : Str)]) = false := by decide +kernel
 have q_or : decide (("or" : Str) ∈ [("some" : Str), ("each" : Str)]) = false := by decide +kernel
 have q_some : decide (("some" : Str) ∈ [("some" : Str), ("each" : Str)]) = true := by decide +kernel
 have q_each : decide (("each" : Str) ∈ [("some" : Str), ("each" : Str)]) = true := by decide +kernel
 cases f with
 | same t u => exact .inr (.inr (.inr ⟨n_same, p_same, q_same, rfl⟩))
 | less t u => exact .inr (.inr (.inr ⟨n_less, p_less, q_less, rfl⟩))
 | sign a t s => exact .inr (.inr (.inr ⟨n_sign, p_sign, q_sign, rfl⟩))
 | alike a t c u => exact .inr (.inr (.inr ⟨n_alike, p_alike, q_alike, rfl⟩))
 | no f => exact .inl ⟨n_not, rfl⟩
 | and f g => exact .inr (.inl ⟨n_and, p_and, rfl⟩)
 | or f g => exact .inr (.inl ⟨n_or, p_or, rfl⟩)
 | some n f => exact .inr (.inr (.inl ⟨n_some, p_some, q_some, rfl⟩))
 | each n f => exact .inr (.inr (.inl ⟨n_each, p_each, q_each, rfl⟩))
theorem terms_way (f : Say) : (inV (V.str f.word) [V.str "same", V.str "less"] = true ∧ f.tspots = [1, 2]) ∨ (inV (V.str f.word) [V.str "same", V.str "less"] = false ∧ decide (V.str f.word = V.str "sign") = true ∧ f.tspots = [2]) ∨
  (inV (V.str f.word) [V.str "same", V.str "less"] = false ∧ decide (V.str f.word = V.str "sign") = false ∧ decide (V.str f.word = V.str "alike") = true ∧ f.tspots = [2, 4]) ∨
  (inV (V.str f.word) [V.str "same", V.str "less"] = false ∧ decide (V.str f.word = V.str "sign") = false ∧ decide (V.str f.word = V.str "alike") = false ∧ f.tspots = []) := by
 have e1 : inV (V.str f.word) [V.str "same", V.str "less"] = decide (f.word ∈ [("same" : Str), "less"]) := inV_strs f.word [("same" : Str), "less"]
 rw [e1]
 have n_same : decide (V.str ("same" : Str) = V.str ("sign" : Str)) = false := by decide +kernel
 have n_less : decide (V.str ("less" : Str) = V.str ("sign" : Str)) = false := by decide +kernel
 have n_sign : decide (V.str ("sign" : Str) = V.str ("sign" : Str)) = true := by decide +kernel
 have n_alike : decide (V.str ("alike" : Str) = V.str ("sign" : Str)) = false := by decide +kernel
 have n_not : decide (V.str ("not" : Str) = V.str ("sign" : Str)) = false := by decide +kernel
 have n_and : decide (V.str ("and" : Str) = V.str ("sign" : Str)) = false := by decide +kernel
 have n_or : decide (V.str ("or" : Str) = V.str ("sign" : Str)) = false := by decide +kernel
 have n_some : decide (V.str ("some" : Str) = V.str ("sign" : Str)) = false := by decide +kernel
 have n_each : decide (V.str ("each" : Str) = V.str ("sign" : Str)) = false := by decide +kernel
 have m_same : decide (V.str ("same" : Str) = V.str ("alike" : Str)) = false := by decide +kernel
 have m_less : decide (V.str ("less" : Str) = V.str ("alike" : Str)) = false := by decide +kernel
 have m_sign : decide (V.str ("sign" : Str) = V.str ("alike" : Str)) = false := by decide +kernel
 have m_alike : decide (V.str ("alike" : Str) = V.str ("alike" : Str)) = true := by decide +kernel
 have m_not : decide (V.str ("not" : Str) = V.str ("alike" : Str)) = false := by decide +kernel
 have m_and : decide (V.str ("and" : Str) = V.str ("alike" : Str)) = false := by decide +kernel
 have m_or : decide (V.str ("or" : Str) = V.str ("alike" : Str)) = false := by decide +kernel
 have m_some : decide (V.str ("some" : Str) = V.str ("alike" : Str)) = false := by decide +kernel
 have m_each : decide (V.str ("each" : Str) = V.str ("alike" : Str)) = false := by decide +kernel
 have p_same : decide (("same" : Str) ∈ [("same" : Str), ("less" : Str)]) = true := by decide +kernel
 have p_less : decide (("less" : Str) ∈ [("same" : Str), ("less" : Str)]) = true := by decide +kernel
 have p_sign : decide (("sign" : Str) ∈ [("same" : Str), ("less" : Str)]) = false := by decide +kernel
 have p_alike : decide (("alike" : Str) ∈ [("same" : Str), ("less" : Str)]) = false := by decide +kernel
 have p_not : decide (("not" : Str) ∈ [("same" : Str), ("less" : Str)]) = false := by decide +kernel
 have p_and : decide (("and" : Str) ∈ [("same" : Str), ("less" : Str)]) = false := by decide +kernel
 have p_or : decide (("or" : Str) ∈ [("same" : Str), ("less" : Str)]) = false := by decide +kernel
 have p_some : decide (("some" : Str) ∈ [("same" : Str), ("less" : Str)]) = false := by decide +kernel
 have p_each : decide (("each" : Str) ∈ [("same" : Str), ("less" : Str)]) = false := by decide +kernel
 cases f with
 | same t u => exact .inl ⟨p_same, rfl⟩
 | less t u => exact .inl ⟨p_less, rfl⟩
 | sign a t s => exact .inr (.inl ⟨p_sign, n_sign, rfl⟩)
 | alike a t c u => exact .inr (.inr (.inl ⟨p_alike, n_alike, m_alike, rfl⟩))
 | no f => exact .inr (.inr (.inr ⟨p_not, n_not, m_not, rfl⟩))
 | and f g => exact .inr (.inr (.inr ⟨p_and, n_and, m_and, rfl⟩))
 | or f g => exact .inr (.inr (.inr ⟨p_or, n_or, m_or, rfl⟩))
 | some n f => exact .inr (.inr (.inr ⟨p_some, n_some, m_some, rfl⟩))
 | each n f => exact .inr (.inr (.inr ⟨p_each, n_each, m_each, rfl⟩))
theorem one_of {α : Type} {l : List α} {x : α} (h : l.length = 1) (e : l[0]? = some x) : l = [x] := by
 match l, h with
 | [y], _ => rw [Option.some.inj (show some y = some x from e)]
theorem two_of {α : Type} {l : List α} {x y : α} (h : l.length = 2) (e : l[0]? = some x) (e2 : l[1]? = some y) : l = [x, y] := by
 match l, h with
 | [a, b], _ => rw [Option.some.inj (show some a = some x from e), Option.some.inj (show some b = some y from e2)]
def spTerms (K : PySem.W.Frag) : Sp := fun vs H Q _ => ∃ (x : V) (f : Say), vs = [x] ∧ DatAt K H x f.dt ∧ ∀ (D : Addr) (xs : List V) (H' : Hp), H D = none → Same H H' → H' D = some (.lst xs) → DatsAt K H' xs (f.terms.map Term.dt) → Q (.ref D) H'
theorem sc_l_inner : FnScope ["_law_saying_here"] ["_law_saying_here"] (defScope s_l_inner) := ⟨rfl, rfl, rfl, by decide +kernel, rfl, by decide +kernel, by decide +kernel⟩
theorem ok_l_inner {a : Adr} (T : Txt K mg a) : FnOk P w K mg base CX0 1 a.f_l_inner a.fd_l_inner ["_law_saying_here"] (spInner K) := by
 refine T.F_l_inner.ok sc_l_inner (fun vs H Q E h => ?_) (fun cdv A outer s H vs Q E hr h => ?_)
 ·obtain ⟨x, f, rfl, _⟩ := h
  rfl
 ·obtain ⟨x, f, rfl, hf, k⟩ := h
  obtain ⟨a, xs, rfl, hq, h0, hsp⟩ := say_at f hf
  refine ⟨_, (pss_cons (ps_if (pt_cmpR op_eq (pe_ix (ix_tupK K) (pv 0) pe_int (fun _ _ => rfl)) pe_str (nomark _))
   (pss_one (ps_ret (pe_lst (pa_cons (pe_ix (ix_tupK K) (pv 0) pe_int (fun _ _ => rfl)) pa_nil))))
   pss_nil)
  (pss_cons (ps_if (pt_cmpR (op_inK K) (pe_ix (ix_tupK K) (pv 0) pe_int (fun _ _ => rfl)) (pe_lst (pa_cons pe_str (pa_cons pe_str pa_nil))) (by with_unfolding_all rfl))
   (pss_one (ps_ret (pe_lst (pa_cons (pe_ix (ix_tupK K) (pv 0) pe_int (fun _ _ => rfl)) (pa_cons (pe_ix (ix_tupK K) (pv 0) pe_int (fun _ _ => rfl)) pa_nil)))))
   pss_nil)
  (pss_cons (ps_if (pt_cmpR (op_inK K) (pe_ix (ix_tupK K) (pv 0) pe_int (fun _ _ => rfl)) (pe_lst (pa_cons pe_str (pa_cons pe_str pa_nil))) (by with_unfolding_all rfl))
   (pss_one (ps_ret (pe_lst (pa_cons (pe_ix (ix_tupK K) (pv 0) pe_int (fun _ _ => rfl)) pa_nil))))
   pss_nil)
  (pss_one (ps_ret (pe_lst pa_nil)))))), ?_⟩
  have sl := spots_len f
  refine ⟨_, rfl, a, xs, 0, .str f.word, rfl, rfl, hq, atI_nat (j := 0) h0, rfl, _, rfl, ?_⟩
  rcases inner_way f with ⟨h1, e⟩ | ⟨h1, h2, e⟩ | ⟨h1, h2, h3, e⟩ | ⟨h1, h2, h3, e⟩
  ·rw [h1]
   refine iteT ?_
   obtain ⟨y, g, hy, hg, dy⟩ := hsp 0 1 (by rw [e]; rfl)
   rw [e] at sl
   have ei := one_of sl.symm hg
   refine ⟨_, rfl, a, xs, _, _, rfl, rfl, hq, atI_nat (j := 1) hy, by show 1 ≤ sizeLine; decide, fun D hD => ?_⟩
   have sD := Same.new (o := .lst [y]) hD
   exact k D _ _ hD sD upd_same (by rw [ei]; exact dats_cons (dat_stay sD.kts _ _ g.noL dy) dats_nil)
  ·rw [h1]
   refine iteF ?_
   refine ⟨_, rfl, a, xs, 0, .str f.word, rfl, rfl, hq, atI_nat (j := 0) h0, by show 2 ≤ sizeLine; decide, fun Z hZ => ⟨Z, _, rfl, .inl (.of upd_same), rfl, rfl, _, rfl, ?_⟩⟩
   have sZ := Same.new (o := .lst [.str "and", .str "or"]) hZ
   generalize upd H Z (.lst [.str "and", .str "or"]) = H1 at sZ ⊢
   rw [(if_neg (by decide)).trans h2]
   refine iteT ?_
   obtain ⟨y, g, hy, hg, dy⟩ := hsp 0 1 (by rw [e]; rfl)
   obtain ⟨y2, g2, hy2, hg2, dy2⟩ := hsp 1 2 (by rw [e]; rfl)
   rw [e] at sl
   have ei := two_of sl.symm hg hg2
   refine ⟨_, rfl, a, xs, _, _, rfl, rfl, sZ.seqT hq, atI_nat (j := 1) hy, _, rfl, a, xs, _, _, rfl, rfl, sZ.seqT hq, atI_nat (j := 2) hy2, by show 2 ≤ sizeLine; decide, fun D hD => ?_⟩
   have sD := Same.new (o := .lst [y, y2]) hD
   have kt : KTs K H (upd H1 D (.lst [y, y2])) := (sZ.trans sD).kts
   exact k D _ _ (sZ.free hD) (sZ.trans sD) upd_same (by rw [ei]; exact dats_cons (dat_stay kt _ _ g.noL dy) (dats_cons (dat_stay kt _ _ g2.noL dy2) dats_nil))
  ·rw [h1]
   refine iteF ?_
   refine ⟨_, rfl, a, xs, 0, .str f.word, rfl, rfl, hq, atI_nat (j := 0) h0, by show 2 ≤ sizeLine; decide, fun Z hZ => ⟨Z, _, rfl, .inl (.of upd_same), rfl, rfl, _, rfl, ?_⟩⟩
   have sZ := Same.new (o := .lst [.str "and", .str "or"]) hZ
   generalize upd H Z (.lst [.str "and", .str "or"]) = H1 at sZ ⊢
   rw [(if_neg (by decide)).trans h2]
   refine iteF ?_
   refine ⟨_, rfl, a, xs, 0, .str f.word, rfl, rfl, sZ.seqT hq, atI_nat (j := 0) h0, by show 2 ≤ sizeLine; decide, fun Z2 hZ2 => ⟨Z2, _, rfl, .inl (.of upd_same), rfl, rfl, _, rfl, ?_⟩⟩
   have sZ2 := sZ.trans (Same.new (o := .lst [.str "some", .str "each"]) hZ2)
   generalize upd H1 Z2 (.lst [.str "some", .str "each"]) = H2 at sZ2 ⊢
   rw [(if_neg (by decide)).trans h3]
   refine iteT ?_
   obtain ⟨y, g, hy, hg, dy⟩ := hsp 0 2 (by rw [e]; rfl)
   rw [e] at sl
   have ei := one_of sl.symm hg
   refine ⟨_, rfl, a, xs, _, _, rfl, rfl, sZ2.seqT hq, atI_nat (j := 2) hy, by show 1 ≤ sizeLine; decide, fun D hD => ?_⟩
   have sD := Same.new (o := .lst [y]) hD
   exact k D _ _ (sZ2.free hD) (sZ2.trans sD) upd_same (by rw [ei]; exact dats_cons (dat_stay (sZ2.trans sD).kts _ _ g.noL dy) dats_nil)
  ·rw [h1]
   refine iteF ?_
   refine ⟨_, rfl, a, xs, 0, .str f.word, rfl, rfl, hq, atI_nat (j := 0) h0, by show 2 ≤ sizeLine; decide, fun Z hZ => ⟨Z, _, rfl, .inl (.of upd_same), rfl, rfl, _, rfl, ?_⟩⟩
   have sZ := Same.new (o := .lst [.str "and", .str "or"]) hZ
   generalize upd H Z (.lst [.str "and", .str "or"]) = H1 at sZ ⊢
   rw [(if_neg (by decide)).trans h2]
   refine iteF ?_
   refine ⟨_, rfl, a, xs, 0, .str f.word, rfl, rfl, sZ.seqT hq, atI_nat (j := 0) h0, by show 2 ≤ sizeLine; decide, fun Z2 hZ2 => ⟨Z2, _, rfl, .inl (.of upd_same), rfl, rfl, _, rfl, ?_⟩⟩
   have sZ2 := sZ.trans (Same.new (o := .lst [.str "some", .str "each"]) hZ2)
   generalize upd H1 Z2 (.lst [.str "some", .str "each"]) = H2 at sZ2 ⊢
   rw [(if_neg (by decide)).trans h3]
   refine iteF ?_
   rw [e] at sl
   have ei : f.inner = [] := List.length_eq_zero_iff.mp sl.symm
   refine ⟨by decide, fun D hD => ?_⟩
   exact k D _ _ (sZ2.free hD) (sZ2.trans (Same.new hD)) upd_same (by rw [ei]; exact dats_nil)
theorem sc_l_terms : FnScope ["_law_saying_here"] ["_law_saying_here"] (defScope s_l_terms) := ⟨rfl, rfl, rfl, by decide +kernel, rfl, by decide +kernel, by decide +kernel⟩
theorem ok_l_terms {a : Adr} (T : Txt K mg a) : FnOk P w K mg base CX0 1 a.f_l_terms a.fd_l_terms ["_law_saying_here"] (spTerms K) := by
 refine T.F_l_terms.ok sc_l_terms (fun vs H Q E h => ?_) (fun cdv A outer s H vs Q E hr h => ?_)
 ·obtain ⟨x, f, rfl, _⟩ := h
  rfl
 ·obtain ⟨x, f, rfl, hf, k⟩ := h
  obtain ⟨a, xs, rfl, hq, h0, hsp, _⟩ := say_terms f hf
  refine ⟨_, (pss_cons (ps_if (pt_cmpR (op_inK K) (pe_ix (ix_tupK K) (pv 0) pe_int (fun _ _ => rfl)) (pe_lst (pa_cons pe_str (pa_cons pe_str pa_nil))) (by with_unfolding_all rfl))
   (pss_one (ps_ret (pe_lst (pa_cons (pe_ix (ix_tupK K) (pv 0) pe_int (fun _ _ => rfl)) (pa_cons (pe_ix (ix_tupK K) (pv 0) pe_int (fun _ _ => rfl)) pa_nil)))))
   pss_nil)
  (pss_cons (ps_if (pt_cmpR op_eq (pe_ix (ix_tupK K) (pv 0) pe_int (fun _ _ => rfl)) pe_str (nomark _))
   (pss_one (ps_ret (pe_lst (pa_cons (pe_ix (ix_tupK K) (pv 0) pe_int (fun _ _ => rfl)) pa_nil))))
   pss_nil)
  (pss_cons (ps_if (pt_cmpR op_eq (pe_ix (ix_tupK K) (pv 0) pe_int (fun _ _ => rfl)) pe_str (nomark _))
   (pss_one (ps_ret (pe_lst (pa_cons (pe_ix (ix_tupK K) (pv 0) pe_int (fun _ _ => rfl)) (pa_cons (pe_ix (ix_tupK K) (pv 0) pe_int (fun _ _ => rfl)) pa_nil)))))
   pss_nil)
  (pss_one (ps_ret (pe_lst pa_nil)))))), ?_⟩
  have sl := tspots_len f
  refine ⟨_, rfl, a, xs, 0, .str f.word, rfl, rfl, hq, atI_nat (j := 0) h0, by show 2 ≤ sizeLine; decide, fun Z hZ => ⟨Z, _, rfl, .inl (.of upd_same), rfl, rfl, _, rfl, ?_⟩⟩
  have sZ := Same.new (o := .lst [.str "same", .str "less"]) hZ
  generalize upd H Z (.lst [.str "same", .str "less"]) = H1 at sZ ⊢
  rcases terms_way f with ⟨h1, e⟩ | ⟨h1, h2, e⟩ | ⟨h1, h2, h3, e⟩ | ⟨h1, h2, h3, e⟩
  ·rw [(if_neg (by decide)).trans h1]
   refine iteT ?_
   obtain ⟨y, g, hy, hg, dy⟩ := hsp 0 1 (by rw [e]; rfl)
   obtain ⟨y2, g2, hy2, hg2, dy2⟩ := hsp 1 2 (by rw [e]; rfl)
   rw [e] at sl
   have ei := two_of sl.symm hg hg2
   refine ⟨_, rfl, a, xs, _, _, rfl, rfl, sZ.seqT hq, atI_nat (j := 1) hy, _, rfl, a, xs, _, _, rfl, rfl, sZ.seqT hq, atI_nat (j := 2) hy2, by show 2 ≤ sizeLine; decide, fun D hD => ?_⟩
   have sD := Same.new (o := .lst [y, y2]) hD
   have kt : KTs K H (upd H1 D (.lst [y, y2])) := (sZ.trans sD).kts
   exact k D _ _ (sZ.free hD) (sZ.trans sD) upd_same (by rw [ei]; exact dats_cons (dat_stay kt _ _ g.noL dy) (dats_cons (dat_stay kt _ _ g2.noL dy2) dats_nil))
  ·rw [(if_neg (by decide)).trans h1]
   refine iteF ?_
   refine ⟨_, rfl, a, xs, 0, .str f.word, rfl, rfl, sZ.seqT hq, atI_nat (j := 0) h0, rfl, _, rfl, ?_⟩
   rw [h2]
   refine iteT ?_
   obtain ⟨y, g, hy, hg, dy⟩ := hsp 0 2 (by rw [e]; rfl)
   rw [e] at sl
   have ei := one_of sl.symm hg
   refine ⟨_, rfl, a, xs, _, _, rfl, rfl, sZ.seqT hq, atI_nat (j := 2) hy, by show 1 ≤ sizeLine; decide, fun D hD => ?_⟩
   have sD := Same.new (o := .lst [y]) hD
   exact k D _ _ (sZ.free hD) (sZ.trans sD) upd_same (by rw [ei]; exact dats_cons (dat_stay (sZ.trans sD).kts _ _ g.noL dy) dats_nil)
  ·rw [(if_neg (by decide)).trans h1]
   refine iteF ?_
   refine ⟨_, rfl, a, xs, 0, .str f.word, rfl, rfl, sZ.seqT hq, atI_nat (j := 0) h0, rfl, _, rfl, ?_⟩
   rw [h2]
   refine iteF ?_
   refine ⟨_, rfl, a, xs, 0, .str f.word, rfl, rfl, sZ.seqT hq, atI_nat (j := 0) h0, rfl, _, rfl, ?_⟩
   rw [h3]
   refine iteT ?_
   obtain ⟨y, g, hy, hg, dy⟩ := hsp 0 2 (by rw [e]; rfl)
   obtain ⟨y2, g2, hy2, hg2, dy2⟩ := hsp 1 4 (by rw [e]; rfl)
   rw [e] at sl
   have ei := two_of sl.symm hg hg2
   refine ⟨_, rfl, a, xs, _, _, rfl, rfl, sZ.seqT hq, atI_nat (j := 2) hy, _, rfl, a, xs, _, _, rfl, rfl, sZ.seqT hq, atI_nat (j := 4) hy2, by show 2 ≤ sizeLine; decide, fun D hD => ?_⟩
   have sD := Same.new (o := .lst [y, y2]) hD
   have kt : KTs K H (upd H1 D (.lst [y, y2])) := (sZ.trans sD).kts
   exact k D _ _ (sZ.free hD) (sZ.trans sD) upd_same (by rw [ei]; exact dats_cons (dat_stay kt _ _ g.noL dy) (dats_cons (dat_stay kt _ _ g2.noL dy2) dats_nil))
  ·rw [(if_neg (by decide)).trans h1]
   refine iteF ?_
   refine ⟨_, rfl, a, xs, 0, .str f.word, rfl, rfl, sZ.seqT hq, atI_nat (j := 0) h0, rfl, _, rfl, ?_⟩
   rw [h2]
   refine iteF ?_
   refine ⟨_, rfl, a, xs, 0, .str f.word, rfl, rfl, sZ.seqT hq, atI_nat (j := 0) h0, rfl, _, rfl, ?_⟩
   rw [h3]
   refine iteF ?_
   rw [e] at sl
   have ei : f.terms = [] := List.length_eq_zero_iff.mp sl.symm
   refine ⟨by decide, fun D hD => ?_⟩
   exact k D _ _ (sZ.free hD) (sZ.trans (Same.new hD)) upd_same (by rw [ei]; exact dats_nil)
def spLFree (K : PySem.W.Frag) (n : Nat) : Sp := fun vs H Q _ => ∃ (x : V) (f : Say) (ss : List Str) (bd fo : Addr) (bs fs : List Str), vs = [x, .ref bd, .ref fo] ∧ DatAt K H x f.dt ∧ f.Over ss ∧ ss.length ≤ 10 ∧ H bd = some (.lst (bs.map V.str)) ∧ H fo = some (.lst (fs.map V.str)) ∧ bd ≠ fo ∧
 fs.Nodup ∧ (∀ y ∈ fs, y ∈ ss) ∧ bs.length + f.deep ≤ 1000 ∧ f.deep < n ∧
 ∀ (fs' : List Str) (H' : Hp), KB fo H H' → H' fo = some (.lst (fs'.map V.str)) → fs'.Nodup → (∀ y ∈ fs', y ∈ ss) → (∀ y, y ∈ fs' ↔ y ∈ fs ∨ (f.Free y ∧ y ∉ bs)) → Q .non H'
theorem allflat (l : List Str) : (l.map V.str).all flatV = true := by rw [List.all_map]; exact List.all_eq_true.mpr fun _ _ => rfl
theorem inner_bind {f : Say} {n : Str} (h : f.binds = some n) : f.terms = [] := by cases f <;> simp [Say.binds, Say.terms] at h ⊢
theorem sc_l_free : FnScope ["_law_saying_here", "_law_bound", "_law_found", "_law_number", "_law_parts", "_law_name", "_law_times", "_law_one"] ["_law_saying_here", "_law_bound", "_law_found"] (defScope s_l_free) := ⟨rfl, rfl, rfl, by decide +kernel, rfl, by decide +kernel, by decide +kernel⟩
theorem ok_l_free {a : Adr} (T : Txt K mg a) : ∀ n : Nat, FnOk P w K mg base CX0 (n + 2) a.f_l_free a.fd_l_free ["_law_saying_here", "_law_bound", "_law_found"] (spLFree K n)
 | 0 => FnOk.none fun vs H Q E h => by
  obtain ⟨x, f, ss, bd, fo, bs, fs, _, _, _, _, _, _, _, _, _, _, hlt, _⟩ := h
  omega
 | n + 1 => by
  have G_l_free := ok_l_free T n
  have G_l_terms := ok_l_terms (P := P) (w := w) (base := base) T
  have G_l_inner := ok_l_inner (P := P) (w := w) (base := base) T
  refine T.F_l_free.ok sc_l_free (fun vs H Q E h => ?_) (fun cdv A outer s H vs Q E hr h => ?_)
  ·obtain ⟨x, f, ss, bd, fo, bs, fs, rfl, _⟩ := h
   rfl
  ·obtain ⟨x, f, ss, bd, fo, bs, fs, rfl, hf, ov, hss, eb, ef, nbf, nd, sub, lb, hlt, k⟩ := h
   have hr_l_terms : Room 1 _ := hr.mono (by omega)
   have hr_l_inner : Room 1 _ := hr.mono (by omega)
   have hr_l_free : Room (n + 2) _ := hr
   refine ⟨_, (pss_cons (ps_for PassesOwn.never rfl (pi_list (pe_call G_l_terms hr_l_terms rfl T.m_l_terms T.k_l_terms T.b_l_terms .nil pass0 (pa_cons (pv 0) pa_nil))) (pg_tup rfl (pgs_cons (pg_name (i := 3) sc_l_free.nd rfl (Or.inl rfl)) (pgs_cons (pg_name (i := 4) sc_l_free.nd rfl (Or.inl rfl)) pgs_nil)))
    (pss_one (ps_for PassesOwn.never rfl (pi_tup (pv 4)) (pg_tup rfl (pgs_cons (pg_name (i := 5) sc_l_free.nd rfl (Or.inl rfl)) (pgs_cons (pg_name (i := 6) sc_l_free.nd rfl (Or.inl rfl)) pgs_nil)))
     (pss_one (ps_if (PW.pt (pw_and (pt_cmpR (op_notInK K) (pv 5) (pv 1) (by with_unfolding_all rfl)) (pw_and1 (pt_cmpR (op_notInK K) (pv 5) (pv 2) (by with_unfolding_all rfl)))))
      (pss_one (ps_expr (pe_bm PySem.F.plainAttrs_list PySem.F.slot_list_append PySem.F.type_list_append mt_append (pv 2) (pa_cons (pv 5) pa_nil))))
      pss_nil)))))
   (pss_cons (ps_if (pt_cmpR (op_inK K) (pe_ix (ix_tupK K) (pv 0) pe_int (fun _ _ => rfl)) (pe_lst (pa_cons pe_str (pa_cons pe_str pa_nil))) (by with_unfolding_all rfl))
    (pss_one (ps_set (i := 1) sc_l_free.nd rfl (Or.inl rfl) (pe_op op_cat (pv 1) (pe_lst (pa_cons (pe_ix (ix_tupK K) (pv 0) pe_int (fun _ _ => rfl)) pa_nil)))))
    pss_nil)
   (pss_one (ps_for PassesOwn.never rfl (pi_list (pe_call G_l_inner hr_l_inner rfl T.m_l_inner T.k_l_inner T.b_l_inner .nil pass0 (pa_cons (pv 0) pa_nil))) (pg_name (i := 7) sc_l_free.nd rfl (Or.inl rfl))
    (pss_one (ps_expr (pe_call G_l_free hr_l_free rfl T.m_l_free T.k_l_free T.b_l_free .nil pass0 (pa_cons (pv 7) (pa_cons (pv 1) (pa_cons (pv 2) pa_nil)))))))))), ?_⟩
   refine ⟨_, rfl, x, f, rfl, hf, fun L xs H1 hL s1 eL dts => ?_⟩
   have ef1 := s1 _ _ ef
   have eb1 := s1 _ _ eb
   have nLf : L ≠ fo := (ne_of_none ef hL).symm
   have lx : xs.length = f.terms.length := by rw [dts.length, List.length_map]
   refine ⟨L, rfl, ⟨_, .of eL⟩, for_list (xs := xs) (fun i σ H' => ∃ (fs' : List Str) (v3 v4 v5 v6 : Option V), σ = [some x, some (.ref bd), some (.ref fo), v3, v4, v5, v6, none] ∧ KB fo H1 H' ∧ H' fo = some (.lst (fs'.map V.str)) ∧ fs'.Nodup ∧ (∀ y ∈ fs', y ∈ ss) ∧ ∀ y, y ∈ fs' ↔ y ∈ fs ∨ ((∃ t ∈ f.terms.take i, y ∈ tnm t) ∧ y ∉ bs))
    ⟨fs, none, none, none, none, rfl, KB.refl _ _, ef1, nd, sub, fun y => by simp⟩ (fun i σ H' _ ⟨_, _, _, _, _, _, h, _⟩ => .of (h _ _ eL nLf)) ?_ ?_⟩
   ·rintro i y0 σ H2 hy ⟨fs', v3, v4, v5, v6, rfl, k2, ef2, nd2, sub2, mem2⟩
    obtain ⟨d0, ed0, hd0⟩ := dts.get hy
    rw [List.getElem?_map] at ed0
    cases et : f.terms[i]? with
    | none => rw [et] at ed0; cases ed0
    | some t =>
     rw [et] at ed0
     have ed0' : t.dt = d0 := Option.some.inj ed0
     subst ed0'
     have tov := over_terms ov t (List.mem_of_getElem? et)
     have ks2 : KTs K H1 H2 := KB.kts ef1 k2
     obtain ⟨ta, pa, ys, rfl, q1, q2, q3⟩ := term_at (dat_stay ks2 _ _ t.noL hd0)
     have ly : ys.length = t.parts.length := by rw [q3.length, List.length_map]
     refine ⟨ta, _, rfl, q1, rfl, _, _, rfl, _, _, rfl, rfl, ?_⟩
     refine ⟨_, rfl, pa, rfl, ⟨_, q2⟩, for_tup (xs := ys) (fun j σ H' => ∃ (fs2 : List Str) (v5 v6 : Option V), σ = [some x, some (.ref bd), some (.ref fo), some (.int t.num), some (.ref pa), v5, v6, none] ∧ KB fo H2 H' ∧ H' fo = some (.lst (fs2.map V.str)) ∧ fs2.Nodup ∧ (∀ y ∈ fs2, y ∈ ss) ∧ ∀ y, y ∈ fs2 ↔ y ∈ fs' ∨ (y ∈ (tnm t).take j ∧ y ∉ bs))
      ⟨fs', _, _, rfl, KB.refl _ _, ef2, nd2, sub2, fun y => by simp⟩ (fun j σ H' _ ⟨_, _, _, _, h, _⟩ => (KB.kts ef2 h) _ _ q2) ?_ ?_⟩
     ·rintro j y1 σ H3 hy1 ⟨fs2, v5, v6, rfl, k3, ef3, nd3, sub3, mem3⟩
      obtain ⟨d1, ed1, hd1⟩ := q3.get hy1
      rw [List.getElem?_map] at ed1
      cases ep : t.parts[j]? with
      | none => rw [ep] at ed1; cases ed1
      | some pp =>
       rw [ep] at ed1
       have ed1' : partDt pp = d1 := Option.some.inj ed1
       subst ed1'
       have ks3 : KTs K H2 H3 := KB.kts ef2 k3
       obtain ⟨qa, rfl, hqa⟩ := part_one hd1
       have tk : (tnm t).take (j + 1) = (tnm t).take j ++ [pp.1] := take_snoc (by rw [tnm, List.getElem?_map, ep]; rfl)
       have pin : pp.1 ∈ ss := tov.2 pp (List.mem_of_getElem? ep)
       have eb3 : H3 bd = some (.lst (bs.map V.str)) := k3 _ _ (k2 _ _ eb1 nbf) nbf
       refine ⟨qa, _, rfl, ks3 _ _ hqa, rfl, _, _, rfl, _, _, rfl, rfl, ?_⟩
       refine ⟨_, rfl, _, rfl, bd, _, rfl, .inl (.of eb3), rfl, allflat bs, _, rfl, ?_⟩
       rw [if_pos rfl, inV_strs]
       have no : (pp.1 ∈ bs ∨ pp.1 ∈ fs2) → ∀ y, y ∈ fs2 ↔ y ∈ fs' ∨ (y ∈ (tnm t).take (j + 1) ∧ y ∉ bs) := fun hh y => by
        rw [tk, List.mem_append, List.mem_singleton, mem3 y]
        constructor
        ·rintro (z | ⟨z1, z2⟩)
         ·exact .inl z
         ·exact .inr ⟨.inl z1, z2⟩
        ·rintro (z | ⟨z1 | z1, z2⟩)
         ·exact .inl z
         ·exact .inr ⟨z1, z2⟩
         ·rw [z1] at z2 ⊢
          rcases hh with q | q
          ·exact absurd q z2
          ·exact (mem3 _).mp q
       refine ite2 (fun hb => ?_) (fun hb => iteF ⟨fs2, _, _, rfl, k3, ef3, nd3, sub3, no (.inl (by simpa using hb))⟩)
       have nb : pp.1 ∉ bs := by simpa using hb
       refine ⟨_, rfl, _, rfl, fo, _, rfl, .inl (.of ef3), rfl, allflat fs2, _, rfl, ?_⟩
       rw [if_pos rfl, inV_strs]
       refine ite2 (fun hf2 => ?_) (fun hf2 => ⟨fs2, _, _, rfl, k3, ef3, nd3, sub3, no (.inr (by simpa using hf2))⟩)
       have nf : pp.1 ∉ fs2 := by simpa using hf2
       have lf := nodup_len nd3 sub3
       refine ⟨_, rfl, .inl ⟨rfl, _, .of ef3⟩, _, rfl, fo, _, _, rfl, rfl, ef3, ?_, fs2 ++ [pp.1], _, _, rfl, k3.trans KB.write, by rw [upd_same, List.map_append]; rfl, ?_, ?_, fun y => ?_⟩
       ·rw [List.length_map]; exact Nat.lt_of_le_of_lt (show fs2.length ≤ 10 by omega) (by decide)
       ·exact List.nodup_append.mpr ⟨nd3, by simp, fun u hu z hz => by rw [List.mem_singleton.mp hz]; exact fun e => nf (e ▸ hu)⟩
       ·intro y hy'
        rcases List.mem_append.mp hy' with z | z
        ·exact sub3 y z
        ·rw [List.mem_singleton.mp z]; exact pin
       ·rw [tk, List.mem_append, List.mem_append, List.mem_singleton, mem3 y]
        constructor
        ·rintro ((z | ⟨z1, z2⟩) | z)
         ·exact .inl z
         ·exact .inr ⟨.inl z1, z2⟩
         ·exact .inr ⟨.inr z, by rw [z]; exact nb⟩
        ·rintro (z | ⟨z1 | z1, z2⟩)
         ·exact .inl (.inl z)
         ·exact .inl (.inr ⟨z1, z2⟩)
         ·exact .inr z1
     ·rintro σ H3 ⟨fs2, v5, v6, rfl, k3, ef3, nd3, sub3, mem3⟩
      have lt' : (tnm t).take ys.length = tnm t := List.take_of_length_le (by rw [tnm, List.length_map, ly]; exact Nat.le_refl _)
      rw [lt'] at mem3
      refine ⟨fs2, _, _, _, _, rfl, k2.trans k3, ef3, nd3, sub3, fun y => ?_⟩
      rw [mem3 y, mem2 y, take_snoc et]
      constructor
      ·rintro ((z | ⟨⟨u, hu, hy'⟩, z2⟩) | ⟨z1, z2⟩)
       ·exact .inl z
       ·exact .inr ⟨⟨u, List.mem_append.mpr (.inl hu), hy'⟩, z2⟩
       ·exact .inr ⟨⟨t, List.mem_append.mpr (.inr (by simp)), z1⟩, z2⟩
      ·rintro (z | ⟨⟨u, hu, hy'⟩, z2⟩)
       ·exact .inl (.inl z)
       ·rcases List.mem_append.mp hu with q | q
        ·exact .inl (.inr ⟨⟨u, q, hy'⟩, z2⟩)
        ·rw [List.mem_singleton.mp q] at hy'
         exact .inr ⟨hy', z2⟩
   rintro σ H2 ⟨fs1, v3, v4, v5, v6, rfl, k2, ef2, nd2, sub2, mem2⟩
   rw [lx, List.take_length] at mem2
   have kA : KB fo H H2 := s1.kb.trans k2
   have ksA : KTs K H H2 := KB.kts ef kA
   have eb2 := kA _ _ eb nbf
   obtain ⟨a', xs', exr, hq, h0, _, hbd⟩ := say_terms f (dat_stay ksA _ _ f.noL hf)
   subst exr
   dsimp only [gName]
   refine seq_rest (t := tIfS _ _ _) (u := tFor _ _ _) (fun σ H' => ∃ (B : Addr) (bs' : List Str), σ = [some (.ref a'), some (.ref B), some (.ref fo), v3, v4, v5, v6, none] ∧ KB fo H H' ∧ H' B = some (.lst (bs'.map V.str)) ∧ B ≠ fo ∧ H' fo = some (.lst (fs1.map V.str)) ∧ (∀ y, y ∈ bs' ↔ y ∈ bs ∨ f.binds = some y) ∧ bs'.length ≤ bs.length + 1) ?re (fun rest => ?ifp)
   case ifp =>
    refine ⟨_, rfl, a', xs', 0, .str f.word, rfl, rfl, hq, atI_nat (j := 0) h0, by show 2 ≤ sizeLine; decide, fun Z hZ => ⟨Z, _, rfl, .inl (.of upd_same), rfl, rfl, _, rfl, ?_⟩⟩
    have sZ := Same.new (o := .lst [.str "some", .str "each"]) hZ
    have eb3 := sZ _ _ eb2
    have ef3 := sZ _ _ ef2
    have k3 := kA.trans sZ.kb
    have hq3 := sZ.seqT hq
    generalize upd H2 Z (.lst [.str "some", .str "each"]) = H3 at eb3 ef3 k3 hq3 ⊢
    rw [(if_neg (by decide)).trans (word_binds f)]
    cases ebn : f.binds with
    | none => exact iteF (rest _ _ ⟨bd, bs, rfl, k3, eb3, nbf, ef3, fun y => by rw [ebn]; simp, Nat.le_succ _⟩)
    | some m =>
     refine iteT ?_
     refine ⟨_, rfl, _, rfl, a', xs', 1, .str m, rfl, rfl, hq3, atI_nat (j := 1) (hbd m ebn), by show 1 ≤ sizeLine; decide, fun O hO => ?_⟩
     have sO := Same.new (o := .lst [.str m]) hO
     refine ⟨bd, O, _, _, rfl, rfl, sO _ _ eb3, upd_same, ?_, fun B hB => ?_⟩
     ·rw [List.length_map]; exact Nat.le_trans (show _ ≤ 2000 by simp; omega) (by decide)
     have sB := Same.new (o := .lst (bs.map V.str ++ [.str m])) hB
     refine rest _ _ ⟨B, bs ++ [m], rfl, (k3.trans sO.kb).trans sB.kb, by rw [upd_same, List.map_append]; rfl, (ne_of_none (sO _ _ ef3) hB).symm, sB _ _ (sO _ _ ef3), fun y => ?_, by rw [List.length_append]; exact Nat.le_refl _⟩
     rw [List.mem_append, List.mem_singleton, ebn]
     constructor
     ·rintro (z | z)
      ·exact .inl z
      ·exact .inr (by rw [z])
     ·rintro (z | z)
      ·exact .inl z
      ·exact .inr (Option.some.inj z).symm
   rintro σ H3 ⟨B, bs', rfl, k3, eB, nBf, ef3, memb, lb'⟩
   have ks3 : KTs K H H3 := KB.kts ef k3
   have hf3 := dat_stay ks3 _ _ f.noL hf
   refine ⟨_, rfl, _, f, rfl, hf3, fun L2 xs2 H4 hL2 s4 eL2 dts2 => ?_⟩
   have ef4 := s4 _ _ ef3
   have eB4 := s4 _ _ eB
   have nL2f : L2 ≠ fo := (ne_of_none ef3 hL2).symm
   have lx2 : xs2.length = f.inner.length := by rw [dts2.length, List.length_map]
   have k4 := k3.trans s4.kb
   refine ⟨L2, rfl, ⟨_, .of eL2⟩, for_list (xs := xs2) (fun i σ H' => ∃ (fs' : List Str) (v7 : Option V), σ = [some (.ref a'), some (.ref B), some (.ref fo), v3, v4, v5, v6, v7] ∧ KB fo H4 H' ∧ H' fo = some (.lst (fs'.map V.str)) ∧ fs'.Nodup ∧ (∀ y ∈ fs', y ∈ ss) ∧ ∀ y, y ∈ fs' ↔ y ∈ fs1 ∨ ((∃ g ∈ f.inner.take i, g.Free y) ∧ y ∉ bs'))
    ⟨fs1, none, rfl, KB.refl _ _, ef4, nd2, sub2, fun y => by simp⟩ (fun i σ H' _ ⟨_, _, _, h, _⟩ => .of (h _ _ eL2 nL2f)) ?_ ?_⟩
   ·rintro i y0 σ H5 hy ⟨fs', v7, rfl, k5, ef5, nd5, sub5, mem5⟩
    obtain ⟨d0, ed0, hd0⟩ := dts2.get hy
    rw [List.getElem?_map] at ed0
    cases et : f.inner[i]? with
    | none => rw [et] at ed0; cases ed0
    | some g =>
     rw [et] at ed0
     have ed0' : g.dt = d0 := Option.some.inj ed0
     subst ed0'
     have gin := List.mem_of_getElem? et
     have gd := inner_deep f g gin
     have ks5 : KTs K H4 H5 := KB.kts ef4 k5
     refine ⟨_, rfl, _, rfl, _, rfl, y0, g, ss, B, fo, bs', fs', rfl, dat_stay ks5 _ _ g.noL hd0, over_inner ov g gin, hss, k5 _ _ eB4 nBf, ef5, nBf, nd5, sub5, by omega, by omega, fun fs2 H6 k6 ef6 nd6 sub6 mem6 => ?_⟩
     refine ⟨fs2, _, rfl, k5.trans k6, ef6, nd6, sub6, fun y => ?_⟩
     rw [mem6 y, mem5 y, take_snoc et]
     constructor
     ·rintro ((z | ⟨⟨u, hu, hy'⟩, z2⟩) | ⟨z1, z2⟩)
      ·exact .inl z
      ·exact .inr ⟨⟨u, List.mem_append.mpr (.inl hu), hy'⟩, z2⟩
      ·exact .inr ⟨⟨g, List.mem_append.mpr (.inr (by simp)), z1⟩, z2⟩
     ·rintro (z | ⟨⟨u, hu, hy'⟩, z2⟩)
      ·exact .inl (.inl z)
      ·rcases List.mem_append.mp hu with q | q
       ·exact .inl (.inr ⟨⟨u, q, hy'⟩, z2⟩)
       ·rw [List.mem_singleton.mp q] at hy'
        exact .inr ⟨hy', z2⟩
   ·rintro σ H5 ⟨fs', v7, rfl, k5, ef5, nd5, sub5, mem5⟩
    rw [lx2, List.take_length] at mem5
    refine k fs' H5 (k4.trans k5) ef5 nd5 sub5 fun y => ?_
    rw [mem5 y, mem2 y, memb y, free_iff]
    have tn : (∃ t ∈ f.terms, y ∈ tnm t) ↔ y ∈ f.tnames := by rw [Say.tnames, List.mem_flatMap]
    rw [tn]
    constructor
    ·rintro ((z | ⟨z1, z2⟩) | ⟨z1, z2⟩)
     ·exact .inl z
     ·refine .inr ⟨⟨.inl z1, fun e => ?_⟩, z2⟩
      rw [Say.tnames, inner_bind e] at z1
      simp at z1
     ·exact .inr ⟨⟨.inr z1, fun e => z2 (.inr e)⟩, fun e => z2 (.inl e)⟩
    ·rintro (z | ⟨⟨z1 | z1, z2⟩, z3⟩)
     ·exact .inl (.inl z)
     ·exact .inl (.inr ⟨z1, z3⟩)
     ·exact .inr ⟨z1, fun e => e.elim z3 z2⟩
structure AdrX where
 D : Addr
 c1 : Addr
 c2 : Addr
 c3 : Addr
 c4 : Addr
 f1 : Addr
 f2 : Addr
 f3 : Addr
 f4 : Addr
 fd1 : FuncData
 fd2 : FuncData
 fd3 : FuncData
 fd4 : FuncData
abbrev s_i1 : Stmt := inClass (top 2) 0
abbrev s_i2 : Stmt := inClass (top 3) 0
abbrev s_i3 : Stmt := inClass (top 4) 0
abbrev s_i4 : Stmt := inClass (top 5) 0
structure TX (K : PySem.W.Frag) (mg : Str → Option Value) (x : AdrX) : Prop where
 xD : XC K x.D veM
 iD : XI K x.D
 mD : mg "JudgeError" = some (.ref x.D)
 zV : mg "ValueError" = none
 x1 : XC K x.c1 (.ref x.D :: veM)
 x2 : XC K x.c2 (.ref x.D :: veM)
 x3 : XC K x.c3 (.ref x.D :: veM)
 x4 : XC K x.c4 (.ref x.D :: veM)
 M1 : XM K x.c1 x.f1
 M2 : XM K x.c2 x.f2
 M3 : XM K x.c3 x.f3
 M4 : XM K x.c4 x.f4
 m1 : mg "NoRow" = some (.ref x.c1)
 m2 : mg "NoSaying" = some (.ref x.c2)
 m3 : mg "TooMany" = some (.ref x.c3)
 m4 : mg "NoText" = some (.ref x.c4)
 F1 : Fun K "__init__" "NoRow.__init__" s_i1 x.f1 x.fd1
 F2 : Fun K "__init__" "NoSaying.__init__" s_i2 x.f2 x.fd2
 F3 : Fun K "__init__" "TooMany.__init__" s_i3 x.f3 x.fd3
 F4 : Fun K "__init__" "NoText.__init__" s_i4 x.f4 x.fd4
 b1 : Binds K x.fd1 ["self", "name"] []
 b2 : Binds K x.fd2 ["self", "place"] []
 b3 : Binds K x.fd3 ["self", "place"] []
 b4 : Binds K x.fd4 ["self"] []
 n1 : PySem.W.findIn K (.ref x.c1) "name" = some none
 n2 : PySem.W.findIn K (.ref x.c2) "place" = some none
 n3 : PySem.W.findIn K (.ref x.c3) "place" = some none
 ne : [x.c1, x.c2, x.c3, x.c4, x.D].Nodup
 kin : ∃ h : Heap, K.In h
def spInit (K : PySem.W.Frag) (n : Str) : Sp := fun vs H Q _ => ∃ (a C : Addr) (bm : List Value) (v : V), vs = [.ref a, v] ∧ H a = some (xo true a C none) ∧ XC K C bm ∧ PySem.W.findIn K (.ref C) n = some none ∧ okFmt K v H ∧
 ∀ dx, H dx = none → dx ≠ a → Q .non (upd (upd H a (xo true a C (some dx))) dx (.xd [(n, v)]))
theorem sc_i2 : FnScope ["self", "place"] ["self", "place"] (defScope s_i2) := ⟨rfl, rfl, rfl, by decide +kernel, rfl, by decide +kernel, by decide +kernel⟩
theorem ok_i2 {x : AdrX} (T : TX K mg x) : FnOk P w K mg base CX0 1 x.f2 x.fd2 ["self", "place"] (spInit K "place") := by
 refine T.F2.ok (k := 0) sc_i2 (fun vs H Q E h => ?_) (fun cdv A outer s H vs Q E hr h => ?_)
 ·obtain ⟨a, C, bm, v, rfl, _⟩ := h
  rfl
 ·obtain ⟨a, C, bm, v, rfl, Ha, c, hn, ok, k⟩ := h
  refine ⟨_, (pss_cons (ps_expr (pe_xi T.iD (by rfl) T.mD (pa_cons (pv 0) (pa_cons (pe_fmt3 (pv 1) hr (by decide) (by decide)) pa_nil))))
   (pss_one (ps_xf (pv 0) (pv 1) rfl))), ?_⟩
  exact ⟨_, rfl, _, rfl, ok, fun z => ⟨a, C, none, bm, [.str z], rfl, by simp, Ha, c, _, rfl, _, rfl, a, C, bm, rfl, Ha, c, hn, k⟩⟩
def Say.rspots : Say → List Nat
 | .sign _ _ _ => [1] | .alike _ _ _ _ => [1, 3] | _ => []
structure RAdr where
 d : Addr
 si : Addr
 al : Addr
def rowTab (b : RAdr) : List (Str × Option V) :=
 [("sign", some (.ref b.si)), ("alike", some (.ref b.al)), ("same", none), ("less", none), ("not", none), ("and", none), ("or", none), ("some", none), ("each", none)]
structure TopsR (K : PySem.W.Frag) (pr : Params) (mg : Str → Option Value) (b : RAdr) : Prop where
 m_ROW : mg "ROW_SPOTS" = some (.ref b.d)
 D_ROW : TopDict K pr b.d (rowTab b)
 si : ∀ H, SqT K H b.si [.int 1]
 al : ∀ H, SqT K H b.al [.int 1, .int 3]
 m_MOST : ∃ t, mg "MOST_FREE" = some (.int 3 t)
theorem TopsR.spots {K : PySem.W.Frag} {pr : Params} {mg : Str → Option Value} {b : RAdr} (U : TopsR K pr mg b) (f : Say) (H : Hp) (e : Addr) (he : SqT K H e []) :
  ∃ r p, (f.word, r) ∈ rowTab b ∧ r.getD (.ref e) = .ref p ∧ SqT K H p (f.rspots.map fun (n : Nat) => V.int (n : Int)) := by
 cases f with
 | sign a t s => exact ⟨some (.ref b.si), b.si, by simp [rowTab, Say.word], rfl, U.si H⟩
 | alike a t c u => exact ⟨some (.ref b.al), b.al, by simp [rowTab, Say.word], rfl, U.al H⟩
 | _ => exact ⟨none, e, by simp [rowTab, Say.word], rfl, he⟩
theorem rspots_len (f : Say) : f.rspots.length = f.rowsOf.length := by cases f <;> rfl
theorem rows_small (f : Say) : f.rowsOf.length ≤ 2 := by cases f <;> simp [Say.rowsOf]
theorem say_rows {K : PySem.W.Frag} {H : Hp} {x : V} (f : Say) (h : DatAt K H x f.dt) : ∃ a xs, x = .ref a ∧ SqT K H a xs ∧ xs[0]? = some (.str f.word) ∧
  ∀ (i n : Nat), f.rspots[i]? = some n → ∃ y, xs[n]? = some (.str y) ∧ f.rowsOf[i]? = some y := by
 obtain ⟨ds, e⟩ := f.isTup
 have h' := h
 rw [e] at h'
 obtain ⟨a, xs, rfl, hq, hd⟩ := dat_tup_inv h'
 obtain ⟨y0, ys, rfl, h0, hd1⟩ := dats_inv hd
 clear hd
 refine ⟨a, _, rfl, hq, by rw [DatAt] at h0; rw [h0]; rfl, ?_⟩
 cases f with
 | sign b t s =>
  cases e
  obtain ⟨y1, ys, rfl, h1, _⟩ := dats_inv hd1
  rw [DatAt] at h1
  subst h1
  intro i n z
  match i, z with
  | 0, z => cases z; exact ⟨b, rfl, rfl⟩
  | i + 1, z => simp [Say.rspots] at z
 | alike b t c u =>
  cases e
  obtain ⟨y1, ys, rfl, h1, hd2⟩ := dats_inv hd1
  obtain ⟨y2, ys, rfl, h2, hd3⟩ := dats_inv hd2
  obtain ⟨y3, ys, rfl, h3, hd4⟩ := dats_inv hd3
  rw [DatAt] at h1 h3
  subst h1 h3
  intro i n z
  match i, z with
  | 0, z => cases z; exact ⟨b, rfl, rfl⟩
  | 1, z => cases z; exact ⟨c, rfl, rfl⟩
  | i + 2, z => simp [Say.rspots] at z
 | _ => intro i n z; simp [Say.rspots] at z
def spRowsOf (K : PySem.W.Frag) : Sp := fun vs H Q _ => ∃ (x : V) (f : Say), vs = [x] ∧ DatAt K H x f.dt ∧ ∀ (D : Addr) (H' : Hp), H D = none → Same H H' → H' D = some (.lst (f.rowsOf.map V.str)) → Q (.ref D) H'
theorem sc_row_names : FnScope ["saying"] ["saying"] (defScope s_row_names) := ⟨rfl, rfl, rfl, by decide +kernel, rfl, by decide +kernel, by decide +kernel⟩
theorem ok_row_names {a : Adr} {b : RAdr} (T : Txt K mg a) (U : TopsR K w.params mg b) : FnOk P w K mg base CX0 1 a.f_row_names a.fd_row_names ["saying"] (spRowsOf K) := by
 refine T.F_row_names.ok sc_row_names (fun vs H Q E h => ?_) (fun cdv A outer s H vs Q E hr h => ?_)
 ·obtain ⟨x, f, rfl, _⟩ := h
  rfl
 ·obtain ⟨x, f, rfl, hf, k⟩ := h
  obtain ⟨a, xs, rfl, hq, h0, hsp⟩ := say_rows f hf
  refine ⟨_, (pss_one (ps_ret (pe_comp (CompScope.mk' (esc := defScope s_row_names) (N := ["saying"]) (own := ["spot"]) (frn := ["saying"]) (frj := [0]) rfl rfl (by decide +kernel)) rfl (pi_tup (pe_topget U.D_ROW rfl U.m_ROW (pe_ix (ix_tupK K) (pv 0) pe_int (fun _ _ => rfl)) (pe_tup pa_nil))) (fun _ _ _ _ => (pg_name (i := 0) (show List.Nodup (["spot", "saying"] : List Str) by decide +kernel) rfl (Or.inl rfl))) (fun _ _ _ _ => pifs_nil) (fun _ _ _ _ => (pe_ix (ix_tupK K) (pv 1) (pv 0) (fun _ _ => rfl)))))), ?_⟩
  refine ⟨_, rfl, a, xs, 0, .str f.word, rfl, rfl, hq, atI_nat (j := 0) h0, by decide, fun e he => ?_⟩
  have s1 := Same.new (o := .tup []) he
  obtain ⟨r, p, hr1, hr2, hr3⟩ := U.spots f (upd H e (.tup [])) e (.of upd_same)
  refine ⟨f.word, r, rfl, hr1, p, hr2, ⟨_, hr3⟩, fun C hC => ?_⟩
  refine comp_tup (xs := f.rspots.map fun (n : Nat) => V.int (n : Int)) (fun i σ H' => ∃ (v : Option V), σ = [v, some (.ref a)] ∧ Same (upd H e (.tup [])) H' ∧ H' C = some (.lst ((f.rowsOf.take i).map V.str)))
   ⟨none, rfl, Same.new hC, upd_same⟩ (fun i σ H' _ ⟨_, _, h, _⟩ => h.seqT hr3) ?_ ?_
  ·rintro i y σ H1 hy ⟨v, rfl, s2, e2⟩
   rw [List.getElem?_map] at hy
   cases en : f.rspots[i]? with
   | none => rw [en] at hy; cases hy
   | some n =>
    rw [en] at hy
    have ey : y = .int (n : Int) := (Option.some.inj hy).symm
    subst ey
    obtain ⟨z, hz, hg⟩ := hsp i n en
    have kt : KTs K H H1 := (s1.trans s2).kts
    refine ⟨_, rfl, _, rfl, a, xs, _, .str z, rfl, rfl, kt _ _ hq, atI_nat hz, _, e2, ?_, _, rfl, s2.kbn hC KB.write, ?_⟩
    ·have h2 := rows_small f
     rw [List.length_map, List.length_take]
     exact Nat.lt_of_le_of_lt (show min i f.rowsOf.length ≤ 2 by omega) (by decide)
    ·rw [upd_same, take_snoc hg, List.map_append]; rfl
  ·rintro σ H1 ⟨v, rfl, s2, e2⟩
   rw [List.length_map, rspots_len, List.take_length] at e2
   exact k C H1 (s1.free hC) (s1.trans s2) e2
def WorldR (H : Hp) (wa : Addr) (R : List Str) : Prop := ∃ (bv : V) (d : Addr) (kvs : List (Key × V)), H wa = some (.tup [bv, .ref d]) ∧ H d = some (.dK kvs) ∧ ∀ x, (valV kvs (Sum.inr x)).isSome = decide (x ∈ R)
theorem WorldR.same {H H' : Hp} {wa : Addr} {R : List Str} (h : WorldR H wa R) (s : Same H H') : WorldR H' wa R := let ⟨bv, d, kvs, a, b, c⟩ := h; ⟨bv, d, kvs, s _ _ a, s _ _ b, c⟩
theorem WorldR.kb {H H' : Hp} {wa d : Addr} {R : List Str} (h : WorldR H wa R) (s : KB d H H') (hd : ∃ xs, H d = some (.lst xs)) : WorldR H' wa R := by
 obtain ⟨bv, e, kvs, a, b, c⟩ := h
 obtain ⟨xs, ex⟩ := hd
 exact ⟨bv, e, kvs, s _ _ a (ne_of a ex (fun z => nomatch z)), s _ _ b (ne_of b ex (fun z => nomatch z)), c⟩
theorem find_at {α : Type} {p : α → Bool} {e : α} : ∀ {es : List α} {i : Nat}, (∀ x ∈ es.take i, p x = false) → es[i]? = some e → p e = true → es.find? p = some e
 | [], i, _, h, _ => by simp at h
 | x :: es, 0, _, h, hp => by
  simp at h
  subst h
  rw [List.find?_cons_of_pos hp]
 | x :: es, i + 1, ha, h, hp => by
  have hx : p x = false := ha x (by simp)
  rw [List.find?_cons_of_neg (by rw [hx]; decide)]
  exact find_at (es := es) (i := i) (fun y hy => ha y (by simp [hy])) (by simpa using h) hp
theorem find_no {α : Type} {p : α → Bool} {es : List α} (h : ∀ x ∈ es, p x = false) : es.find? p = none := List.find?_eq_none.mpr fun x hx => by rw [h x hx]; decide
theorem at_bits : ∀ (ns : List Nat) (f g : Say), f.at ns = some g → ∀ n ∈ ns, n = 0 ∨ n = 1
 | [], _, _, _, n, h => by cases h
 | m :: ns, f, g, e, n, h => by
  have e' : (f.inner[m]?).bind (fun g => g.at ns) = some g := e
  obtain ⟨u, eu, ea⟩ := Option.bind_eq_some_iff.mp e'
  rcases List.mem_cons.mp h with z | z
  ·have h1 := (List.getElem?_eq_some_iff.mp eu).1
   have h2 := inner_small f
   omega
  ·exact at_bits ns u g ea n z
def spLookS (K : PySem.W.Frag) (c2 : Addr) : Sp := fun vs H Q E => ∃ (wa : Addr) (x : V) (R : List Str) (f : Say) (ss : List Str), vs = [.ref wa, x] ∧ WorldR H wa R ∧ DatAt K H x f.dt ∧ f.deep ≤ 15 ∧ f.Over ss ∧ ss.length ≤ 10 ∧
 (firstAt R f [] = none → ∀ H', Same H H' → Q .non H') ∧
 (∀ ns, firstAt R f [] = some ns → ∀ H' a dx pl, Same H H' → H' a = some (xo false a c2 (some dx)) → H' dx = some (.xd [("place", .ref pl)]) → H' pl = some (.tup (natsV ns)) → E (.ref a) (some dx) H')
theorem same_xnew {H : Hp} {x dx : Addr} {o1 o2 o3 o4 : HO} (hx : H x = none) (hdx : upd H x o1 dx = none) : Same H (upd (upd (upd (upd H x o1) x o2) dx o3) x o4) := fun b o e => by
 have n1 : b ≠ x := ne_of_none e hx
 have n2 : b ≠ dx := fun z => by rw [← z, upd_ne n1, e] at hdx; cases hdx
 rw [upd_ne n1, upd_ne n2, upd_ne n1, upd_ne n1]
 exact e
theorem sc_look_saying : FnScope ["world", "saying", "rows", "names", "place", "part", "missing"] ["world", "saying"] (defScope s_look_saying) := ⟨rfl, rfl, rfl, by decide +kernel, rfl, by decide +kernel, by decide +kernel⟩
theorem ok_look_saying {a : Adr} {x : AdrX} {b : PAdr} {c : TAdr} {r : RAdr} (T : Txt K mg a) (TE : TX K mg x) (U : TopsP K w.params mg b) (Y : TopsT K w.params mg c) (Z : TopsR K w.params mg r) : FnOk P w K mg base (CXR P w) 4 a.f_look_saying a.fd_look_saying ["world", "saying"] (spLookS K x.c2) := by
 have G_names_by_place : FnOk P w K mg base CX0 3 a.f_names_by_place a.fd_names_by_place ["saying"] (spNamesBy K) := ok_names_by_place T U Y
 have G_parts_in_order : FnOk P w K mg base CX0 2 a.f_parts_in_order a.fd_parts_in_order ["saying"] (spOrder K) := ok_parts_in_order T U
 have G_row_names : FnOk P w K mg base CX0 1 a.f_row_names a.fd_row_names ["saying"] (spRowsOf K) := ok_row_names T Z
 obtain ⟨mt, hmt⟩ := Z.m_MOST
 refine T.F_look_saying.okX sc_look_saying (fun vs H Q E h => ?_) (fun cdv A outer s H vs Q E hr h => ?_)
 ·obtain ⟨wa, y, R, f, ss, rfl, _⟩ := h
  rfl
 ·obtain ⟨wa, y, R, f, ss, rfl, W, hf, hdp, ov, hss, kq, ke⟩ := h
  have hr_names_by_place : Room 3 _ := hr
  have hr_parts_in_order : Room 2 _ := hr.mono (by decide)
  have hr_row_names : Room 1 _ := hr.mono (by decide)
  have hr_x : Room 2 _ := hr.mono (by decide)
  refine ⟨_, (pss_cons (ps_set (i := 2) sc_look_saying.nd rfl (Or.inr rfl) (pe_ix (ix_tupK K) (pv 0) pe_int (fun _ _ => rfl)))
  (pss_cons (ps_set (i := 3) sc_look_saying.nd rfl (Or.inl rfl) (pe_call G_names_by_place hr_names_by_place rfl T.m_names_by_place T.k_names_by_place T.b_names_by_place .nil pass0 (pa_cons (pv 1) pa_nil)))
  (pss_one (ps_for PassesOwn.leaving rfl (pi_list (pe_call G_parts_in_order hr_parts_in_order rfl T.m_parts_in_order T.k_parts_in_order T.b_parts_in_order .nil pass0 (pa_cons (pv 1) pa_nil))) (pg_tup rfl (pgs_cons (pg_name (i := 4) sc_look_saying.nd rfl (Or.inl rfl)) (pgs_cons (pg_name (i := 5) sc_look_saying.nd rfl (Or.inl rfl)) pgs_nil)))
   (pss_cons (ps_setComp (i := 6) (CompScope.mk' (esc := defScope s_look_saying) (N := ["world", "saying", "rows", "names", "place", "part", "missing"]) (own := ["name"]) (frn := ["rows"]) (frj := [2]) rfl rfl (by decide +kernel)) rfl (pi_list (pe_call G_row_names hr_row_names rfl T.m_row_names T.k_row_names T.b_row_names .nil pass0 (pa_cons (pv 5) pa_nil))) (fun _ _ _ _ => (pg_name (i := 0) (show List.Nodup (["name", "rows"] : List Str) by decide +kernel) rfl (Or.inl rfl))) (fun _ _ _ _ => (pifs_one (pt_cmp (pc_dnotin (hu_of hr) (pv 0) (pv 1)) (by with_unfolding_all rfl)))) (fun _ _ _ _ => (pv 0)) sc_look_saying.nd rfl rfl)
   (pss_one (ps_if (PW.pt (pw_or (pt_truth (pv 6) (fun _ => rfl)) (pw_or1 (pt_cmpR op_gt (pe_callB (call_lenK K) (by rfl) T.z_len bt_len (pa_cons (pe_dget (hu_of hr) (pv 3) (pv 4) (fun _ _ => rfl)) pa_nil)) (pe_glob (v := .int 3) (by rfl) hmt ⟨_, rfl⟩) (nomark _)))))
    (pss_one (ps_xr hr.hd TE.x2 raises_cx (pe_xm TE.x2 TE.M2 (ok_i2 TE) hr_x (by rfl) TE.m2 TE.b2 (by decide) (pa_cons (pv 4) pa_nil))))
    pss_nil))))))), ?_⟩
  obtain ⟨bv, d, kvs, ew, ed, hk⟩ := W
  refine ⟨_, rfl, wa, _, _, _, rfl, rfl, .of ew, atI_nat (j := 1) (v := .ref d) rfl, ?_⟩
  refine ⟨_, rfl, y, f, ss, rfl, hf, hdp, ov, hss, fun D nvs H1 s1 eD kn => ?_⟩
  refine ⟨_, rfl, y, f, rfl, dat_stay s1.kts _ _ f.noL hf, hdp, fun L qs es H2 hL s2 eL prs late les => ?_⟩
  have s12 := s1.trans s2
  have lqs : qs.length = es.length := Paired.length prs
  have kn2 := kn.keep s2.kt
  rw [← late.ex] at kn2
  have ef : firstAt R f [] = (es.find? fun e => bad R e.2).map (·.1) := by rw [late.ex]; rfl
  refine ⟨L, rfl, ⟨_, .of eL⟩, for_list (xs := qs.map V.ref) (fun i σ H' => ∃ (v4 v5 v6 : Option V), σ = [some (.ref wa), some y, some (.ref d), some (.ref D), v4, v5, v6] ∧ Same H2 H' ∧ ∀ e ∈ es.take i, bad R e.2 = false)
   ⟨none, none, none, rfl, Same.refl _, fun e he => by simp at he⟩ (fun i σ H' _ ⟨_, _, _, _, s, _⟩ => .of (s _ _ eL)) ?_ ?_⟩
  ·rintro i y0 σ H3 hy ⟨v4, v5, v6, rfl, s3, good⟩
   obtain ⟨q, rfl, hq⟩ := refItem hy
   obtain ⟨⟨ns, g⟩, he, pq⟩ := prs_get prs hq
   obtain ⟨pl, z, eq, epl, dz⟩ := pq.keep s3.kt s3.kts
   have hin := List.mem_of_getElem? he
   have gat : f.at ns = some g := late.here _ hin
   refine ⟨q, _, rfl, .of eq, rfl, _, _, rfl, _, _, rfl, rfl, ?_⟩
   refine ⟨_, rfl, z, g, rfl, dz, fun L1 H4 hL1 s4 eL1 => ⟨L1, rfl, ⟨_, .of eL1⟩, fun C hC => ?_⟩⟩
   have ed4 := s4 _ _ (s3 _ _ (s12 _ _ ed))
   have nLC : L1 ≠ C := ne_of_none eL1 hC
   have rsm := rows_small g
   refine comp_list (xs := g.rowsOf.map V.str) (fun j σ H' => ∃ v : Option V, σ = [v, some (.ref d)] ∧ Same H4 H' ∧ H' C = some (.lst (((g.rowsOf.take j).filter fun a => !decide (a ∈ R)).map V.str)))
    ⟨none, ?sg, Same.new hC, upd_same⟩ (fun j σ H' _ ⟨_, _, s, _⟩ => .of (s _ _ eL1)) ?_ ?_
   case sg => rfl
   ·rintro j y1 σ H5 hy1 ⟨v, rfl, s5, eC⟩
    obtain ⟨rn, rfl, hrn⟩ := strItem hy1
    refine ⟨_, rfl, _, rfl, d, _, rfl, DGet.k (k := Sum.inr rn) (s5 _ _ ed4), _, rfl, ?_⟩
    rw [hk rn]
    refine ite2 (fun c => ?_) (fun c => ?_)
    ·refine ⟨_, rfl, _, eC, ?_, _, rfl, s5.kbn hC KB.write, ?_⟩
     ·rw [List.length_map]
      refine Nat.lt_of_le_of_lt (List.length_filter_le _ _) ?_
      rw [List.length_take]
      exact Nat.lt_of_le_of_lt (show min j g.rowsOf.length ≤ 2 by omega) (by decide)
     ·rw [upd_same, take_snoc hrn, List.filter_append, List.map_append]
      simp [show (!decide (rn ∈ R)) = true from c] at c ⊢
      try simp [c]
    ·refine ⟨_, rfl, s5, ?_⟩
     rw [eC, take_snoc hrn, List.filter_append]
     have : (!decide (rn ∈ R)) = false := Bool.eq_false_iff.mpr c
     simp [this]
   rintro σ H5 ⟨v, rfl, s5, eC⟩
   rw [List.length_map, List.take_length] at eC
   have s35 := s4.trans s5
   have s25 := s3.trans s35
   obtain ⟨rr, ks, ev, er, ifr⟩ := kn2.keep s25.kt _ hin
   have lks : ks.length = (dd g.fr).length := once_len ifr.once ifr.mem
   have nsm := ns_small hdp gat
   have next : bad R g = false → ∃ (v4 v5 v6 : Option V), [some (V.ref wa), some y, some (.ref d), some (.ref D), some (.ref pl), some z, some (.ref C)] = [some (.ref wa), some y, some (.ref d), some (.ref D), v4, v5, v6] ∧ Same H2 H5 ∧ ∀ e ∈ es.take (i + 1), bad R e.2 = false := fun hb => by
    refine ⟨_, _, _, rfl, s25, fun e he' => ?_⟩
    rw [take_snoc he] at he'
    rcases List.mem_append.mp he' with c | c
    ·exact good e c
    ·rw [List.mem_singleton.mp c]; exact hb
   have epl5 := s35 _ _ epl
   have raise : bad R g = true → ∃ v : V, [some (V.ref wa), some y, some (.ref d), some (.ref D), some (.ref pl), some z, some (.ref C)][4]? = some (some v) ∧ (fun vs H1 => ∀ x', H1 x' = none → spInit K "place" (.ref x' :: vs) (upd H1 x' (xo true x' x.c2 none)) (fun v H2 => v = .non ∧ ∃ a od, V.ref x' = .ref a ∧ H2 a = some (xo true a x.c2 od) ∧ E (.ref a) od (upd H2 a (xo false a x.c2 od))) E0) [v] H5 := fun hb => by
    refine ⟨_, rfl, fun x' hx' => ⟨x', x.c2, _, .ref pl, rfl, upd_same, TE.x2, TE.n2, .inr ⟨pl, ns.map fun (n : Nat) => (n : Int), rfl, ?_, by rw [List.length_map]; omega, fun n hn => ?_⟩, fun dx hdx ndx => ⟨rfl, x', some dx, rfl, ?_, ?_⟩⟩⟩
    ·refine .of ?_
     rw [Same.new hx' _ _ epl5]
     unfold natsV
     rw [List.map_map]
     rfl
    ·obtain ⟨m, hm, rfl⟩ := List.mem_map.mp hn
     have := at_bits ns f g gat m hm
     omega
    ·rw [upd_ne ndx.symm, upd_same]
    ·have sx := same_xnew (o2 := xo true x' x.c2 (some dx)) (o3 := .xd [("place", .ref pl)]) (o4 := xo false x' x.c2 (some dx)) hx' hdx
     refine ke ns ?_ _ x' dx pl ((s12.trans s25).trans sx) upd_same (by rw [upd_ne ndx, upd_same]) (sx _ _ epl5)
     rw [ef, find_at good he hb]
     rfl
   refine ⟨_, rfl, !((g.rowsOf.filter fun a => !decide (a ∈ R)).map V.str).isEmpty, .inl ⟨_, .of eC, rfl⟩, ?_⟩
   refine ite2 (fun c => ?_) (fun c => ?_)
   ·refine iteT (raise ?_)
    unfold bad
    rw [Bool.or_eq_true]
    refine .inl ?_
    rw [List.any_eq_true]
    cases hfl : g.rowsOf.filter fun a => !decide (a ∈ R) with
    | nil => rw [hfl] at c; simp at c
    | cons u us =>
     have hu : u ∈ g.rowsOf.filter fun a => !decide (a ∈ R) := by rw [hfl]; exact List.mem_cons_self
     exact ⟨u, (List.mem_filter.mp hu).1, (List.mem_filter.mp hu).2⟩
   ·have none_ : (g.rowsOf.any fun a => !decide (a ∈ R)) = false := by
     rw [List.any_eq_false]
     intro u hu hc
     have : u ∈ g.rowsOf.filter fun a => !decide (a ∈ R) := List.mem_filter.mpr ⟨hu, hc⟩
     cases hfl : g.rowsOf.filter fun a => !decide (a ∈ R) with
     | nil => rw [hfl] at this; cases this
     | cons u us => rw [hfl] at c; exact c (by simp)
    refine ⟨_, rfl, _, rfl, D, .ref rr, rfl, .inr ⟨nvs, keyOf ns, pl, .inl (s25 _ _ (s2 _ _ eD)), rfl, by rw [epl5, nats_key], ev.symm⟩, _, _, rfl, .inr ⟨_, .of er, rfl⟩, _, _, rfl, rfl, _, rfl, ?_⟩
    rw [List.length_map, lks]
    refine ite2 (fun c2 => ?_) (fun c2 => ?_)
    ·have c3 := of_decide_eq_true c2
     refine raise ?_
     unfold bad
     rw [Bool.or_eq_true]
     exact .inr (decide_eq_true (by omega))
    ·refine next ?_
     unfold bad
     rw [none_, Bool.false_or]
     exact decide_eq_false fun z => c2 (decide_eq_true (by omega))
  ·rintro σ H3 ⟨v4, v5, v6, rfl, s3, good⟩
   rw [List.length_map, lqs, List.take_length] at good
   refine kq ?_ _ (s12.trans s3)
   rw [ef, find_no good]
   rfl
theorem catN_by {K : PySem.W.Frag} {H : Hp} {a b : Addr} {xs ys : List V} {Q : VK} (ea : H a = some (.tup xs)) (eb : H b = some (.tup ys)) (hy : ys ≠ []) (hl : xs.length + ys.length ≤ sizeLine) (h : ∀ u H', Same H H' → H' u = some (.tup (xs ++ ys)) → Q (.ref u) H') : rCatN K (.ref a) (.ref b) H Q := by
 refine ⟨a, b, xs, ys, rfl, rfl, .of ea, .of eb, hy, hl, fun z => h b H (Same.refl _) ?_, fun _ p hp => h p _ (Same.new hp) upd_same⟩
 rw [z]
 exact eb
theorem catT_by {K : PySem.W.Frag} {H : Hp} {a b : Addr} {xs ys : List V} {Q : VK} (ea : H a = some (.tup xs)) (eb : H b = some (.tup ys)) (hx : xs ≠ []) (hl : xs.length + ys.length ≤ sizeLine) (h : ∀ u H', Same H H' → H' u = some (.tup (xs ++ ys)) → Q (.ref u) H') : rCatT K (.ref a) (.ref b) H Q := by
 refine ⟨a, b, xs, ys, rfl, rfl, .of ea, .of eb, hx, hl, fun z => h a H (Same.refl _) ?_, fun _ p hp => h p _ (Same.new hp) upd_same⟩
 rw [z, List.append_nil]
 exact ea
theorem first_split (R : List Str) (f : Say) (ns : List Nat) : firstAt R f ns = ((((kids ns 0 f.inner).flatMap fun e => e.2.post e.1).find? fun e => bad R e.2).or (if bad R f = true then some (ns, f) else none)).map (·.1) := by
 unfold firstAt
 rw [post_kids, List.find?_append]
 have e : [(ns, f)].find? (fun e => bad R e.2) = if bad R f = true then some (ns, f) else none := by
  by_cases h : bad R f = true
  ·rw [if_pos h]; simp [List.find?, h]
  ·rw [if_neg h]; simp [List.find?, h]
 rw [e]
theorem find_kids {R : List Str} {ns : List Nat} : ∀ {l : List Say} {k i : Nat} {h : Say} {e : Ent}, l[i]? = some h → (∀ (j : Nat) (g : Say), j < i → l[j]? = some g → (g.post (ns ++ [k + j])).find? (fun e => bad R e.2) = none) → (h.post (ns ++ [k + i])).find? (fun e => bad R e.2) = some e →
  ((kids ns k l).flatMap fun e => e.2.post e.1).find? (fun e => bad R e.2) = some e
 | [], k, i, h, e, hi, _, _ => by simp at hi
 | u :: l, k, 0, h, e, hi, _, hf => by
  have hi' : u = h := by simpa using hi
  subst hi'
  rw [kids, List.flatMap_cons, List.find?_append]
  rw [show k + 0 = k from rfl] at hf
  rw [hf]
  rfl
 | u :: l, k, i + 1, h, e, hi, hn, hf => by
  rw [kids, List.flatMap_cons, List.find?_append]
  have h0 := hn 0 u (by omega) rfl
  rw [show k + 0 = k from rfl] at h0
  rw [h0]
  show ((kids ns (k + 1) l).flatMap fun e => e.2.post e.1).find? (fun e => bad R e.2) = some e
  refine find_kids (l := l) (k := k + 1) (i := i) (h := h) (by simpa using hi) (fun j g hj hg => ?_) ?_
  ·have := hn (j + 1) g (by omega) (by simpa using hg)
   rw [show k + 1 + j = k + (j + 1) by omega]
   exact this
  ·rw [show k + 1 + i = k + (i + 1) by omega]; exact hf
theorem find_kids_no {R : List Str} {ns : List Nat} : ∀ {l : List Say} {k : Nat}, (∀ (j : Nat) (g : Say), l[j]? = some g → (g.post (ns ++ [k + j])).find? (fun e => bad R e.2) = none) → ((kids ns k l).flatMap fun e => e.2.post e.1).find? (fun e => bad R e.2) = none
 | [], k, _ => rfl
 | u :: l, k, hn => by
  rw [kids, List.flatMap_cons, List.find?_append]
  have h0 := hn 0 u rfl
  rw [show k + 0 = k from rfl] at h0
  rw [h0]
  show ((kids ns (k + 1) l).flatMap fun e => e.2.post e.1).find? (fun e => bad R e.2) = none
  refine find_kids_no fun j g hg => ?_
  have := hn (j + 1) g (by simpa using hg)
  rw [show k + 1 + j = k + (j + 1) by omega]
  exact this
theorem first_none {R : List Str} {f : Say} {ns : List Nat} : firstAt R f ns = none ↔ (f.post ns).find? (fun e => bad R e.2) = none := by
 unfold firstAt
 cases (f.post ns).find? (fun e => bad R e.2) <;> simp
theorem first_kid {R : List Str} {f h : Say} {ns ms : List Nat} {i : Nat} (hi : f.inner[i]? = some h) (hn : ∀ j g, j < i → f.inner[j]? = some g → firstAt R g (ns ++ [j]) = none) (hf : firstAt R h (ns ++ [i]) = some ms) : firstAt R f ns = some ms := by
 unfold firstAt at hf
 cases e : (h.post (ns ++ [i])).find? (fun e => bad R e.2) with
 | none => rw [e] at hf; cases hf
 | some x =>
  rw [e] at hf
  rw [first_split, find_kids (k := 0) (e := x) hi (fun j g hj hg => by rw [Nat.zero_add]; exact first_none.mp (hn j g hj hg)) (by rw [Nat.zero_add]; exact e)]
  exact hf
theorem first_self {R : List Str} {f : Say} {ns : List Nat} (hn : ∀ j g, f.inner[j]? = some g → firstAt R g (ns ++ [j]) = none) : firstAt R f ns = if bad R f = true then some ns else none := by
 rw [first_split, find_kids_no (k := 0) fun j g hg => by rw [Nat.zero_add]; exact first_none.mp (hn j g hg)]
 by_cases h : bad R f = true
 ·rw [if_pos h, if_pos h]; rfl
 ·rw [if_neg h, if_neg h]; rfl
theorem rows_way (f : Say) : (inV (V.str f.word) [V.str "sign", V.str "alike"] = false ∧ decide (V.str f.word = V.str "alike") = false ∧ f.rowsOf = []) ∨ (inV (V.str f.word) [V.str "sign", V.str "alike"] = true ∧ decide (V.str f.word = V.str "alike") = false ∧ f.rspots = [1]) ∨
  (inV (V.str f.word) [V.str "sign", V.str "alike"] = true ∧ decide (V.str f.word = V.str "alike") = true ∧ f.rspots = [1, 3]) := by
 cases f with
 | sign a t s => exact .inr (.inl ⟨(show inV (V.str "sign") [V.str "sign", V.str "alike"] = true by decide +kernel), (show decide (V.str "sign" = V.str "alike") = false by decide +kernel), rfl⟩)
 | alike a t b u => exact .inr (.inr ⟨(show inV (V.str "alike") [V.str "sign", V.str "alike"] = true by decide +kernel), (show decide (V.str "alike" = V.str "alike") = true by decide +kernel), rfl⟩)
 | same t u => exact .inl ⟨(show inV (V.str "same") [V.str "sign", V.str "alike"] = false by decide +kernel), (show decide (V.str "same" = V.str "alike") = false by decide +kernel), rfl⟩
 | less t u => exact .inl ⟨(show inV (V.str "less") [V.str "sign", V.str "alike"] = false by decide +kernel), (show decide (V.str "less" = V.str "alike") = false by decide +kernel), rfl⟩
 | no f => exact .inl ⟨(show inV (V.str "not") [V.str "sign", V.str "alike"] = false by decide +kernel), (show decide (V.str "not" = V.str "alike") = false by decide +kernel), rfl⟩
 | and f g => exact .inl ⟨(show inV (V.str "and") [V.str "sign", V.str "alike"] = false by decide +kernel), (show decide (V.str "and" = V.str "alike") = false by decide +kernel), rfl⟩
 | or f g => exact .inl ⟨(show inV (V.str "or") [V.str "sign", V.str "alike"] = false by decide +kernel), (show decide (V.str "or" = V.str "alike") = false by decide +kernel), rfl⟩
 | some n f => exact .inl ⟨(show inV (V.str "some") [V.str "sign", V.str "alike"] = false by decide +kernel), (show decide (V.str "some" = V.str "alike") = false by decide +kernel), rfl⟩
 | each n f => exact .inl ⟨(show inV (V.str "each") [V.str "sign", V.str "alike"] = false by decide +kernel), (show decide (V.str "each" = V.str "alike") = false by decide +kernel), rfl⟩
theorem dats_strs {K : PySem.W.Frag} {H : Hp} : ∀ l : List Str, DatsAt K H (l.map V.str) (l.map Dt.str)
 | [] => dats_nil
 | x :: l => dats_cons dat_str (dats_strs l)
theorem deps_strs : ∀ l : List Str, Dt.deps (l.map Dt.str) = 0
 | [] => by simp [Dt.deps]
 | x :: l => by rw [List.map_cons, Dt.deps, deps_strs l]; simp [Dt.dep]
theorem strs_ne_nil {K : PySem.W.Frag} {H : Hp} {a b : Addr} {l : List Str} {Q : VK} (ea : H a = some (.lst (l.map V.str))) (eb : H b = some (.lst [])) (q : Q (.bl (!l.isEmpty)) H) :
  rEqD K true (.ref a) (.ref b) H Q ∧ ∃ d d' : Dt, DatAt K H (.ref a) d ∧ DatAt K H (.ref b) d' ∧ ((∃ ds ds', d = .tup ds ∧ d' = .tup ds') ∨ ∃ ds ds', d = .lst ds ∧ d' = .lst ds') := by
 have D1 : DatAt K H (.ref a) (.lst (l.map Dt.str)) := dat_lst (.of ea) (dats_strs l)
 have D2 : DatAt K H (.ref b) (.lst []) := dat_lst (.of eb) dats_nil
 refine ⟨⟨_, _, D1, D2, rfl, rfl, by rw [Dt.dep, deps_strs]; decide, ?_⟩, _, _, D1, D2, .inr ⟨_, _, rfl, rfl⟩⟩
 rw [Dt.beq]
 have : Dt.beqs (l.map Dt.str) [] = l.isEmpty := by cases l <;> simp [Dt.beqs]
 rw [this]
 exact q
def spLFirst (K : PySem.W.Frag) (n : Nat) : Sp := fun vs H Q _ => ∃ (wa pl : Addr) (x : V) (R : List Str) (f : Say) (ss : List Str) (ns : List Nat), vs = [.ref wa, x, .ref pl] ∧ WorldR H wa R ∧ DatAt K H x f.dt ∧ f.Over ss ∧ ss.length ≤ 10 ∧ f.deep ≤ 15 ∧ f.deep < n ∧
 H pl = some (.tup (natsV ns)) ∧ ns.length + f.deep ≤ 1000 ∧ (firstAt R f ns = none → ∀ H', Same H H' → Q .non H') ∧ (∀ ms pl' H', firstAt R f ns = some ms → Same H H' → H' pl' = some (.tup (natsV ms)) → Q (.ref pl') H')
theorem sc_l_first : FnScope ["_law_world_here", "_law_saying_here", "_law_place", "_law_k", "_law_one", "_law_found", "_law_names_here", "_law_free_here"] ["_law_world_here", "_law_saying_here", "_law_place"] (defScope s_l_first) := ⟨rfl, rfl, rfl, by decide +kernel, rfl, by decide +kernel, by decide +kernel⟩
theorem ok_l_first {a : Adr} (T : Txt K mg a) : ∀ n : Nat, FnOk P w K mg base CX0 (n + 19) a.f_l_first a.fd_l_first ["_law_world_here", "_law_saying_here", "_law_place"] (spLFirst K n)
 | 0 => FnOk.none fun vs H Q E h => by
  obtain ⟨wa, pl, x, R, f, ss, ns, _, _, _, _, _, _, hlt, _⟩ := h
  omega
 | n + 1 => by
  have G_l_first := ok_l_first T n
  have G_l_free : FnOk P w K mg base CX0 18 a.f_l_free a.fd_l_free ["_law_saying_here", "_law_bound", "_law_found"] (spLFree K 16) := ok_l_free T 16
  have G_l_inner := ok_l_inner (P := P) (w := w) (base := base) T
  refine T.F_l_first.ok sc_l_first (fun vs H Q E h => ?_) (fun cdv A outer s H vs Q E hr h => ?_)
  ·obtain ⟨wa, pl, x, R, f, ss, ns, rfl, _⟩ := h
   rfl
  ·obtain ⟨wa, pl, x, R, f, ss, ns, rfl, W, hf, ov, hss, hdp, hlt, epl, lns, kq, kp⟩ := h
   have hr_l_inner : Room 1 _ := hr.mono (by omega)
   have hr_l_free : Room 18 _ := hr.mono (by omega)
   have hr_l_first : Room (n + 19) _ := hr
   refine ⟨_, (pss_cons (ps_for PassesOwn.never rfl (pi_enum rfl T.z_enumerate (pa_cons (pe_call G_l_inner hr_l_inner rfl T.m_l_inner T.k_l_inner T.b_l_inner .nil pass0 (pa_cons (pv 1) pa_nil)) pa_nil)) (pg_tup rfl (pgs_cons (pg_name (i := 3) sc_l_first.nd rfl (Or.inl rfl)) (pgs_cons (pg_name (i := 4) sc_l_first.nd rfl (Or.inl rfl)) pgs_nil)))
    (pss_cons (ps_set (i := 5) sc_l_first.nd rfl (Or.inl rfl) (pe_call G_l_first hr_l_first rfl T.m_l_first T.k_l_first T.b_l_first .nil pass0 (pa_cons (pv 0) (pa_cons (pv 4) (pa_cons (pe_op (op_catNK K) (pv 2) (pe_tup (pa_cons (pv 3) pa_nil))) pa_nil)))))
    (pss_one (ps_if (pt_cmpR op_notN (pv 5) pe_non (nomark _))
     (pss_one (ps_ret (pv 5)))
     pss_nil))))
   (pss_cons (ps_set (i := 6) sc_l_first.nd rfl (Or.inl rfl) (pe_lst pa_nil))
   (pss_cons (ps_if (pt_cmpR (op_inK K) (pe_ix (ix_tupK K) (pv 1) pe_int (fun _ _ => rfl)) (pe_lst (pa_cons pe_str (pa_cons pe_str pa_nil))) (by with_unfolding_all rfl))
    (pss_one (ps_set (i := 6) sc_l_first.nd rfl (Or.inl rfl) (pe_lst (pa_cons (pe_ix (ix_tupK K) (pv 1) pe_int (fun _ _ => rfl)) pa_nil))))
    pss_nil)
   (pss_cons (ps_if (pt_cmpR op_eq (pe_ix (ix_tupK K) (pv 1) pe_int (fun _ _ => rfl)) pe_str (nomark _))
    (pss_one (ps_expr (pe_bm PySem.F.plainAttrs_list PySem.F.slot_list_append PySem.F.type_list_append mt_append (pv 6) (pa_cons (pe_ix (ix_tupK K) (pv 1) pe_int (fun _ _ => rfl)) pa_nil))))
    pss_nil)
   (pss_cons (ps_set (i := 7) sc_l_first.nd rfl (Or.inl rfl) (pe_lst pa_nil))
   (pss_cons (ps_expr (pe_call G_l_free hr_l_free rfl T.m_l_free T.k_l_free T.b_l_free .nil pass0 (pa_cons (pv 1) (pa_cons (pe_lst pa_nil) (pa_cons (pv 7) pa_nil)))))
   (pss_cons (ps_if (PW.pt (pw_or (pt_cmpR op_gt (pe_callB (call_lenK K) (by rfl) T.z_len bt_len (pa_cons (pv 7) pa_nil)) pe_int (nomark _)) (pw_or1 (pt_cmpR (op_neD K hr.units) (pe_comp (CompScope.mk' (esc := defScope s_l_first) (N := ["_law_world_here", "_law_saying_here", "_law_place", "_law_k", "_law_one", "_law_found", "_law_names_here", "_law_free_here"]) (own := ["_law_name"]) (frn := ["_law_world_here"]) (frj := [0]) rfl rfl (by decide +kernel)) rfl (pi_list (pv 6)) (fun _ _ _ _ => (pg_name (i := 0) (show List.Nodup (["_law_name", "_law_world_here"] : List Str) by decide +kernel) rfl (Or.inl rfl))) (fun _ _ _ _ => (pifs_one (pt_cmp (pc_dnotin (hu_of hr) (pv 0) (pe_ix (ix_tupK K) (pv 1) pe_int (fun _ _ => rfl))) (by with_unfolding_all rfl)))) (fun _ _ _ _ => (pv 0))) (pe_lst pa_nil) (nomark _)))))
    (pss_one (ps_ret (pv 2)))
    pss_nil)
   (pss_one (ps_ret pe_non))))))))), ?_⟩
   obtain ⟨bv, d, kvs, ew, ed, hk⟩ := id W
   refine ⟨_, rfl, x, f, rfl, hf, fun L xs H1 hL s1 eL dts => ?_⟩
   have lx : xs.length = f.inner.length := by rw [dts.length, List.length_map]
   refine ⟨L, rfl, ⟨_, .of eL⟩, for_enum (xs := xs) (fun i σ H' => ∃ (v3 v4 v5 : Option V), σ = [some (.ref wa), some x, some (.ref pl), v3, v4, v5, none, none] ∧ Same H1 H' ∧ ∀ j g, j < i → f.inner[j]? = some g → firstAt R g (ns ++ [j]) = none)
    ⟨none, none, none, rfl, Same.refl _, fun j g h => absurd h (Nat.not_lt_zero _)⟩ (fun i σ H' _ ⟨_, _, _, _, s, _⟩ => .of (s _ _ eL)) ?_ ?_⟩
   ·rintro i z pp σ H2 hz ⟨v3, v4, v5, rfl, s2, hn⟩ hpp
    obtain ⟨dz, edz, hdz⟩ := dts.get hz
    rw [List.getElem?_map] at edz
    cases eh : f.inner[i]? with
    | none => rw [eh] at edz; cases edz
    | some h =>
     rw [eh] at edz
     have edz' : h.dt = dz := Option.some.inj edz
     subst edz'
     have sp := Same.new (o := .tup [.int (i : Int), z]) hpp
     refine ⟨pp, _, rfl, .of upd_same, rfl, _, _, rfl, _, _, rfl, rfl, ?_⟩
     have s3 := s2.trans sp
     generalize upd H2 pp (.tup [.int (i : Int), z]) = H3 at s3 ⊢
     refine ⟨_, rfl, _, rfl, _, rfl, _, rfl, by show 1 ≤ sizeLine; decide, fun oo hoo => ?_⟩
     have so := Same.new (o := .tup [.int (i : Int)]) hoo
     have eoo : (upd H3 oo (.tup [.int (i : Int)])) oo = some (.tup (natsV [i])) := upd_same
     have epl4 := so _ _ (s3 _ _ (s1 _ _ epl))
     have s4 := s3.trans so
     generalize upd H3 oo (.tup [.int (i : Int)]) = H4 at eoo epl4 s4 ⊢
     have hin := inner_deep f h (List.mem_of_getElem? eh)
     refine catN_by epl4 eoo (by simp [natsV]) ?_ fun pn H5 s5 epn => ?_
     ·unfold natsV
      rw [List.length_map, List.length_map]
      exact Nat.le_trans (show ns.length + 1 ≤ 2000 by omega) (by decide)
     have epn' : H5 pn = some (.tup (natsV (ns ++ [i]))) := by rw [epn]; unfold natsV; rw [List.map_append]
     have s15 := s4.trans s5
     have sH5 := s1.trans s15
     refine ⟨wa, pn, z, R, h, ss, ns ++ [i], rfl, W.same sH5, dat_stay s15.kts _ _ h.noL hdz, over_inner ov h (List.mem_of_getElem? eh), hss, by omega, by omega, epn', by rw [List.length_append]; show ns.length + 1 + h.deep ≤ 1000; omega, fun hno H6 s6 => ?_, fun ms pl' H6 hsome s6 epl' => ?_⟩
     ·refine ⟨_, rfl, rfl, _, rfl, ?_⟩
      rw [decide_eq_true rfl]
      refine iteF ⟨_, _, _, rfl, s15.trans s6, fun j g hj hg => ?_⟩
      by_cases c : j = i
      ·subst c
       rw [eh] at hg
       cases hg
       exact hno
      ·exact hn j g (by omega) hg
     ·refine ⟨_, rfl, rfl, _, rfl, ?_⟩
      rw [decide_eq_false (fun z => by cases z)]
      exact iteT ⟨_, rfl, kp ms pl' H6 (first_kid eh hn hsome) (sH5.trans s6) epl'⟩
   rintro σ H2 ⟨v3, v4, v5, rfl, s2, hn⟩
   have hn' : ∀ j g, f.inner[j]? = some g → firstAt R g (ns ++ [j]) = none := fun j g hg => hn j g (by rw [lx]; exact (List.getElem?_eq_some_iff.mp hg).1) hg
   have eF := first_self (R := R) hn'
   have sH2 := s1.trans s2
   refine ⟨by decide, fun N0 hN0 => ?_⟩
   have sN0 := Same.new (o := .lst []) hN0
   have sH3 := sH2.trans sN0
   have eN0 : (upd H2 N0 (.lst [])) N0 = some (.lst []) := upd_same
   have fN0 := sH2.free hN0
   generalize upd H2 N0 (.lst []) = H3 at sH3 eN0 ⊢
   obtain ⟨sa, ys, rfl, hq, h0, hsp⟩ := say_rows f hf
   dsimp only [gName]
   refine seq_rest (t := tIfS _ _ _) (u := tSeq _ _) (fun σ H' => ∃ (Nl : Addr), σ = [some (.ref wa), some (.ref sa), some (.ref pl), v3, v4, v5, some (.ref Nl), none] ∧ Same H H' ∧ H Nl = none ∧ H' Nl = some (.lst ((f.rowsOf.take 1).map V.str))) ?re1 (fun rest => ?if1)
   case if1 =>
    refine ⟨_, rfl, sa, _, _, _, rfl, rfl, sH3.seqT hq, atI_nat (j := 0) h0, by show 2 ≤ sizeLine; decide, fun L2 hL2 => ⟨L2, _, rfl, .inl (.of upd_same), rfl, rfl, _, rfl, ?_⟩⟩
    have s4 := Same.new (o := .lst [.str "sign", .str "alike"]) hL2
    have sH4 := sH3.trans s4
    have eN4 := s4 _ _ eN0
    generalize upd H3 L2 (.lst [.str "sign", .str "alike"]) = H4 at sH4 eN4 ⊢
    have two : f.rspots[0]? = some 1 → inV (V.str f.word) [V.str "sign", V.str "alike"] = true → _ := fun h1 hv => hsp 0 1 h1
    rcases rows_way f with ⟨c1, c2, c3⟩ | ⟨c1, c2, c3⟩ | ⟨c1, c2, c3⟩
    ·rw [if_neg Bool.false_ne_true, c1]
     exact iteF (rest _ _ ⟨N0, rfl, sH4, fN0, by rw [eN4, c3]; rfl⟩)
    ·rw [if_neg Bool.false_ne_true, c1]
     obtain ⟨y, hy1, hy2⟩ := hsp 0 1 (by rw [c3]; rfl)
     refine iteT ⟨_, rfl, sa, _, _, _, rfl, rfl, sH4.seqT hq, atI_nat (j := 1) hy1, by show 1 ≤ sizeLine; decide, fun N1 hN1 => ?_⟩
     exact rest _ _ ⟨N1, rfl, sH4.trans (Same.new hN1), sH4.free hN1, by rw [upd_same, show f.rowsOf.take 1 = [y] by rw [List.take_add_one, hy2]; rfl]; rfl⟩
    ·rw [if_neg Bool.false_ne_true, c1]
     obtain ⟨y, hy1, hy2⟩ := hsp 0 1 (by rw [c3]; rfl)
     refine iteT ⟨_, rfl, sa, _, _, _, rfl, rfl, sH4.seqT hq, atI_nat (j := 1) hy1, by show 1 ≤ sizeLine; decide, fun N1 hN1 => ?_⟩
     exact rest _ _ ⟨N1, rfl, sH4.trans (Same.new hN1), sH4.free hN1, by rw [upd_same, show f.rowsOf.take 1 = [y] by rw [List.take_add_one, hy2]; rfl]; rfl⟩
   rintro σ H4 ⟨Nl, rfl, sH4, fNl, eNl⟩
   refine seq_rest (t := tIfS _ _ _) (u := tSeq _ _) (fun σ H' => σ = [some (.ref wa), some (.ref sa), some (.ref pl), v3, v4, v5, some (.ref Nl), none] ∧ Same H H' ∧ H' Nl = some (.lst (f.rowsOf.map V.str))) ?re2 (fun rest => ?if2)
   case if2 =>
    refine ⟨_, rfl, sa, _, _, _, rfl, rfl, sH4.seqT hq, atI_nat (j := 0) h0, rfl, _, rfl, ?_⟩
    have rl := rspots_len f
    rcases rows_way f with ⟨c1, c2, c3⟩ | ⟨c1, c2, c3⟩ | ⟨c1, c2, c3⟩
    ·rw [c2]
     exact iteF (rest _ _ ⟨rfl, sH4, by rw [eNl, c3]; rfl⟩)
    ·rw [c2]
     refine iteF (rest _ _ ⟨rfl, sH4, ?_⟩)
     rw [c3] at rl
     rw [eNl, List.take_of_length_le (by rw [← rl]; exact Nat.le_refl _)]
    ·rw [c2]
     obtain ⟨y, hy1, hy2⟩ := hsp 1 3 (by rw [c3]; rfl)
     refine iteT ⟨_, rfl, .inl ⟨rfl, _, .of eNl⟩, _, rfl, sa, _, _, _, rfl, rfl, sH4.seqT hq, atI_nat (j := 3) hy1, Nl, _, _, rfl, rfl, eNl, ?_, rest _ _ ⟨rfl, sH4.kbn fNl KB.write, ?_⟩⟩
     ·rw [List.length_map, List.length_take]; exact Nat.lt_of_le_of_lt (Nat.min_le_left _ _) (by decide)
     ·rw [c3] at rl
      have e2 : f.rowsOf = f.rowsOf.take 1 ++ [y] := by
       have := take_snoc hy2
       rw [← this, List.take_of_length_le (by rw [← rl]; exact Nat.le_refl _)]
      rw [upd_same]
      conv => rhs; rw [e2, List.map_append]
      rfl
   rintro σ H5 ⟨rfl, sH5, eN5⟩
   refine ⟨by decide, fun Fr hFr => ?_⟩
   have s6 := Same.new (o := .lst []) hFr
   have sH6 := sH5.trans s6
   have eF6 : (upd H5 Fr (.lst [])) Fr = some (.lst []) := upd_same
   have eN6 := s6 _ _ eN5
   have nNF : Nl ≠ Fr := ne_of_none eN5 hFr
   have fFr := sH5.free hFr
   generalize upd H5 Fr (.lst []) = H6 at sH6 eF6 eN6 ⊢
   refine ⟨_, rfl, by decide, fun Bd hBd => ?_⟩
   have s7 := Same.new (o := .lst []) hBd
   have sH7 := sH6.trans s7
   have nBF : Bd ≠ Fr := (ne_of_none eF6 hBd).symm
   refine ⟨_, rfl, .ref sa, f, ss, Bd, Fr, [], [], rfl, dat_stay sH7.kts _ _ f.noL hf, ov, hss, upd_same, s7 _ _ eF6, nBF, List.nodup_nil, (fun y hy => by cases hy), by show 0 + f.deep ≤ 1000; omega, by omega, fun fs' H8 k8 eF8 nd8 sub8 mem8 => ?_⟩
   have sH8 : Same H H8 := sH7.kbn fFr k8
   have eN8 : H8 Nl = some (.lst (f.rowsOf.map V.str)) := k8 _ _ (s7 _ _ eN6) nNF
   have lfs : fs'.length = (dd f.fr).length := once_len nd8 fun y => by
    rw [mem8 y]
    constructor
    ·rintro (z | ⟨z, _⟩)
     ·cases z
     ·exact z
    ·intro z
     exact .inr ⟨z, fun q => by cases q⟩
   have ret : bad R f = true → ∀ H9, Same H8 H9 → Q (.ref pl) H9 := fun hb H9 s9 => kp ns pl H9 (by rw [eF, if_pos hb]) (sH8.trans s9) (s9 _ _ (sH8 _ _ epl))
   refine ⟨_, rfl, _, _, rfl, .inl ⟨_, .of eF8, rfl⟩, _, _, rfl, rfl, _, rfl, ?_⟩
   rw [List.length_map, lfs]
   refine ite2 (fun c => ?_) (fun c => ?_)
   ·have c' := of_decide_eq_true c
    exact iteT ⟨_, rfl, ret (by unfold bad; rw [Bool.or_eq_true]; exact .inr (decide_eq_true (by omega))) _ (Same.refl _)⟩
   have few : decide (3 < (dd f.fr).length) = false := decide_eq_false fun z => c (decide_eq_true (by omega))
   refine ⟨_, rfl, Nl, rfl, ⟨_, .of eN8⟩, fun C hC => ?_⟩
   have ew8 := sH8 _ _ ew
   have ed8 := sH8 _ _ ed
   have rsm := rows_small f
   refine comp_list (xs := f.rowsOf.map V.str) (fun j σ H' => ∃ v : Option V, σ = [v, some (.ref wa)] ∧ Same H8 H' ∧ H' C = some (.lst (((f.rowsOf.take j).filter fun a => !decide (a ∈ R)).map V.str)))
    ⟨none, ?sg, Same.new hC, upd_same⟩ (fun j σ H' _ ⟨_, _, s, _⟩ => .of (s _ _ eN8)) ?_ ?_
   case sg => rfl
   ·rintro j y1 σ H9 hy1 ⟨v, rfl, s9, eC⟩
    obtain ⟨rn, rfl, hrn⟩ := strItem hy1
    refine ⟨_, rfl, _, rfl, wa, _, _, _, rfl, rfl, .of (s9 _ _ ew8), atI_nat (j := 1) (v := .ref d) rfl, d, _, rfl, DGet.k (k := Sum.inr rn) (s9 _ _ ed8), _, rfl, ?_⟩
    rw [hk rn]
    refine ite2 (fun c => ?_) (fun c => ?_)
    ·refine ⟨_, rfl, _, eC, ?_, _, rfl, s9.kbn hC KB.write, ?_⟩
     ·rw [List.length_map]
      refine Nat.lt_of_le_of_lt (List.length_filter_le _ _) ?_
      rw [List.length_take]
      exact Nat.lt_of_le_of_lt (show min j f.rowsOf.length ≤ 2 by omega) (by decide)
     ·rw [upd_same, take_snoc hrn, List.filter_append, List.map_append]
      simp [show (!decide (rn ∈ R)) = true from c] at c ⊢
      try simp [c]
    ·refine ⟨_, rfl, s9, ?_⟩
     rw [eC, take_snoc hrn, List.filter_append]
     have : (!decide (rn ∈ R)) = false := Bool.eq_false_iff.mpr c
     simp [this]
   rintro σ H9 ⟨v, rfl, s9, eC⟩
   rw [List.length_map, List.take_length] at eC
   refine ⟨by decide, fun Em hEm => ?_⟩
   have sE := Same.new (o := .lst []) hEm
   refine strs_ne_nil (sE _ _ eC) upd_same ⟨_, rfl, ?_⟩
   have s89 := s9.trans sE
   generalize upd H9 Em (.lst []) = H10 at s89 ⊢
   refine ite2 (fun c => ?_) (fun c => ?_)
   ·refine ⟨_, rfl, ret ?_ _ s89⟩
    unfold bad
    rw [Bool.or_eq_true]
    refine .inl ?_
    rw [List.any_eq_true]
    cases hfl : f.rowsOf.filter fun a => !decide (a ∈ R) with
    | nil => rw [hfl] at c; simp at c
    | cons u us =>
     have hu : u ∈ f.rowsOf.filter fun a => !decide (a ∈ R) := by rw [hfl]; exact List.mem_cons_self
     exact ⟨u, (List.mem_filter.mp hu).1, (List.mem_filter.mp hu).2⟩
   ·refine kq ?_ _ (sH8.trans s89)
    have none_ : (f.rowsOf.any fun a => !decide (a ∈ R)) = false := by
     rw [List.any_eq_false]
     intro u hu hc
     have : u ∈ f.rowsOf.filter fun a => !decide (a ∈ R) := List.mem_filter.mpr ⟨hu, hc⟩
     cases hfl : f.rowsOf.filter fun a => !decide (a ∈ R) with
     | nil => rw [hfl] at this; cases this
     | cons u us => rw [hfl] at c; exact c (by simp)
    rw [eF, if_neg]
    unfold bad
    rw [none_, few]
    decide
theorem bt_ValueError : bootBuiltins "ValueError" = some (.type "ValueError") := by decide +kernel
theorem kit_is {K : PySem.W.Frag} {C D G : Addr} {bm : List Value} (c : XC K C (.ref D :: veM)) (cG : XC K G bm) : PySem.W.kitOne K (.ref C) (.ref G) = some (decide (G = C) || decide (G = D)) := by
 rw [kit_own c cG, List.contains_cons, List.contains_cons]
 have e : veM.contains (Value.ref G) = false := rfl
 rw [e, Bool.or_false]
 have z : ∀ A B : Addr, (Value.ref A == Value.ref B) = decide (A = B) := fun A B => by
  by_cases h : A = B
  ·subst h; simp
  ·rw [decide_eq_false h]
   exact beq_eq_false_iff_ne.mpr fun q => h (by cases q; rfl)
 rw [z, z]
theorem kit_no {K : PySem.W.Frag} {C D G : Addr} {bm : List Value} (c : XC K C (.ref D :: veM)) (cG : XC K G bm) (n1 : ¬ G = C) (n2 : ¬ G = D) : PySem.W.kitOne K (.ref C) (clsV (.ref G)) = some false := by
 show PySem.W.kitOne K (.ref C) (.ref G) = _
 rw [kit_is c cG, decide_eq_false n1, decide_eq_false n2]; rfl
theorem kit_self {K : PySem.W.Frag} {C D : Addr} (c : XC K C (.ref D :: veM)) : PySem.W.kitOne K (.ref C) (clsV (.ref C)) = some true := by
 show PySem.W.kitOne K (.ref C) (.ref C) = _
 rw [kit_is c c, decide_eq_true rfl]; rfl
theorem dats_bls {K : PySem.W.Frag} {H : Hp} : ∀ (ns : List Bool), DatsAt K H (ns.map V.bl) (ns.map Dt.bl)
 | [] => by simp [DatsAt]
 | n :: ns => by rw [List.map_cons, List.map_cons, DatsAt]; exact ⟨by rw [DatAt], dats_bls ns⟩
theorem beqs_bls : ∀ (ns : List Bool), Dt.beqs (ns.map Dt.bl) (ns.map Dt.bl) = true
 | [] => by simp [Dt.beqs]
 | n :: ns => by rw [List.map_cons, Dt.beqs, Dt.beq, beqs_bls ns]; simp
theorem deps_bls : ∀ (ns : List Bool), Dt.deps (ns.map Dt.bl) = 0
 | [] => by simp [Dt.deps]
 | n :: ns => by rw [List.map_cons, Dt.deps, deps_bls ns]; simp [Dt.dep]
theorem beqs_bls_ne {ns ms : List Bool} (h : ns ≠ ms) : Dt.beqs (ns.map Dt.bl) (ms.map Dt.bl) = false := by
 induction ns generalizing ms with
 | nil => cases ms with
  | nil => exact absurd rfl h
  | cons m ms => simp [Dt.beqs]
 | cons n ns ih =>
  cases ms with
  | nil => simp [Dt.beqs]
  | cons m ms =>
   rw [List.map_cons, List.map_cons, Dt.beqs, Dt.beq]
   by_cases e : n = m
   ·subst e
    rw [ih (fun z => h (by rw [z]))]
    simp
   ·simp [e]
theorem bls_eq {K : PySem.W.Frag} {H : Hp} {a b : Addr} {ns ms : List Bool} {Q : VK} (ea : H a = some (.lst (ns.map V.bl))) (eb : H b = some (.lst (ms.map V.bl))) (q : Q (.bl (decide (ns = ms))) H) : rEqD K false (.ref a) (.ref b) H Q := by
 have D1 : DatAt K H (.ref a) (.lst (ns.map Dt.bl)) := dat_lst (.of ea) (dats_bls ns)
 have D2 : DatAt K H (.ref b) (.lst (ms.map Dt.bl)) := dat_lst (.of eb) (dats_bls ms)
 refine ⟨_, _, D1, D2, rfl, rfl, by rw [Dt.dep, deps_bls]; decide, ?_⟩
 rw [Dt.beq]
 by_cases h : ns = ms
 ·subst h
  rw [decide_eq_true rfl] at q
  rw [beqs_bls]
  exact q
 ·rw [decide_eq_false h] at q
  rw [beqs_bls_ne h]
  exact q
theorem bls_ne {K : PySem.W.Frag} {H : Hp} {a b : Addr} {ns ms : List Bool} {Q : VK} (ea : H a = some (.lst (ns.map V.bl))) (eb : H b = some (.lst (ms.map V.bl))) (q : Q (.bl (!decide (ns = ms))) H) :
  rEqD K true (.ref a) (.ref b) H Q ∧ ∃ d d' : Dt, DatAt K H (.ref a) d ∧ DatAt K H (.ref b) d' ∧ ((∃ ds ds', d = .tup ds ∧ d' = .tup ds') ∨ ∃ ds ds', d = .lst ds ∧ d' = .lst ds') := by
 have D1 : DatAt K H (.ref a) (.lst (ns.map Dt.bl)) := dat_lst (.of ea) (dats_bls ns)
 have D2 : DatAt K H (.ref b) (.lst (ms.map Dt.bl)) := dat_lst (.of eb) (dats_bls ms)
 refine ⟨⟨_, _, D1, D2, rfl, rfl, by rw [Dt.dep, deps_bls]; decide, ?_⟩, _, _, D1, D2, .inr ⟨_, _, rfl, rfl⟩⟩
 rw [Dt.beq]
 by_cases h : ns = ms
 ·subst h
  rw [decide_eq_true rfl] at q
  rw [beqs_bls]
  exact q
 ·rw [decide_eq_false h] at q
  rw [beqs_bls_ne h]
  exact q
def spSaid (K : PySem.W.Frag) : Sp := fun vs H Q _ => ∃ (wa : Addr) (x : V) (R : List Str) (f : Say) (ss : List Str), vs = [.ref wa, x] ∧ WorldR H wa R ∧ DatAt K H x f.dt ∧ f.deep ≤ 15 ∧ f.Over ss ∧ ss.length ≤ 10 ∧
 (firstAt R f [] = none → ∀ L H', H L = none → Same H H' → H' L = some (.lst [.non, .str "told"]) → Q (.ref L) H') ∧
 (∀ ns, firstAt R f [] = some ns → ∀ L pl H', H L = none → Same H H' → H' pl = some (.tup (natsV ns)) → H' L = some (.lst [.ref pl, .str "refused"]) → Q (.ref L) H')
theorem sc_l_said : FnScope ["_law_world_here", "_law_saying_here", "_law_told", "_law_kinds", "_law_place", "e"] ["_law_world_here", "_law_saying_here"] (defScope s_l_said) := ⟨rfl, rfl, rfl, by decide +kernel, rfl, by decide +kernel, by decide +kernel⟩
theorem ok_l_said {a : Adr} {x : AdrX} {b : PAdr} {c : TAdr} {r : RAdr} (T : Txt K mg a) (TE : TX K mg x) (U : TopsP K w.params mg b) (Y : TopsT K w.params mg c) (Z : TopsR K w.params mg r) : FnOk P w K mg base CX0 5 a.f_l_said a.fd_l_said ["_law_world_here", "_law_saying_here"] (spSaid K) := by
 have G_look : FnOk P w K mg base (CXR P w) 4 a.f_look_saying a.fd_look_saying ["world", "saying"] (spLookS K x.c2) := ok_look_saying T TE U Y Z
 refine T.F_l_said.ok sc_l_said (fun vs H Q E h => ?_) (fun cdv A outer s H vs Q E hr h => ?_)
 ·obtain ⟨wa, y, R, f, ss, rfl, _⟩ := h
  rfl
 ·obtain ⟨wa, y, R, f, ss, rfl, W, hf, hdp, ov, hss, kq, ke⟩ := h
  have hr_look : Room 4 _ := hr
  refine ⟨_, (pss_cons (ps_set (i := 2) sc_l_said.nd rfl (Or.inl rfl) pe_str)
  (pss_cons (ps_set (i := 3) sc_l_said.nd rfl (Or.inl rfl) (pe_lst pa_nil))
  (pss_cons (ps_set (i := 4) sc_l_said.nd rfl (Or.inl rfl) pe_non)
  (pss_cons (ps_try (i := 2) (j := 5) G_look hr_look (by rfl) T.m_look_saying T.k_look_saying T.b_look_saying (pa_cons (pv 0) (pa_cons (pv 1) pa_nil)) sc_l_said.nd rfl (Or.inl rfl) ⟨rfl, rfl⟩ (by rfl) TE.mD TE.xD rfl rfl
   (by exact fun aa => pss_cons (ps_set (i := 3) sc_l_said.nd rfl (Or.inl rfl) (pe_lst (pa_cons (pe_callB (call_isxK K) (by rfl) T.z_isinstance bt_isinstance (pa_cons (pv 5) (pa_cons (pe_glob (v := .ref x.c2) (by rfl) TE.m2 rfl) pa_nil))) (pa_cons (pe_callB (call_isxK K) (by rfl) T.z_isinstance bt_isinstance (pa_cons (pv 5) (pa_cons (pe_glob (v := .ref x.c1) (by rfl) TE.m1 rfl) pa_nil))) (pa_cons (pe_callB (call_isxK K) (by rfl) T.z_isinstance bt_isinstance (pa_cons (pv 5) (pa_cons (pe_glob (v := .ref x.c4) (by rfl) TE.m4 rfl) pa_nil))) (pa_cons (pe_callB (call_isxK K) (by rfl) T.z_isinstance bt_isinstance (pa_cons (pv 5) (pa_cons (pe_glob (v := .ref x.c3) (by rfl) TE.m3 rfl) pa_nil))) pa_nil)))))) (pss_cons (ps_expr (pe_appendK K (pv 3) (pa_cons (pe_not (pe_callB (call_isxK K) (by rfl) T.z_isinstance bt_isinstance (pa_cons (pv 5) (pa_cons (pe_bltn (v := .ty "ValueError") (by rfl) TE.zV bt_ValueError (by rfl)) pa_nil)))) pa_nil))) (pss_one (ps_if (pt_truthK K (pe_ix (ix_listK K) (pv 3) pe_int (by intro _ _; rfl)) (by intro _; rfl)) (pss_one (ps_set (i := 4) sc_l_said.nd (by rfl) (Or.inl (by rfl)) (pe_xfK K (pv 5) (by rfl)))) pss_nil)))))
  (pss_cons (ps_if (pt_cmpR (op_eqD K hr.units) (pv 3) (pe_lst pa_nil) (nomark _))
   (pss_one (ps_ret (pe_lst (pa_cons (pv 2) (pa_cons pe_str pa_nil)))))
   pss_nil)
  (pss_cons (ps_if (pt_cmpR (op_neD K hr.units) (pv 3) (pe_lst (pa_cons pe_bl (pa_cons pe_bl (pa_cons pe_bl (pa_cons pe_bl (pa_cons pe_bl pa_nil)))))) (nomark _))
   (pss_one (ps_ret (pe_lst (pa_cons pe_str (pa_cons pe_str pa_nil)))))
   pss_nil)
  (pss_one (ps_ret (pe_lst (pa_cons (pv 4) (pa_cons pe_str pa_nil))))))))))), ?_⟩
  refine ⟨by decide, fun K0 hK0 => ?_⟩
  have s0 := Same.new (o := .lst []) hK0
  have eK0 : (upd H K0 (.lst [])) K0 = some (.lst []) := upd_same
  generalize upd H K0 (.lst []) = H0 at s0 eK0 ⊢
  refine ⟨_, rfl, _, rfl, wa, y, R, f, ss, rfl, W.same s0, dat_stay s0.kts _ _ f.noL hf, hdp, ov, hss, fun hno H' s => ?_, fun ns hsome H' e dx pl s He Hdx Hpl => ⟨e, x.c2, _, rfl, He, TE.x2, by simp, ?_⟩⟩
  ·refine ⟨_, rfl, by decide, fun E1 hE1 => bls_eq (ns := []) (ms := []) (Same.new hE1 _ _ (s _ _ eK0)) upd_same ⟨_, rfl, iteT ?_⟩⟩
   have sE := Same.new (o := .lst []) hE1
   generalize upd H' E1 (.lst []) = H2 at sE ⊢
   refine ⟨_, rfl, by show 2 ≤ sizeLine; decide, fun L hL => ?_⟩
   have sA := (s0.trans s).trans sE
   exact kq hno L _ (sA.free hL) (sA.trans (Same.new hL)) upd_same
  ·rw [upd_self He]
   have hod : ∀ {H2 : Hp}, Same H' H2 → ∀ dx', some dx = some dx' → ∃ fs, H2 dx' = some (.xd fs) := fun s2 dx' z => by cases z; exact ⟨_, s2 _ _ Hdx⟩
   have ne := TE.ne
   simp only [List.nodup_cons, List.mem_cons, List.not_mem_nil, or_false, not_or] at ne
   obtain ⟨⟨n12, n13, n14, n1D⟩, ⟨n23, n24, n2D⟩, ⟨n34, n3D⟩, n4D, _⟩ := ne
   obtain ⟨h0, kin⟩ := TE.kin
   refine ⟨_, rfl, e, x.c2, some dx, _, false, true, .ref x.c2, rfl, He, hod (Same.refl _), TE.x2, kit_self TE.x2, ?_⟩
   refine ⟨_, rfl, e, x.c2, some dx, _, false, false, .ref x.c1, rfl, He, hod (Same.refl _), TE.x2, kit_no TE.x2 TE.x1 n12 n1D, ?_⟩
   refine ⟨_, rfl, e, x.c2, some dx, _, false, false, .ref x.c4, rfl, He, hod (Same.refl _), TE.x2, kit_no TE.x2 TE.x4 (Ne.symm n24) n4D, ?_⟩
   refine ⟨_, rfl, e, x.c2, some dx, _, false, false, .ref x.c3, rfl, He, hod (Same.refl _), TE.x2, kit_no TE.x2 TE.x3 (Ne.symm n23) n3D, ?_⟩
   refine ⟨by show 4 ≤ sizeLine; decide, fun Kd hKd => ?_⟩
   have s1 := Same.new (o := .lst [.bl true, .bl false, .bl false, .bl false]) hKd
   have eKd : (upd H' Kd (.lst [.bl true, .bl false, .bl false, .bl false])) Kd = some (.lst [.bl true, .bl false, .bl false, .bl false]) := upd_same
   generalize upd H' Kd (.lst [.bl true, .bl false, .bl false, .bl false]) = H1 at s1 eKd ⊢
   refine ⟨_, rfl, .inl ⟨rfl, _, .of eKd⟩, _, rfl, e, x.c2, some dx, _, false, true, .ty "ValueError", rfl, s1 _ _ He, hod s1, TE.x2, kit_ve kin TE.x2, true, rfl, Kd, _, _, rfl, rfl, eKd, by show 4 < sizeLine; decide, ?_⟩
   have s2 : Same H' (upd H1 Kd (.lst ([.bl true, .bl false, .bl false, .bl false] ++ [.bl (!true)]))) := s1.kbn hKd KB.write
   have eK2 : (upd H1 Kd (.lst ([.bl true, .bl false, .bl false, .bl false] ++ [.bl (!true)]))) Kd = some (.lst (([true, false, false, false, false] : List Bool).map V.bl)) := upd_same
   generalize upd H1 Kd (.lst ([.bl true, .bl false, .bl false, .bl false] ++ [.bl (!true)])) = H2 at s2 eK2 ⊢
   refine ⟨_, rfl, Kd, ([true, false, false, false, false] : List Bool).map V.bl, _, V.bl true, rfl, rfl, .of eK2, atI_nat (j := 0) (v := V.bl true) rfl, true, (show TruV K (V.bl true) H2 true from rfl), iteT ?_⟩
   refine ⟨_, rfl, e, x.c2, dx, _, false, _, .ref pl, rfl, s2 _ _ He, s2 _ _ Hdx, TE.x2, TE.n2, rfl, ?_⟩
   refine ⟨_, rfl, by decide, fun E1 hE1 => bls_eq (ns := [true, false, false, false, false]) (ms := []) (Same.new hE1 _ _ eK2) upd_same ⟨false, by decide, iteF ?_⟩⟩
   have sE := Same.new (o := .lst []) hE1
   have eK3 := sE _ _ eK2
   generalize upd H2 E1 (.lst []) = H3 at sE eK3 ⊢
   refine ⟨_, rfl, by show 5 ≤ sizeLine; decide, fun E2 hE2 => bls_ne (ns := [true, false, false, false, false]) (ms := [true, false, false, false, false]) (Same.new hE2 _ _ eK3) upd_same ⟨false, by decide, iteF ?_⟩⟩
   have sE2 := Same.new (o := .lst [.bl true, .bl false, .bl false, .bl false, .bl false]) hE2
   generalize upd H3 E2 (.lst [.bl true, .bl false, .bl false, .bl false, .bl false]) = H4 at sE2 ⊢
   refine ⟨_, rfl, by show 2 ≤ sizeLine; decide, fun L hL => ?_⟩
   have sA := (s0.trans s).trans ((s2.trans sE).trans sE2)
   exact ke ns hsome L pl _ (sA.free hL) (sA.trans (Same.new hL)) ((((s2.trans sE).trans sE2).trans (Same.new hL)) _ _ Hpl) upd_same
def castI (ds : List Nat) : List Int := ds.map fun (d : Nat) => (d : Int)
theorem castI_at (ds : List Nat) (i : Nat) : (castI ds)[i]? = ds[i]?.map fun (d : Nat) => (d : Int) := by simp [castI]
theorem castI_len (ds : List Nat) : (castI ds).length = ds.length := by simp [castI]
theorem castI_app (xs ys : List Nat) : castI (xs ++ ys) = castI xs ++ castI ys := by simp [castI]
theorem atI_at {α : Type} {xs : List α} {i : Int} {j : Nat} {v : α} (e : i = (j : Int)) (h : xs[j]? = some v) : atI xs i = some v := by rw [e]; exact atI_nat h
def RowAt (H : Hp) (r : Addr) (sg : List Nat) (mv : List (List Nat)) : Prop := ∃ (sa ma : Addr) (ps : List Addr), H r = some (.tup [.ref sa, .ref ma]) ∧ H sa = some (.tup ((castI sg).map V.int)) ∧ H ma = some (.tup (ps.map V.ref)) ∧ Tups H ps (mv.map castI)
theorem RowAt.keep {H H' : Hp} {r : Addr} {sg : List Nat} {mv : List (List Nat)} (h : RowAt H r sg mv) (k : KTu H H') : RowAt H' r sg mv := by
 obtain ⟨sa, ma, ps, h1, h2, h3, h4⟩ := h
 exact ⟨sa, ma, ps, k _ _ h1, k _ _ h2, k _ _ h3, h4.keep k⟩
structure Right (b : Nat) (sg : List Nat) (mv : List (List Nat)) : Prop where
 len : mv.length = sg.length
 small : sg.length ≤ 1000
 two : 2 ≤ b ∧ b ≤ 4
 lead : ∀ l ∈ mv, l.length = b ∧ ∀ x ∈ l, x < sg.length
 like : ∀ (i : Nat) (l : List Nat), mv[i]? = some l → sg.getD (l.getD 0 0) 0 = sg.getD i 0
theorem item_at {α : Type} {xs : List α} {i : Nat} (d : α) (h : i < xs.length) : xs[i]? = some (xs.getD i d) := by rw [List.getD_eq_getElem?_getD, List.getElem?_eq_getElem h]; rfl
theorem castI_item {ds : List Nat} {i : Nat} (h : i < ds.length) : ((castI ds).map V.int)[i]? = some (.int (ds.getD i 0 : Nat)) := by
 rw [List.getElem?_map, castI_at, item_at 0 h]; rfl
theorem put_mem {kvs : List (Key × V)} {k : Key} {v : V} {p : Key × V} (h : p ∈ putK kvs k v) : p = (k, v) ∨ p ∈ kvs := by
 unfold putK at h
 by_cases c : (kvs.any fun kv => decide (kv.1 = k)) = true
 ·rw [if_pos c] at h
  obtain ⟨q, hq, e⟩ := List.mem_map.mp h
  by_cases z : q.1 = k
  ·rw [if_pos z, z] at e
   exact .inl e.symm
  ·rw [if_neg z] at e
   exact .inr (e ▸ hq)
 ·rw [if_neg c] at h
  rcases List.mem_append.mp h with h | h
  ·exact .inr h
  ·exact .inl (by simpa using h)
def spRow2 : Sp := fun vs H Q _ => ∃ (d : Addr) (b : Nat), vs = [.ref d, .int b] ∧ Deck2 H d ∧ 2 ≤ b ∧ b ≤ 4 ∧ ∀ (r : Addr) (sg : List Nat) (mv : List (List Nat)) (H' : Hp), KB d H H' → Deck2 H' d → RowAt H' r sg mv → Right b sg mv → 0 < sg.length → sg.length ≤ 8 → Q (.ref r) H'
theorem sc_l_row : FnScope ["_law_deck_here", "_law_base", "_law_many", "_law_signs", "_law_moves", "_law_room", "_law_like"] ["_law_deck_here", "_law_base"] (defScope s_l_row) := ⟨rfl, rfl, rfl, by decide +kernel, rfl, by decide +kernel, by decide +kernel⟩
theorem ok_l_row {a : Adr} (T : Txt K mg a) : FnOk P w K mg base CX0 2 a.f_l_row a.fd_l_row ["_law_deck_here", "_law_base"] spRow2 := by
 have G_l_next := ok_l_next (P := P) (w := w) (base := base) T
 refine T.F_l_row.ok sc_l_row (fun vs H Q E h => ?_) (fun cdv A outer s H vs Q E hr h => ?_)
 ·obtain ⟨d, b, rfl, _⟩ := h
  rfl
 ·obtain ⟨d, b, rfl, d0, b2, b4, k⟩ := h
  have hr_l_next : Room 1 _ := hr
  refine ⟨_, (pss_cons (ps_set (i := 2) sc_l_row.nd rfl (Or.inr rfl) (pe_op op_add pe_int (pe_call G_l_next hr_l_next rfl T.m_l_next T.k_l_next T.b_l_next .nil pass0 (pa_cons (pv 0) (pa_cons pe_int pa_nil)))))
  (pss_cons (ps_set (i := 3) sc_l_row.nd rfl (Or.inr rfl) (pe_comp (CompScope.mk' (esc := defScope s_l_row) (N := ["_law_deck_here", "_law_base", "_law_many", "_law_signs", "_law_moves", "_law_room", "_law_like"]) (own := ["_law_k"]) (frn := ["_law_deck_here"]) (frj := [0]) rfl rfl (by decide +kernel)) rfl (pi_range1 rfl T.z_range (pa_cons (pv 2) pa_nil)) (fun _ _ _ _ => (pg_name (i := 0) (show List.Nodup (["_law_k", "_law_deck_here"] : List Str) by decide +kernel) rfl (Or.inl rfl))) (fun _ _ _ _ => pifs_nil) (fun _ _ _ _ => (pe_call G_l_next hr_l_next rfl T.m_l_next T.k_l_next T.b_l_next .nil pass0 (pa_cons (pv 1) (pa_cons (pe_ix (ix_listK K) (pe_lst (pa_cons pe_int (pa_cons pe_int pa_nil))) (pe_call G_l_next hr_l_next rfl T.m_l_next T.k_l_next T.b_l_next .nil pass0 (pa_cons (pv 1) (pa_cons pe_int pa_nil))) (fun _ _ => rfl)) pa_nil))))))
  (pss_cons (ps_set (i := 4) sc_l_row.nd rfl (Or.inl rfl) (pe_lst pa_nil))
  (pss_cons (ps_for PassesOwn.never rfl (pi_range1 rfl T.z_range (pa_cons (pv 2) pa_nil)) (pg_name (i := 5) sc_l_row.nd rfl (Or.inr rfl))
   (pss_cons (ps_setComp (i := 6) (CompScope.mk' (esc := defScope s_l_row) (N := ["_law_deck_here", "_law_base", "_law_many", "_law_signs", "_law_moves", "_law_room", "_law_like"]) (own := ["_law_other"]) (frn := ["_law_signs", "_law_room"]) (frj := [3, 5]) rfl rfl (by decide +kernel)) rfl (pi_range1 rfl T.z_range (pa_cons (pv 2) pa_nil)) (fun _ _ _ _ => (pg_name (i := 0) (show List.Nodup (["_law_other", "_law_signs", "_law_room"] : List Str) by decide +kernel) rfl (Or.inl rfl))) (fun _ _ _ _ => (pifs_one (pt_cmpR op_eq (pe_ix (ix_listK K) (pv 1) (pv 0) (fun _ _ => rfl)) (pe_ix (ix_listK K) (pv 1) (pv 2) (fun _ _ => rfl)) (nomark _)))) (fun _ _ _ _ => (pv 0)) sc_l_row.nd rfl rfl)
   (pss_one (ps_expr (pe_bm PySem.F.plainAttrs_list PySem.F.slot_list_append PySem.F.type_list_append mt_append (pv 4) (pa_cons (pe_op (op_catNK K) (pe_tup (pa_cons (pe_ix (ix_listK K) (pv 6) (pe_call G_l_next hr_l_next rfl T.m_l_next T.k_l_next T.b_l_next .nil pass0 (pa_cons (pv 0) (pa_cons (pe_callB (call_lenK K) (by rfl) T.z_len bt_len (pa_cons (pv 6) pa_nil)) pa_nil))) (fun _ _ => rfl)) pa_nil)) (pe_callTy (call_tupleK K) (by rfl) T.z_tuple bt_tuple (pa_cons (pe_comp (CompScope.mk' (esc := defScope s_l_row) (N := ["_law_deck_here", "_law_base", "_law_many", "_law_signs", "_law_moves", "_law_room", "_law_like"]) (own := ["_law_k"]) (frn := ["_law_deck_here", "_law_many"]) (frj := [0, 2]) rfl rfl (by decide +kernel)) rfl (pi_range1 rfl T.z_range (pa_cons (pe_op op_sub (pv 1) pe_int) pa_nil)) (fun _ _ _ _ => (pg_name (i := 0) (show List.Nodup (["_law_k", "_law_deck_here", "_law_many"] : List Str) by decide +kernel) rfl (Or.inl rfl))) (fun _ _ _ _ => pifs_nil) (fun _ _ _ _ => (pe_call G_l_next hr_l_next rfl T.m_l_next T.k_l_next T.b_l_next .nil pass0 (pa_cons (pv 1) (pa_cons (pv 2) pa_nil))))) pa_nil))) pa_nil))))))
  (pss_one (ps_ret (pe_tup (pa_cons (pe_callTy (call_tupleK K) (by rfl) T.z_tuple bt_tuple (pa_cons (pv 3) pa_nil)) (pa_cons (pe_callTy (call_tupleK K) (by rfl) T.z_tuple bt_tuple (pa_cons (pv 4) pa_nil)) pa_nil))))))))), ?_⟩
  refine ⟨_, rfl, d, 8, rfl, d0, by decide, fun r1 H1 r10 r11 k1 d1 => ⟨_, _, rfl, rfl, ?_⟩⟩
  obtain ⟨m, em⟩ : ∃ m : Nat, 1 + r1 = (m : Int) := ⟨(1 + r1).toNat, by omega⟩
  have m1 : 1 ≤ m := by omega
  have m8 : m ≤ 8 := by omega
  dsimp only [gName]
  rw [em]
  refine ⟨_, rfl, m, rfl, by omega, by omega, fun Sl hSl => ?_⟩
  have nSd : Sl ≠ d := (d1.ne hSl).symm
  refine comp_range (fun i σ H' => ∃ (sg : List Nat) (v : Option V), σ = [v, some (.ref d)] ∧ KB d H1 H' ∧ Deck2 H' d ∧ H' Sl = some (.lst ((castI sg).map V.int)) ∧ sg.length = i)
   ⟨[], none, ?sg1, (Same.new hSl).kb, d1.same (Same.new hSl), upd_same, rfl⟩ ?_ ?_
  case sg1 => rfl
  ·rintro i σ H3 hi ⟨sg, v, rfl, k3, d3, eS, ls⟩
   refine ⟨_, rfl, by show 2 ≤ sizeLine; decide, fun L hL => ?_⟩
   have nLd : L ≠ d := (d3.ne hL).symm
   have sL := Same.new (o := .lst [.int 2, .int 10]) hL
   refine ⟨_, rfl, d, 2, rfl, d3.same sL, by decide, fun q1 H4 q10 q11 k4 d4 => ?_⟩
   have eL4 : H4 L = some (.lst [.int 2, .int 10]) := k4 _ _ upd_same nLd
   obtain ⟨mm, hmm, mpos⟩ : ∃ mm : Int, atI ([.int 2, .int 10] : List V) q1 = some (.int mm) ∧ 0 < mm := by
    by_cases c : q1 = 0
    ·exact ⟨2, by rw [c]; exact atI_nat (j := 0) rfl, by decide⟩
    ·exact ⟨10, by rw [show q1 = 1 by omega]; exact atI_nat (j := 1) rfl, by decide⟩
   refine ⟨L, _, _, .int mm, rfl, rfl, .of eL4, hmm, d, mm, rfl, d4, mpos, fun q2 H5 q20 q21 k5 d5 => ?_⟩
   obtain ⟨qn, rfl⟩ : ∃ qn : Nat, q2 = (qn : Int) := ⟨q2.toNat, by omega⟩
   have eS5 := k5 _ _ (k4 _ _ (sL _ _ eS) nSd) nSd
   refine ⟨_, eS5, ?_, sg ++ [qn], _, rfl, ?_, d5.kb KB.write nSd.symm, ?_, ?_⟩
   ·rw [List.length_map, castI_len, ls]; exact Nat.lt_of_lt_of_le (show i < 100 by omega) (by decide)
   ·intro c o e n
    rw [upd_ne (ne_of_none e hSl)]
    exact k5 _ _ (k4 _ _ (sL _ _ (k3 _ _ e n)) n) n
   ·rw [upd_same, castI_app, List.map_append]; rfl
   ·rw [List.length_append, ls]; rfl
  rintro σ H3 ⟨sg, v, rfl, k3, d3, eS, ls⟩
  rw [Int.toNat_natCast] at ls
  have k13 := k1.trans k3
  refine ⟨by decide, fun Ml hMl => ?_⟩
  have nMd : Ml ≠ d := (d3.ne hMl).symm
  have nSM : Sl ≠ Ml := ne_of_none eS hMl
  have sM := Same.new (o := .lst []) hMl
  refine ⟨_, rfl, m, rfl, by omega, by omega, for_range (lo := 0) (n := (m : Int).toNat) (fun i σ H' => ∃ (mv : List (List Nat)) (ps : List Addr) (v5 v6 : Option V), σ = [some (.ref d), some (.int b), some (.int m), some (.ref Sl), some (.ref Ml), v5, v6] ∧
    KB d H3 H' ∧ Deck2 H' d ∧ H' Sl = some (.lst ((castI sg).map V.int)) ∧ H' Ml = some (.lst (ps.map V.ref)) ∧ Tups H' ps (mv.map castI) ∧ mv.length = i ∧ (∀ l ∈ mv, l.length = b ∧ ∀ x ∈ l, x < m) ∧ ∀ (j : Nat) (l : List Nat), mv[j]? = some l → sg.getD (l.getD 0 0) 0 = sg.getD j 0)
   ⟨[], [], none, none, rfl, sM.kb, d3.same sM, sM _ _ eS, upd_same, .nil, rfl, (fun l h => by cases h), (fun j l h => by simp at h)⟩ ?_ ?_⟩
  ·rintro i σ H4 hi ⟨mv, ps, v5, v6, rfl, k4, d4, eS4, eM4, tp, lm, hm, hlk⟩
   rw [Int.toNat_natCast] at hi
   have e0 : (0 : Int) + (i : Int) = (i : Nat) := by omega
   have his : i < sg.length := by omega
   refine ⟨_, rfl, m, rfl, by omega, by omega, fun Lk hLk => ?_⟩
   refine comp_range (fun j σ H' => ∃ (xs : List Nat) (v : Option V), σ = [v, some (.ref Sl), some (.int (0 + (i : Int)))] ∧ Same H4 H' ∧ H' Lk = some (.lst ((castI xs).map V.int)) ∧ xs.length ≤ j ∧ (∀ x ∈ xs, x < m ∧ sg.getD x 0 = sg.getD i 0) ∧ (i < j → xs ≠ []))
    ⟨[], none, ?sg2, Same.new hLk, upd_same, by simp, (fun x h => by cases h), fun h => absurd h (Nat.not_lt_zero _)⟩ ?_ ?_
   case sg2 => rfl
   ·rintro j σ H5 hj ⟨xs, v, rfl, s5, eL, lx, hx, hne⟩
    rw [Int.toNat_natCast] at hj
    have ej : (0 : Int) + (j : Int) = (j : Nat) := by omega
    have eS5 := s5 _ _ eS4
    refine ⟨_, rfl, _, rfl, Sl, _, _, _, rfl, rfl, .of eS5, atI_at (j := j) ej (castI_item (by omega)), _, rfl, _, rfl, Sl, _, _, _, rfl, rfl, .of eS5, atI_at (j := i) e0 (castI_item his), rfl, _, rfl, ?_⟩
    refine ite2 (fun h1 => ?_) (fun h1 => ?_)
    ·have h2 : V.int (sg.getD j 0 : Nat) = V.int (sg.getD i 0 : Nat) := of_decide_eq_true h1
     have h3 : sg.getD j 0 = sg.getD i 0 := by
      have := V.int.inj h2
      omega
     refine ⟨_, rfl, _, eL, ?_, xs ++ [j], _, rfl, s5.kbn hLk KB.write, ?_, ?_, ?_, fun _ z => by simp at z⟩
     ·rw [List.length_map, castI_len]; exact Nat.lt_of_lt_of_le (show xs.length < 100 by omega) (by decide)
     ·rw [upd_same, castI_app, List.map_append, ej]; rfl
     ·rw [List.length_append]; show xs.length + 1 ≤ j + 1; omega
     ·intro x hx'
      rcases List.mem_append.mp hx' with z | z
      ·exact hx x z
      ·have : x = j := by simpa using z
       subst this
       exact ⟨hj, h3⟩
    ·refine ⟨xs, _, rfl, s5, eL, by omega, hx, fun hij => ?_⟩
     by_cases e : i < j
     ·exact hne e
     ·have : i = j := by omega
      subst this
      exact absurd (decide_eq_true rfl) h1
   rintro σ H5 ⟨xs, v, rfl, s5, eL, lx, hx, hne⟩
   rw [Int.toNat_natCast] at lx hne
   have xne := hne hi
   have lx1 : 0 < xs.length := List.length_pos_iff.mpr xne
   have d5 := d4.same s5
   have nLd : Lk ≠ d := (d4.ne hLk).symm
   have eM5 := s5 _ _ eM4
   refine ⟨_, rfl, .inl ⟨rfl, _, .of eM5⟩, _, rfl, _, rfl, _, rfl, _, _, rfl, .inl ⟨_, .of eL, rfl⟩, d, _, rfl, d5, ?_, fun q H6 q0 q1 k6 d6 => ?_⟩
   ·rw [List.length_map, castI_len]; exact Int.ofNat_lt.mpr lx1
   rw [List.length_map, castI_len] at q1
   obtain ⟨qn, rfl⟩ : ∃ qn : Nat, q = (qn : Int) := ⟨q.toNat, by omega⟩
   have qlt : qn < xs.length := Int.ofNat_lt.mp q1
   obtain ⟨f0, f1⟩ := hx _ (List.mem_of_getElem? (item_at 0 qlt))
   refine ⟨Lk, _, _, _, rfl, rfl, .of (k6 _ _ eL nLd), atI_nat (castI_item qlt), ?_⟩
   refine ⟨by show 1 ≤ sizeLine; decide, fun A1 hA1 => ?_⟩
   have sA := Same.new (o := .tup [.int (xs.getD qn 0 : Nat)]) hA1
   have eA : (upd H6 A1 (.tup [.int (xs.getD qn 0 : Nat)])) A1 = some (.tup ((castI [xs.getD qn 0]).map V.int)) := upd_same
   have d7 := d6.same sA
   have k57 : KB d H4 (upd H6 A1 (.tup [.int (xs.getD qn 0 : Nat)])) := (s5.kb.trans k6).trans sA.kb
   generalize upd H6 A1 (.tup [.int (xs.getD qn 0 : Nat)]) = H7 at eA d7 k57 ⊢
   refine ⟨_, rfl, _, _, rfl, rfl, _, rfl, by omega, by omega, fun B1 hB1 => ?_⟩
   have nBd : B1 ≠ d := (d7.ne hB1).symm
   have sB := Same.new (o := .lst []) hB1
   refine comp_range (fun j σ H' => ∃ (zs : List Nat) (v : Option V), σ = [v, some (.ref d), some (.int m)] ∧ KB d H7 H' ∧ Deck2 H' d ∧ H' B1 = some (.lst ((castI zs).map V.int)) ∧ zs.length = j ∧ ∀ z ∈ zs, z < m)
    ⟨[], none, ?sg3, sB.kb, d7.same sB, upd_same, rfl, fun z h => by cases h⟩ ?_ ?_
   case sg3 => rfl
   ·rintro j σ H8 hj ⟨zs, v, rfl, k8, d8, eB, lz, hz⟩
    refine ⟨_, rfl, _, rfl, d, m, rfl, d8, by omega, fun q3 H9 q30 q31 k9 d9 => ?_⟩
    obtain ⟨zn, rfl⟩ : ∃ zn : Nat, q3 = (zn : Int) := ⟨q3.toNat, by omega⟩
    have eB9 := k9 _ _ eB nBd
    refine ⟨_, eB9, ?_, zs ++ [zn], _, rfl, ?_, d9.kb KB.write nBd.symm, ?_, ?_, ?_⟩
    ·rw [List.length_map, castI_len, lz]; exact Nat.lt_of_lt_of_le (show j < 100 by omega) (by decide)
    ·intro c o e n
     rw [upd_ne (ne_of_none e hB1)]
     exact k9 _ _ (k8 _ _ e n) n
    ·rw [upd_same, castI_app, List.map_append]; rfl
    ·rw [List.length_append, lz]; rfl
    ·intro z h
     rcases List.mem_append.mp h with y | y
     ·exact hz z y
     ·have : z = zn := by simpa using y
      subst this
      omega
   rintro σ H8 ⟨zs, v, rfl, k8, d8, eB, lz, hz⟩
   have lz' : zs.length = b - 1 := by omega
   refine ⟨B1, _, rfl, .inl ⟨.of eB, fun t1 ht1 => ?_⟩⟩
   have st1 := Same.new (o := .tup ((castI zs).map V.int)) ht1
   have et1 : (upd H8 t1 (.tup ((castI zs).map V.int))) t1 = some (.tup ((castI zs).map V.int)) := upd_same
   have eA8 : H8 A1 = some (.tup ((castI [xs.getD qn 0]).map V.int)) := by obtain ⟨ys, ex⟩ := d7.is; exact k8 _ _ eA (ne_of eA ex (fun z => nomatch z))
   have k48 : KB d H4 (upd H8 t1 (.tup ((castI zs).map V.int))) := (k57.trans k8).trans st1.kb
   have d9 := d8.same st1
   have eA9 := st1 _ _ eA8
   generalize upd H8 t1 (.tup ((castI zs).map V.int)) = H9 at et1 k48 d9 eA9 ⊢
   refine catN_by eA9 et1 ?_ ?_ fun u H10 s10 eu => ?_
   ·intro z
    have := congrArg List.length z
    rw [List.length_map, castI_len, lz'] at this
    have h0 : b - 1 = 0 := this
    omega
   ·rw [List.length_map, List.length_map, castI_len, castI_len, lz']
    exact Nat.le_trans (show [xs.getD qn 0].length + (b - 1) ≤ 10 by simp; omega) (by decide)
   have k410 : KB d H4 H10 := k48.trans s10.kb
   have kt : KTu H4 H10 := by obtain ⟨ys, ex⟩ := d4.is; exact KTu.kb ex k410
   have eM10 := k410 _ _ eM4 nMd
   have eu' : H10 u = some (.tup ((castI (xs.getD qn 0 :: zs)).map V.int)) := eu
   refine ⟨Ml, _, _, rfl, rfl, eM10, ?_, ?_⟩
   ·rw [List.length_map, Paired.length tp, List.length_map, lm]; exact Nat.lt_of_lt_of_le (show i < 100 by omega) (by decide)
   have ktM := KTu.lst (o := .lst (ps.map V.ref ++ [.ref u])) eM10
   refine ⟨mv ++ [xs.getD qn 0 :: zs], ps ++ [u], _, _, rfl, ?_, (d9.same s10).kb KB.write nMd.symm, ?_, ?_, ?_, ?_, ?_, ?_⟩
   ·intro c o e n
    rw [upd_ne (ne_of_none e hMl)]
    exact k410 _ _ (k4 _ _ e n) n
   ·rw [upd_ne nSM]; exact k410 _ _ eS4 nSd
   ·rw [upd_same, List.map_append]; rfl
   ·rw [List.map_append]
    exact paired_append ((tp.keep kt).keep ktM) (.cons (ktM _ _ eu') .nil)
   ·rw [List.length_append, lm]; rfl
   ·intro l hl
    rcases List.mem_append.mp hl with y | y
    ·exact hm l y
    ·rw [List.mem_singleton.mp y]
     refine ⟨by rw [List.length_cons, lz']; omega, fun z hz' => ?_⟩
     rcases List.mem_cons.mp hz' with e | e
     ·rw [e]; exact f0
     ·exact hz z e
   ·intro j l e
    by_cases c : j < mv.length
    ·rw [List.getElem?_append_left c] at e
     exact hlk j l e
    ·have hl := (List.getElem?_eq_some_iff.mp e).1
     rw [List.length_append] at hl
     have hl' : j < mv.length + 1 := hl
     have ej : j = mv.length := by omega
     subst ej
     rw [List.getElem?_append_right (Nat.le_refl _), Nat.sub_self] at e
     have e' : xs.getD qn 0 :: zs = l := Option.some.inj e
     rw [← e', lm]
     exact f1
  ·rintro σ H4 ⟨mv, ps, v5, v6, rfl, k4, d4, eS4, eM4, tp, lm, hm, hlk⟩
   rw [Int.toNat_natCast] at lm
   refine ⟨_, rfl, Sl, _, rfl, .inl ⟨.of eS4, fun t1 ht1 => ?_⟩⟩
   have s1 := Same.new (o := .tup ((castI sg).map V.int)) ht1
   refine ⟨_, rfl, Ml, _, rfl, .inl ⟨.of (s1 _ _ eM4), fun t2 ht2 => ?_⟩⟩
   have s2 := Same.new (o := .tup (ps.map V.ref)) ht2
   refine ⟨by show 2 ≤ sizeLine; decide, fun t3 ht3 => ?_⟩
   have s3 := Same.new (o := .tup [.ref t1, .ref t2]) ht3
   have sA := (s1.trans s2).trans s3
   refine k t3 sg mv _ ((k13.trans k4).trans sA.kb) (d4.same sA) ⟨t1, t2, ps, upd_same, s3 _ _ (s2 _ _ upd_same), s3 _ _ upd_same, tp.keep sA.kt⟩ ⟨by omega, by omega, ⟨b2, b4⟩, fun l hl => ⟨(hm l hl).1, fun x hx => by have := (hm l hl).2 x hx; omega⟩, hlk⟩ (by omega) (by omega)
def Good (H : Hp) (b : Nat) (kvs : List (Key × V)) (x : Str) : Prop := ∃ (r : Addr) (sg : List Nat) (mv : List (List Nat)), valV kvs (Sum.inr x) = some (.ref r) ∧ RowAt H r sg mv ∧ Right b sg mv ∧ 0 < sg.length
theorem Good.keep {H H' : Hp} {b : Nat} {kvs : List (Key × V)} {x : Str} (h : Good H b kvs x) (k : KTu H H') : Good H' b kvs x := by
 obtain ⟨r, sg, mv, h1, h2, h3⟩ := h
 exact ⟨r, sg, mv, h1, h2.keep k, h3⟩
structure Ks (H : Hp) (b : Nat) (kvs : List (Key × V)) (ks : List Str) : Prop where
 keys : kvs.map (·.1) = ks.map Sum.inr
 good : ∀ x ∈ ks, Good H b kvs x
 refs : ∀ p ∈ kvs, ∃ r, p.2 = .ref r
theorem Ks.keep {H H' : Hp} {b : Nat} {kvs : List (Key × V)} {ks : List Str} (h : Ks H b kvs ks) (k : KTu H H') : Ks H' b kvs ks := ⟨h.keys, fun x hx => (h.good x hx).keep k, h.refs⟩
theorem Ks.has {H : Hp} {b : Nat} {kvs : List (Key × V)} {ks : List Str} (h : kvs.map (·.1) = ks.map Sum.inr) (x : Str) : (kvs.any fun kv => decide (kv.1 = (Sum.inr x : Key))) = true ↔ x ∈ ks := by
 rw [List.any_eq_true]
 constructor
 ·rintro ⟨p, hp, e⟩
  have : (Sum.inr x : Key) ∈ kvs.map (·.1) := List.mem_map.mpr ⟨p, hp, of_decide_eq_true e⟩
  rw [h] at this
  obtain ⟨y, hy, ey⟩ := List.mem_map.mp this
  cases ey
  exact hy
 ·intro hx
  have : (Sum.inr x : Key) ∈ ks.map Sum.inr := List.mem_map.mpr ⟨x, hx, rfl⟩
  rw [← h] at this
  obtain ⟨p, hp, ep⟩ := List.mem_map.mp this
  exact ⟨p, hp, decide_eq_true ep⟩
theorem put_keys_in {kvs : List (Key × V)} {ks : List Str} (h : kvs.map (·.1) = ks.map Sum.inr) {x : Str} (v : V) (hx : x ∈ ks) : (putK kvs (Sum.inr x) v).map (·.1) = ks.map Sum.inr := by
 unfold putK
 rw [if_pos ((Ks.has (H := fun _ => none) (b := 0) h x).mpr hx), List.map_map, ← h]
 refine List.map_congr_left fun p _ => ?_
 show (if p.1 = Sum.inr x then (p.1, v) else p).1 = p.1
 split <;> rfl
theorem put_keys_new {kvs : List (Key × V)} {ks : List Str} (h : kvs.map (·.1) = ks.map Sum.inr) {x : Str} (v : V) (hx : x ∉ ks) : (putK kvs (Sum.inr x) v).map (·.1) = (ks ++ [x]).map Sum.inr := by
 unfold putK
 rw [if_neg (fun z => hx ((Ks.has (H := fun _ => none) (b := 0) h x).mp z)), List.map_append, h, List.map_append]
 rfl
theorem Ks.put {H : Hp} {b : Nat} {kvs : List (Key × V)} {ks : List Str} (h : Ks H b kvs ks) {x : Str} {r : Addr} {sg : List Nat} {mv : List (List Nat)} (ra : RowAt H r sg mv) (R : Right b sg mv) (s0 : 0 < sg.length) :
  ∃ ks', Ks H b (putK kvs (Sum.inr x) (.ref r)) ks' ∧ (∀ y, y ∈ ks' ↔ y ∈ ks ∨ y = x) ∧ ks'.length ≤ ks.length + 1 := by
 have good : ∀ y, y ∈ ks ∨ y = x → Good H b (putK kvs (Sum.inr x) (.ref r)) y := fun y hy => by
  by_cases e : y = x
  ·subst e
   exact ⟨r, sg, mv, by rw [valV_put, if_pos rfl], ra, R, s0⟩
  ·obtain ⟨r', sg', mv', h1, h2⟩ := h.good y (hy.resolve_right e)
   exact ⟨r', sg', mv', by rw [valV_put, if_neg (fun z => e (by cases z; rfl))]; exact h1, h2⟩
 have refs : ∀ p ∈ putK kvs (Sum.inr x) (.ref r), ∃ r, p.2 = .ref r := fun p hp => by
  rcases put_mem hp with e | e
  ·exact ⟨r, by rw [e]⟩
  ·exact h.refs p e
 by_cases c : x ∈ ks
 ·exact ⟨ks, ⟨put_keys_in h.keys _ c, fun y hy => good y (.inl hy), refs⟩, fun y => ⟨.inl, fun z => z.elim id fun e => e ▸ c⟩, Nat.le_succ _⟩
 ·refine ⟨ks ++ [x], ⟨put_keys_new h.keys _ c, fun y hy => good y ?_, refs⟩, fun y => by simp, by rw [List.length_append]; exact Nat.le_refl _⟩
  ·simpa using hy
theorem KTu.dk {H : Hp} {d : Addr} {kvs : List (Key × V)} {o : HO} (h : H d = some (.dK kvs)) : KTu H (upd H d o) := fun b ys e => by
 rw [upd_ne (ne_of e h (fun z => nomatch z))]; exact e
theorem put_len (kvs : List (Key × V)) (k : Key) (v : V) : (putK kvs k v).length ≤ kvs.length + 1 := by
 unfold putK
 by_cases c : (kvs.any fun kv => decide (kv.1 = k)) = true
 ·rw [if_pos c, List.length_map]; omega
 ·rw [if_neg c, List.length_append]; exact Nat.le_refl _
theorem Ks.isSome {kvs : List (Key × V)} {ks : List Str} (h : kvs.map (·.1) = ks.map Sum.inr) (x : Str) : (valV kvs (Sum.inr x)).isSome = decide (x ∈ ks) := by
 rw [← valV_any]
 have := Ks.has (H := fun _ => none) (b := 0) h x
 cases e : (kvs.any fun kv => decide (kv.1 = (Sum.inr x : Key))) with
 | true => exact (decide_eq_true (this.mp e)).symm
 | false => exact (decide_eq_false fun z => by rw [this.mpr z] at e; cases e).symm
def spWorld : Sp := fun vs H Q _ => ∃ d : Addr, vs = [.ref d] ∧ Deck2 H d ∧ ∀ (wa D : Addr) (b : Nat) (kvs : List (Key × V)) (ks : List Str) (H' : Hp), KB d H H' → Deck2 H' d → H' wa = some (.tup [.int b, .ref D]) → H' D = some (.dK kvs) → Ks H' b kvs ks → 2 ≤ b → b ≤ 4 → ks.length ≤ 4 → H D = none → Q (.ref wa) H'
theorem sc_l_world : FnScope ["_law_deck_here", "_law_base", "_law_rows", "_law_name"] ["_law_deck_here"] (defScope s_l_world) := ⟨rfl, rfl, rfl, by decide +kernel, rfl, by decide +kernel, by decide +kernel⟩
theorem ok_l_world {a : Adr} (T : Txt K mg a) : FnOk P w K mg base CX0 3 a.f_l_world a.fd_l_world ["_law_deck_here"] spWorld := by
 have G_l_next := ok_l_next (P := P) (w := w) (base := base) T
 have G_l_names := ok_l_names (P := P) (w := w) (base := base) T
 have G_l_row := ok_l_row (P := P) (w := w) (base := base) T
 refine T.F_l_world.ok sc_l_world (fun vs H Q E h => ?_) (fun cdv A outer s H vs Q E hr h => ?_)
 ·obtain ⟨d, rfl, _⟩ := h
  rfl
 ·obtain ⟨d, rfl, d0, k⟩ := h
  have hr_l_next : Room 1 _ := hr.mono (by decide)
  have hr_l_names : Room 2 _ := hr
  have hr_l_row : Room 2 _ := hr
  refine ⟨_, (pss_cons (ps_set (i := 1) sc_l_world.nd rfl (Or.inl rfl) (pe_op op_add pe_int (pe_call G_l_next hr_l_next rfl T.m_l_next T.k_l_next T.b_l_next .nil pass0 (pa_cons (pv 0) (pa_cons pe_int pa_nil)))))
  (pss_cons (ps_set (i := 2) sc_l_world.nd rfl (Or.inl rfl) pe_dnewK)
  (pss_cons (ps_for PassesOwn.never rfl (pi_list (pe_call G_l_names hr_l_names rfl T.m_l_names T.k_l_names T.b_l_names .nil pass0 (pa_cons (pv 0) (pa_cons (pe_call G_l_next hr_l_next rfl T.m_l_next T.k_l_next T.b_l_next .nil pass0 (pa_cons (pv 0) (pa_cons pe_int pa_nil))) (pa_cons pe_bl pa_nil))))) (pg_name (i := 3) sc_l_world.nd rfl (Or.inl rfl))
   (pss_one (ps_dput (hu_of hr) (pv 2) (pv 3) (pe_call G_l_row hr_l_row rfl T.m_l_row T.k_l_row T.b_l_row .nil pass0 (pa_cons (pv 0) (pa_cons (pv 1) pa_nil))) rfl)))
  (pss_one (ps_ret (pe_tup (pa_cons (pv 1) (pa_cons (pv 2) pa_nil)))))))), ?_⟩
  refine ⟨_, rfl, d, 3, rfl, d0, by decide, fun r H1 r0 r1 k1 d1 => ⟨_, _, rfl, rfl, ?_⟩⟩
  obtain ⟨b, eb⟩ : ∃ b : Nat, 2 + r = (b : Int) := ⟨(2 + r).toNat, by omega⟩
  have b2 : 2 ≤ b := by omega
  have b4 : b ≤ 4 := by omega
  dsimp only [gName]
  rw [eb]
  refine fun D hD => ?_
  have sD := Same.new (o := .dK []) hD
  have nDd : D ≠ d := (d1.ne hD).symm
  have hD0 : H D = none := by
   cases z : H D with
   | none => rfl
   | some o => have := k1 D o z nDd; rw [hD] at this; cases this
  refine ⟨_, rfl, _, rfl, d, 5, rfl, d1.same sD, by decide, fun q H2 q0 q1 k2 d2 => ?_⟩
  obtain ⟨m, rfl⟩ : ∃ m : Nat, q = (m : Int) := ⟨q.toNat, by omega⟩
  refine ⟨d, m, true, rfl, d2, by omega, fun N ss H3 hN k3 d3 eN ls _ => ?_⟩
  have nNd : N ≠ d := (d2.ne hN).symm
  have eD2 : H2 D = some (.dK []) := k2 _ _ upd_same nDd
  have eD3 := k3 _ _ eD2 nDd
  have nND : N ≠ D := (ne_of_none eD2 hN).symm
  have k13 : KB d H H3 := (k1.trans sD.kb).trans (k2.trans k3)
  refine ⟨N, rfl, ⟨_, .of eN⟩, for_list (xs := ss.map V.str) (fun i σ H' => ∃ (kvs : List (Key × V)) (ks : List Str) (v3 : Option V), σ = [some (.ref d), some (.int b), some (.ref D), v3] ∧ KB d H H' ∧ Deck2 H' d ∧ H' D = some (.dK kvs) ∧ H' N = some (.lst (ss.map V.str)) ∧ Ks H' b kvs ks ∧ ks.length ≤ i ∧ kvs.length ≤ i)
   ⟨[], [], none, rfl, k13, d3, eD3, eN, ⟨rfl, (fun x hx => by cases hx), (fun p hp => by cases hp)⟩, Nat.le_refl _, Nat.le_refl _⟩ (fun i σ H' _ ⟨_, _, _, _, _, _, _, h, _⟩ => .of h) ?_ ?_⟩
  ·rintro i y σ H5 hy ⟨kvs, ks, v3, rfl, k5, d5, eD5, eN5, K5, lk, lv⟩
   obtain ⟨z, rfl, ez⟩ := strItem hy
   have hi : i < ss.length := (List.getElem?_eq_some_iff.mp ez).1
   refine ⟨_, rfl, _, rfl, d, b, rfl, d5, b2, b4, fun rr sg mv H6 k6 d6 ra R s0 _ => ?_⟩
   have eD6 := k6 _ _ eD5 nDd
   have kt : KTu H5 H6 := by obtain ⟨xs, ex⟩ := d5.is; exact KTu.kb ex k6
   obtain ⟨ks', K6, hk', lk'⟩ := (K5.keep kt).put ra R s0
   refine ⟨_, rfl, _, rfl, D, _, rfl, DPut.k (k := Sum.inr z) eD6 (Nat.lt_of_le_of_lt (show kvs.length ≤ 100 by omega) (by decide)), ?_⟩
   have ktD := KTu.dk (o := .dK (putK kvs (Sum.inr z) (.ref rr))) eD6
   refine ⟨_, ks', _, rfl, ?_, d6.kb KB.write nDd.symm, upd_same, by rw [upd_ne nND]; exact k6 _ _ eN5 nNd, K6.keep ktD, by omega, Nat.le_trans (put_len _ _ _) (by omega)⟩
   intro c o e n
   rw [upd_ne (ne_of_none e hD0)]
   exact k6 _ _ (k5 _ _ e n) n
  ·rintro σ H5 ⟨kvs, ks, v3, rfl, k5, d5, eD5, eN5, K5, lk, lv⟩
   rw [List.length_map, ls] at lk
   refine ⟨_, rfl, _, rfl, by show 2 ≤ sizeLine; decide, fun wa hwa => ?_⟩
   have sw := Same.new (o := .tup [.int b, .ref D]) hwa
   exact k wa D b kvs ks _ (k5.trans sw.kb) (d5.same sw) upd_same (sw _ _ eD5) (K5.keep sw.kt) b2 b4 (by omega) hD0
theorem dd_le : ∀ l : List Str, (dd l).length ≤ l.length
 | [] => Nat.le_refl _
 | x :: l => by
  have := dd_le l
  unfold dd
  split
  ·rw [List.length_cons]; omega
  ·rw [List.length_cons, List.length_cons]; omega
theorem bad_row {R : List Str} {f : Say} {a : Str} (h : a ∈ f.rowsOf) (hr : a ∉ R) : bad R f = true := by
 unfold bad
 rw [Bool.or_eq_true]
 exact .inl (List.any_eq_true.mpr ⟨a, h, by rw [decide_eq_false hr]; rfl⟩)
theorem bad_many {R xs : List Str} {f : Say} (h : xs.Nodup) (hl : xs.length = 4) (hm : ∀ x ∈ xs, x ∈ f.fr) : bad R f = true := by
 unfold bad
 rw [Bool.or_eq_true]
 have := nodup_len (ss := dd f.fr) h fun y hy => (mem_dd y _).mpr (hm y hy)
 exact .inr (decide_eq_true (by omega))
theorem good_of {R : List Str} {f : Say} (h : ∀ a ∈ f.rowsOf, a ∈ R) (hl : f.fr.length ≤ 3) : bad R f = false := by
 unfold bad
 rw [Bool.or_eq_false_iff]
 refine ⟨List.any_eq_false.mpr fun a ha => by rw [decide_eq_true (h a ha)]; decide, decide_eq_false ?_⟩
 have := dd_le f.fr
 omega
theorem leaf_bad {R : List Str} {f : Say} (hi : f.inner = []) (hb : bad R f = true) : firstAt R f [] = some [] := by
 rw [first_self (fun j g hg => by rw [hi] at hg; simp at hg), if_pos hb]
theorem leaf_good {R : List Str} {f : Say} (hi : f.inner = []) (hb : bad R f = false) (ns : List Nat) : firstAt R f ns = none := by
 rw [first_self (fun j g hg => by rw [hi] at hg; simp at hg), if_neg (by rw [hb]; decide)]
theorem wrap0 {R : List Str} {f g : Say} {ns : List Nat} (hi : f.inner[0]? = some g) (h : firstAt R g [] = some ns) : firstAt R f [] = some (0 :: ns) :=
 first_kid hi (fun j g hj => absurd hj (Nat.not_lt_zero _)) (by rw [first_shift, h]; rfl)
theorem wrap1 {R : List Str} {f g u : Say} {ns : List Nat} (hi : f.inner[1]? = some g) (hu : f.inner[0]? = some u) (h0 : firstAt R u [0] = none) (h : firstAt R g [] = some ns) : firstAt R f [] = some (1 :: ns) :=
 first_kid hi (fun j v hj hv => by
  have e : j = 0 := by omega
  subst e
  rw [hu] at hv
  cases hv
  exact h0) (by rw [first_shift, h]; rfl)
def fours (t1 t2 wd la : Term) (two more : Say) (lost : Str) : List Say :=
 [.sign lost t1 1, .alike lost t1 "K" t2, .alike "K" t1 lost t2, .same wd la, .less la wd, .alike "K" wd "K" la, .and two more]
theorem seven_bad {ss : List Str} {lost : Str} {t1 t2 wd la u1 u2 : Term} (nd : ss.Nodup) (l4 : 4 ≤ ss.length) (hlost : lost ≠ "K") (h1 : ∃ n, n ∈ ss ∧ t1.parts = [(n, 1)]) (h2 : ∃ n, n ∈ ss ∧ t2.parts = [(n, 1)])
  (hw : (wd.parts.map (·.1)).Perm (ss.take 3)) (hl : ∃ n, ss[3]? = some n ∧ la.parts = [(n, 1)]) (hx : (u1.parts.map (·.1)).Perm (ss.take 2)) (hy : (u2.parts.map (·.1)).Perm ((ss.drop 2).take 2)) :
  ∀ f ∈ fours t1 t2 wd la (.same u1 ⟨4, []⟩) (.less u2 ⟨4, []⟩) lost, firstAt ["K"] f [] = some [] ∧ f.deep ≤ 1 ∧ f.Over ss := by
 obtain ⟨a1, m1, e1⟩ := h1
 obtain ⟨a2, m2, e2⟩ := h2
 obtain ⟨n3, i3, e3⟩ := hl
 have lo : lost ∉ (["K"] : List Str) := fun z => hlost (List.mem_singleton.mp z)
 have o1 : TOver ss t1 := ⟨by rw [e1]; simp, fun q hq => by rw [e1] at hq; rw [List.mem_singleton.mp hq]; exact m1⟩
 have o2 : TOver ss t2 := ⟨by rw [e2]; simp, fun q hq => by rw [e2] at hq; rw [List.mem_singleton.mp hq]; exact m2⟩
 have ol : TOver ss la := ⟨by rw [e3]; simp, fun q hq => by rw [e3] at hq; rw [List.mem_singleton.mp hq]; exact List.mem_of_getElem? i3⟩
 have ow : TOver ss wd := by
  refine ⟨?_, fun q hq => ?_⟩
  ·have := hw.length_eq
   rw [List.length_map, List.length_take] at this
   omega
  ·exact List.mem_of_mem_take (hw.mem_iff.mp (List.mem_map.mpr ⟨q, hq, rfl⟩))
 have ox : TOver ss u1 := by
  refine ⟨?_, fun q hq => ?_⟩
  ·have := hx.length_eq
   rw [List.length_map, List.length_take] at this
   omega
  ·exact List.mem_of_mem_take (hx.mem_iff.mp (List.mem_map.mpr ⟨q, hq, rfl⟩))
 have oy : TOver ss u2 := by
  refine ⟨?_, fun q hq => ?_⟩
  ·have := hy.length_eq
   rw [List.length_map, List.length_take] at this
   omega
  ·exact List.mem_of_mem_drop (List.mem_of_mem_take (hy.mem_iff.mp (List.mem_map.mpr ⟨q, hq, rfl⟩)))
 have o4 : TOver ss ⟨4, []⟩ := ⟨by simp, fun q hq => by cases hq⟩
 have nd4 : (ss.take 4).Nodup := nd.sublist (List.take_sublist 4 ss)
 have l4' : (ss.take 4).length = 4 := by rw [List.length_take]; omega
 have all : ∀ x ∈ ss.take 4, x ∈ tnm wd ∨ x ∈ tnm la := fun x hx' => by
  rw [take_snoc i3] at hx'
  rcases List.mem_append.mp hx' with z | z
  ·exact .inl (hw.mem_iff.mpr z)
  ·refine .inr ?_
   unfold tnm
   rw [e3]
   simpa using z
 have all2 : ∀ x ∈ ss.take 4, x ∈ tnm u1 ∨ x ∈ tnm u2 := fun x hx' => by
  rw [show (4 : Nat) = 2 + 2 from rfl, List.take_add] at hx'
  rcases List.mem_append.mp hx' with z | z
  ·exact .inl (hx.mem_iff.mpr z)
  ·exact .inr (hy.mem_iff.mpr z)
 have lx : (tnm u1).length ≤ 3 := by unfold tnm; rw [hx.length_eq, List.length_take]; omega
 have ly : (tnm u2).length ≤ 3 := by unfold tnm; rw [hy.length_eq, List.length_take]; omega
 intro f hf
 unfold fours at hf
 simp only [List.mem_cons, List.not_mem_nil, or_false] at hf
 rcases hf with rfl | rfl | rfl | rfl | rfl | rfl | rfl
 ·exact ⟨leaf_bad rfl (bad_row (a := lost) (by simp [Say.rowsOf]) lo), by simp [Say.deep], o1⟩
 ·exact ⟨leaf_bad rfl (bad_row (a := lost) (by simp [Say.rowsOf]) lo), by simp [Say.deep], o1, o2⟩
 ·exact ⟨leaf_bad rfl (bad_row (a := lost) (by simp [Say.rowsOf]) lo), by simp [Say.deep], o1, o2⟩
 ·exact ⟨leaf_bad rfl (bad_many nd4 l4' fun x hx' => List.mem_append.mpr (all x hx')), by simp [Say.deep], ow, ol⟩
 ·exact ⟨leaf_bad rfl (bad_many nd4 l4' fun x hx' => List.mem_append.mpr (all x hx').symm), by simp [Say.deep], ol, ow⟩
 ·exact ⟨leaf_bad rfl (bad_many nd4 l4' fun x hx' => List.mem_append.mpr (all x hx')), by simp [Say.deep], ow, ol⟩
 ·refine ⟨?_, by simp [Say.deep], ⟨ox, o4⟩, ⟨oy, o4⟩⟩
  have g1 : bad ["K"] (.same u1 ⟨4, []⟩) = false := good_of (fun a ha => by simp [Say.rowsOf] at ha) (by simp [Say.fr, tnm]; unfold tnm at lx; simpa using lx)
  have g2 : bad ["K"] (.less u2 ⟨4, []⟩) = false := good_of (fun a ha => by simp [Say.rowsOf] at ha) (by simp [Say.fr, tnm]; unfold tnm at ly; simpa using ly)
  rw [first_self fun j g hg => ?_, if_pos (bad_many nd4 l4' fun x hx' => ?_)]
  ·simp only [Say.fr, List.mem_append]
   rcases all2 x hx' with z | z
   ·exact .inl (.inl z)
   ·exact .inr (.inl z)
  ·match j, hg with
   | 0, hg => cases hg; exact leaf_good rfl g1 _
   | 1, hg => cases hg; exact leaf_good rfl g2 _
   | j + 2, hg => simp [Say.inner] at hg
theorem seq_abs {t u : TS} {D : Ends} {σ : St} {H : Hp} (h : ∀ R : St → Hp → Prop, (∀ σ H, u D σ H → R σ H) → t { D with nx := R } σ H) : tSeq t u D σ H := h (u D) fun _ _ z => z
theorem seq_rest2 {t u : TS} {D : Ends} {σ : St} {H : Hp} (Pv : St → Hp → Prop) (h1 : ∀ σ H, Pv σ H → u D σ H) (h2 : ∀ R : St → Hp → Prop, (∀ σ H, Pv σ H → R σ H) → t { D with nx := R } σ H) : tSeq t u D σ H := h2 (u D) h1
theorem cutM {α : Type} {f : α → V} (xs : List α) (n : Nat) (h : n ≤ xs.length) : cutV (xs.map f) none (some (n : Int)) = (xs.take n).map f := by
 unfold cutV
 rw [HT.sIx_none, HT.sIx_nat, List.length_map, List.drop_zero, Nat.sub_zero, Nat.min_eq_left h, List.map_take]
theorem cutMid {α : Type} {f : α → V} (xs : List α) (n m : Nat) (h1 : n ≤ m) (h2 : m ≤ xs.length) : cutV (xs.map f) (some (n : Int)) (some (m : Int)) = ((xs.drop n).take (m - n)).map f := by
 unfold cutV
 rw [HT.sIx_nat, HT.sIx_nat, List.length_map, Nat.min_eq_left (Nat.le_trans h1 h2), Nat.min_eq_left h2, List.map_take, List.map_drop]
theorem terms_noL' : ∀ ts : List Term, Dt.noLs (ts.map Term.dt) = true
 | [] => by simp [Dt.noLs]
 | t :: ts => by rw [List.map_cons, Dt.noLs, terms_noL' ts, t.noL]; rfl
def spOneWrong (K : PySem.W.Frag) : Sp := fun vs H Q _ => ∃ (d N : Addr) (lost : Str) (ss : List Str), vs = [.ref d, .ref N, .str "K", .str lost] ∧ Deck2 H d ∧ H N = some (.lst (ss.map V.str)) ∧ N ≠ d ∧ 4 ≤ ss.length ∧ ss.length ≤ 6 ∧ ss.Nodup ∧ lost ≠ "K" ∧
 ∀ (r pl : Addr) (x : V) (f : Say) (ns : List Nat) (H' : Hp), KB d H H' → Deck2 H' d → H' r = some (.tup [x, .ref pl]) → DatAt K H' x f.dt → f.deep ≤ 15 → f.Over ss → H' pl = some (.tup (natsV ns)) → ns.length ≤ 10 → firstAt ["K"] f [] = some ns → Q (.ref r) H'
theorem sc_l_one_wrong : FnScope ["_law_deck_here", "_law_names_here", "_law_kept", "_law_lost", "_law_one", "_law_other", "_law_wide", "_law_last", "_law_two", "_law_more", "_law_some", "_law_saying_here", "_law_place", "_law_k", "_law_goes", "_law_good"] ["_law_deck_here", "_law_names_here", "_law_kept", "_law_lost"] (defScope s_l_one_wrong) := ⟨rfl, rfl, rfl, by decide +kernel, rfl, by decide +kernel, by decide +kernel⟩
theorem ok_l_one_wrong {a : Adr} (T : Txt K mg a) : FnOk P w K mg base CX0 2 a.f_l_one_wrong a.fd_l_one_wrong ["_law_deck_here", "_law_names_here", "_law_kept", "_law_lost"] (spOneWrong K) := by
 have G_l_next := ok_l_next (P := P) (w := w) (base := base) T
 refine T.F_l_one_wrong.ok sc_l_one_wrong (fun vs H Q E h => ?_) (fun cdv A outer s H vs Q E hr h => ?_)
 ·obtain ⟨d, N, lost, ss, rfl, _⟩ := h
  rfl
 ·obtain ⟨d, N, lost, ss, rfl, d0, eN, nNd, l4, l6, nd, hlost, k⟩ := h
  have hr_l_next : Room 1 _ := hr
  refine ⟨_, (pss_cons (ps_asg (pe_comp (CompScope.mk' (esc := defScope s_l_one_wrong) (N := ["_law_deck_here", "_law_names_here", "_law_kept", "_law_lost", "_law_one", "_law_other", "_law_wide", "_law_last", "_law_two", "_law_more", "_law_some", "_law_saying_here", "_law_place", "_law_k", "_law_goes", "_law_good"]) (own := ["_law_name"]) (frn := ["_law_deck_here"]) (frj := [0]) rfl rfl (by decide +kernel)) rfl (pi_list (pe_slice (sl_listK K) (pv 1) po_none (po_some pe_int))) (fun _ _ _ _ => (pg_name (i := 0) (show List.Nodup (["_law_name", "_law_deck_here"] : List Str) by decide +kernel) rfl (Or.inl rfl))) (fun _ _ _ _ => pifs_nil) (fun _ _ _ _ => (pe_tup (pa_cons (pe_call G_l_next hr_l_next rfl T.m_l_next T.k_l_next T.b_l_next .nil pass0 (pa_cons (pv 1) (pa_cons pe_int pa_nil))) (pa_cons (pe_tup (pa_cons (pe_tup (pa_cons (pv 0) (pa_cons pe_int pa_nil))) pa_nil)) pa_nil))))) (pg_lst rfl (pgs_cons (pg_name (i := 4) sc_l_one_wrong.nd rfl (Or.inl rfl)) (pgs_cons (pg_name (i := 5) sc_l_one_wrong.nd rfl (Or.inl rfl)) pgs_nil))))
  (pss_cons (ps_set (i := 6) sc_l_one_wrong.nd rfl (Or.inl rfl) (pe_tup (pa_cons pe_int (pa_cons (pe_callTy (call_tupleK K) (by rfl) T.z_tuple bt_tuple (pa_cons (pe_comp (CompScope.mk' (esc := defScope s_l_one_wrong) (N := ["_law_deck_here", "_law_names_here", "_law_kept", "_law_lost", "_law_one", "_law_other", "_law_wide", "_law_last", "_law_two", "_law_more", "_law_some", "_law_saying_here", "_law_place", "_law_k", "_law_goes", "_law_good"]) (own := ["_law_name"]) (frn := ["_law_deck_here"]) (frj := [0]) rfl rfl (by decide +kernel)) rfl (pi_list (pe_callB (call_sortSK K) (by rfl) T.z_sorted bt_sorted (pa_cons (pe_slice (sl_listK K) (pv 1) po_none (po_some pe_int)) pa_nil))) (fun _ _ _ _ => (pg_name (i := 0) (show List.Nodup (["_law_name", "_law_deck_here"] : List Str) by decide +kernel) rfl (Or.inl rfl))) (fun _ _ _ _ => pifs_nil) (fun _ _ _ _ => (pe_tup (pa_cons (pv 0) (pa_cons (pe_op op_add pe_int (pe_call G_l_next hr_l_next rfl T.m_l_next T.k_l_next T.b_l_next .nil pass0 (pa_cons (pv 1) (pa_cons pe_int pa_nil)))) pa_nil))))) pa_nil)) pa_nil))))
  (pss_cons (ps_set (i := 7) sc_l_one_wrong.nd rfl (Or.inl rfl) (pe_tup (pa_cons (pe_call G_l_next hr_l_next rfl T.m_l_next T.k_l_next T.b_l_next .nil pass0 (pa_cons (pv 0) (pa_cons pe_int pa_nil))) (pa_cons (pe_tup (pa_cons (pe_tup (pa_cons (pe_ix (ix_listK K) (pv 1) pe_int (fun _ _ => rfl)) (pa_cons pe_int pa_nil))) pa_nil)) pa_nil))))
  (pss_cons (ps_set (i := 8) sc_l_one_wrong.nd rfl (Or.inl rfl) (pe_tup (pa_cons pe_str (pa_cons (pe_tup (pa_cons pe_int (pa_cons (pe_callTy (call_tupleK K) (by rfl) T.z_tuple bt_tuple (pa_cons (pe_comp (CompScope.mk' (esc := defScope s_l_one_wrong) (N := ["_law_deck_here", "_law_names_here", "_law_kept", "_law_lost", "_law_one", "_law_other", "_law_wide", "_law_last", "_law_two", "_law_more", "_law_some", "_law_saying_here", "_law_place", "_law_k", "_law_goes", "_law_good"]) (own := ["_law_name"]) (frn := []) (frj := []) rfl rfl (by decide +kernel)) rfl (pi_list (pe_callB (call_sortSK K) (by rfl) T.z_sorted bt_sorted (pa_cons (pe_slice (sl_listK K) (pv 1) po_none (po_some pe_int)) pa_nil))) (fun _ _ _ _ => (pg_name (i := 0) (show List.Nodup (["_law_name"] : List Str) by decide +kernel) rfl (Or.inl rfl))) (fun _ _ _ _ => pifs_nil) (fun _ _ _ _ => (pe_tup (pa_cons (pv 0) (pa_cons pe_int pa_nil))))) pa_nil)) pa_nil))) (pa_cons (pe_tup (pa_cons pe_int (pa_cons (pe_tup pa_nil) pa_nil))) pa_nil)))))
  (pss_cons (ps_set (i := 9) sc_l_one_wrong.nd rfl (Or.inl rfl) (pe_tup (pa_cons pe_str (pa_cons (pe_tup (pa_cons pe_int (pa_cons (pe_callTy (call_tupleK K) (by rfl) T.z_tuple bt_tuple (pa_cons (pe_comp (CompScope.mk' (esc := defScope s_l_one_wrong) (N := ["_law_deck_here", "_law_names_here", "_law_kept", "_law_lost", "_law_one", "_law_other", "_law_wide", "_law_last", "_law_two", "_law_more", "_law_some", "_law_saying_here", "_law_place", "_law_k", "_law_goes", "_law_good"]) (own := ["_law_name"]) (frn := []) (frj := []) rfl rfl (by decide +kernel)) rfl (pi_list (pe_callB (call_sortSK K) (by rfl) T.z_sorted bt_sorted (pa_cons (pe_slice (sl_listK K) (pv 1) (po_some pe_int) (po_some pe_int)) pa_nil))) (fun _ _ _ _ => (pg_name (i := 0) (show List.Nodup (["_law_name"] : List Str) by decide +kernel) rfl (Or.inl rfl))) (fun _ _ _ _ => pifs_nil) (fun _ _ _ _ => (pe_tup (pa_cons (pv 0) (pa_cons pe_int pa_nil))))) pa_nil)) pa_nil))) (pa_cons (pe_tup (pa_cons pe_int (pa_cons (pe_tup pa_nil) pa_nil))) pa_nil)))))
  (pss_cons (ps_set (i := 10) sc_l_one_wrong.nd rfl (Or.inl rfl) (pe_lst (pa_cons (pe_tup (pa_cons pe_str (pa_cons (pv 3) (pa_cons (pv 4) (pa_cons pe_int pa_nil))))) (pa_cons (pe_tup (pa_cons pe_str (pa_cons (pv 3) (pa_cons (pv 4) (pa_cons (pv 2) (pa_cons (pv 5) pa_nil)))))) (pa_cons (pe_tup (pa_cons pe_str (pa_cons (pv 2) (pa_cons (pv 4) (pa_cons (pv 3) (pa_cons (pv 5) pa_nil)))))) pa_nil)))))
  (pss_cons (ps_set (i := 10) sc_l_one_wrong.nd rfl (Or.inl rfl) (pe_op op_cat (pv 10) (pe_lst (pa_cons (pe_tup (pa_cons pe_str (pa_cons (pv 6) (pa_cons (pv 7) pa_nil)))) (pa_cons (pe_tup (pa_cons pe_str (pa_cons (pv 7) (pa_cons (pv 6) pa_nil)))) (pa_cons (pe_tup (pa_cons pe_str (pa_cons (pv 2) (pa_cons (pv 6) (pa_cons (pv 2) (pa_cons (pv 7) pa_nil)))))) (pa_cons (pe_tup (pa_cons pe_str (pa_cons (pv 8) (pa_cons (pv 9) pa_nil)))) pa_nil)))))))
  (pss_cons (ps_set (i := 11) sc_l_one_wrong.nd rfl (Or.inl rfl) (pe_ix (ix_listK K) (pv 10) (pe_call G_l_next hr_l_next rfl T.m_l_next T.k_l_next T.b_l_next .nil pass0 (pa_cons (pv 0) (pa_cons pe_int pa_nil))) (fun _ _ => rfl)))
  (pss_cons (ps_set (i := 12) sc_l_one_wrong.nd rfl (Or.inl rfl) (pe_tup pa_nil))
  (pss_cons (ps_for PassesOwn.never rfl (pi_range1 rfl T.z_range (pa_cons (pe_call G_l_next hr_l_next rfl T.m_l_next T.k_l_next T.b_l_next .nil pass0 (pa_cons (pv 0) (pa_cons pe_int pa_nil))) pa_nil)) (pg_name (i := 13) sc_l_one_wrong.nd rfl (Or.inl rfl))
   (pss_cons (ps_set (i := 14) sc_l_one_wrong.nd rfl (Or.inl rfl) (pe_call G_l_next hr_l_next rfl T.m_l_next T.k_l_next T.b_l_next .nil pass0 (pa_cons (pv 0) (pa_cons pe_int pa_nil))))
   (pss_cons (ps_set (i := 15) sc_l_one_wrong.nd rfl (Or.inl rfl) (pe_tup (pa_cons pe_str (pa_cons (pv 2) (pa_cons (pv 4) (pa_cons pe_int pa_nil))))))
   (pss_cons (ps_if (pt_cmpR op_lt (pv 14) pe_int (nomark _))
    (pss_one (ps_set (i := 11) sc_l_one_wrong.nd rfl (Or.inl rfl) (pe_ix (ix_listK K) (pe_lst (pa_cons (pe_tup (pa_cons pe_str (pa_cons (pv 15) (pa_cons (pv 11) pa_nil)))) (pa_cons (pe_tup (pa_cons pe_str (pa_cons (pv 15) (pa_cons (pv 11) pa_nil)))) pa_nil))) (pv 14) (fun _ _ => rfl))))
    (pss_one (ps_if (pt_cmpR op_lt (pv 14) pe_int (nomark _))
     (pss_one (ps_set (i := 11) sc_l_one_wrong.nd rfl (Or.inl rfl) (pe_ix (ix_listK K) (pe_lst (pa_cons (pe_tup (pa_cons pe_str (pa_cons (pv 11) (pa_cons (pv 15) pa_nil)))) (pa_cons (pe_tup (pa_cons pe_str (pa_cons (pv 11) (pa_cons (pv 15) pa_nil)))) pa_nil))) (pe_op op_sub (pv 14) pe_int) (fun _ _ => rfl))))
     (pss_one (ps_if (pt_cmpR op_eq (pv 14) pe_int (nomark _))
      (pss_one (ps_set (i := 11) sc_l_one_wrong.nd rfl (Or.inl rfl) (pe_tup (pa_cons pe_str (pa_cons (pv 11) pa_nil)))))
      (pss_one (ps_set (i := 11) sc_l_one_wrong.nd rfl (Or.inl rfl) (pe_tup (pa_cons (pe_ix (ix_listK K) (pe_lst (pa_cons pe_str (pa_cons pe_str pa_nil))) (pe_call G_l_next hr_l_next rfl T.m_l_next T.k_l_next T.b_l_next .nil pass0 (pa_cons (pv 0) (pa_cons pe_int pa_nil))) (fun _ _ => rfl)) (pa_cons (pe_ix (ix_listK K) (pv 1) (pe_call G_l_next hr_l_next rfl T.m_l_next T.k_l_next T.b_l_next .nil pass0 (pa_cons (pv 0) (pa_cons pe_int pa_nil))) (fun _ _ => rfl)) (pa_cons (pv 11) pa_nil)))))))))))
   (pss_one (ps_set (i := 12) sc_l_one_wrong.nd rfl (Or.inl rfl) (pe_op op_catT (pe_tup (pa_cons (pe_callTy call_int1 (by rfl) T.z_int bt_int (pa_cons (pe_cmpR op_lt (pv 14) pe_int (nomark _)) pa_nil)) pa_nil)) (pv 12))))))))
  (pss_one (ps_ret (pe_tup (pa_cons (pv 11) (pa_cons (pv 12) pa_nil))))))))))))))), ?_⟩
  have small : ∀ {n : Nat}, n ≤ 1000 → n < sizeLine := fun h => Nat.lt_of_le_of_lt h (by decide)
  refine seq_abs fun R hR => ?_
  refine ⟨_, rfl, _, rfl, N, _, rfl, .of eN, fun S hS => ⟨S, rfl, ⟨_, .of upd_same⟩, fun C hC => ?_⟩⟩
  rw [show (some (2 : Int)) = some ((2 : Nat) : Int) from rfl, cutM ss 2 (by omega)] at *
  have sS := Same.new (o := .lst ((ss.take 2).map V.str)) hS
  have nSd : S ≠ d := (d0.ne hS).symm
  have nSC : S ≠ C := ne_of_none upd_same hC
  have nCd : C ≠ d := ((d0.same sS).ne hC).symm
  have sC := Same.new (o := .lst []) hC
  have l2 : (ss.take 2).length = 2 := by rw [List.length_take]; omega
  refine comp_list (xs := (ss.take 2).map V.str) (fun j σ H' => ∃ (ys : List V) (ts : List Term) (v : Option V), σ = [v, some (.ref d)] ∧ KB d H H' ∧ Deck2 H' d ∧ H' S = some (.lst ((ss.take 2).map V.str)) ∧ H' C = some (.lst ys) ∧ DatsAt K H' ys (ts.map Term.dt) ∧ ts.length = j ∧ ∀ t ∈ ts, ∃ n, n ∈ ss ∧ t.parts = [(n, 1)])
   ⟨[], [], none, ?sg1, sS.kb.trans sC.kb, (d0.same sS).same sC, sC _ _ upd_same, upd_same, dats_nil, rfl, fun t ht => by cases ht⟩ (fun j σ H' _ ⟨_, _, _, _, _, _, h, _⟩ => .of h) ?_ ?_
  case sg1 => rfl
  ·rintro j y σ H1 hy ⟨ys, ts, v, rfl, k1, d1, eS1, eC1, da, lt, ht⟩
   obtain ⟨nm, rfl, en⟩ := strItem hy
   have hin : nm ∈ ss := List.mem_of_mem_take (List.mem_of_getElem? en)
   have hj : j < 2 := by have := (List.getElem?_eq_some_iff.mp en).1; omega
   refine ⟨_, rfl, d, 3, rfl, d1, by decide, fun r H2 r0 r1 k2 d2 => ?_⟩
   refine ⟨_, rfl, by show 2 ≤ sizeLine; decide, fun p1 hp1 => ?_⟩
   have s1 := Same.new (o := .tup [.str nm, .int 1]) hp1
   refine ⟨by show 1 ≤ sizeLine; decide, fun p2 hp2 => ?_⟩
   have s2 := Same.new (o := .tup [.ref p1]) hp2
   refine ⟨by show 2 ≤ sizeLine; decide, fun p3 hp3 => ?_⟩
   have s3 := Same.new (o := .tup [.int r, .ref p2]) hp3
   have s13 := (s1.trans s2).trans s3
   have dn : DatAt K (upd (upd (upd H2 p1 (.tup [.str nm, .int 1])) p2 (.tup [.ref p1])) p3 (.tup [.int r, .ref p2])) (.ref p3) (Term.dt ⟨r, [(nm, 1)]⟩) :=
    dat_tup (.of upd_same) (dats_cons dat_int (dats_cons (dat_tup (.of (s3 _ _ upd_same)) (dats_cons (dat_tup (.of (s3 _ _ (s2 _ _ upd_same))) (dats_cons dat_str (dats_cons dat_int dats_nil))) dats_nil)) dats_nil))
   have k13 : KB d H1 (upd (upd (upd H2 p1 (.tup [.str nm, .int 1])) p2 (.tup [.ref p1])) p3 (.tup [.int r, .ref p2])) := k2.trans s13.kb
   have d3 := d2.same s13
   generalize upd (upd (upd H2 p1 (.tup [.str nm, .int 1])) p2 (.tup [.ref p1])) p3 (.tup [.int r, .ref p2]) = H3 at dn k13 d3 ⊢
   have eC3 := k13 _ _ eC1 nCd
   have kts : KTs K H1 H3 := d1.kts k13
   have ktC : KTs K H3 (upd H3 C (.lst (ys ++ [.ref p3]))) := KB.kts eC3 KB.write
   refine ⟨_, eC3, ?_, ys ++ [.ref p3], ts ++ [⟨r, [(nm, 1)]⟩], _, rfl, ?_, d3.kb KB.write nCd.symm, ?_, upd_same, ?_, ?_, ?_⟩
   ·rw [da.length, List.length_map, lt]; exact small (by omega)
   ·intro c o e n
    rw [upd_ne (fun z => by
     have := sS _ _ e
     rw [z, hC] at this
     cases this)]
    exact k13 _ _ (k1 _ _ e n) n
   ·rw [upd_ne nSC]; exact k13 _ _ eS1 nSd
   ·rw [List.map_append]
    exact dats_app (dats_stay (kts.trans ktC) _ _ (terms_noL' ts) da) (dats_cons (dat_stay ktC _ _ (Term.noL _) dn) dats_nil)
   ·rw [List.length_append, lt]; rfl
   ·intro t ht'
    rcases List.mem_append.mp ht' with z | z
    ·exact ht t z
    ·rw [List.mem_singleton.mp z]; exact ⟨nm, hin, rfl⟩
  rintro σ H1 ⟨ys, ts, v, rfl, k1, d1, eS1, eC1, da, lt, ht⟩
  rw [List.length_map, l2] at lt
  obtain ⟨t1, t2, rfl⟩ : ∃ t1 t2, ts = [t1, t2] := by
   match ts, lt with
   | [a, b], _ => exact ⟨a, b, rfl⟩
  obtain ⟨y1, ys, rfl, da1, da'⟩ := dats_inv da
  obtain ⟨y2, ys, rfl, da2, da''⟩ := dats_inv da'
  have e0 : ys = [] := by have := da''.length; simpa using this
  subst e0
  have h1 := ht t1 (by simp)
  have h2 := ht t2 (by simp)
  refine ⟨C, _, rfl, .of eC1, rfl, _, _, rfl, _, _, rfl, rfl, ?_⟩
  have eN1 := k1 _ _ eN nNd
  clear da da' da'' ht eC1 eS1
  refine hR _ _ (seq_abs fun R hR => ?_)
  refine ⟨_, rfl, _, rfl, N, _, rfl, .of eN1, fun S2 hS2 => ?_⟩
  rw [show (some (3 : Int)) = some ((3 : Nat) : Int) from rfl, cutM ss 3 (by omega)]
  have sS2 := Same.new (o := .lst ((ss.take 3).map V.str)) hS2
  refine ⟨S2, ss.take 3, rfl, .of upd_same, by rw [List.length_take]; omega, fun Q2 sw hQ2 pw _ => ?_⟩
  have sQ2 := Same.new (o := .lst (sw.map V.str)) hQ2
  have lsw : sw.length = 3 := by rw [pw.length_eq, List.length_take]; omega
  have d2 := (d1.same sS2).same sQ2
  have s12 := sS2.trans sQ2
  have eQ2 : (upd (upd H1 S2 (.lst ((ss.take 3).map V.str))) Q2 (.lst (sw.map V.str))) Q2 = some (.lst (sw.map V.str)) := upd_same
  have nQd : Q2 ≠ d := ((d1.same sS2).ne hQ2).symm
  generalize upd (upd H1 S2 (.lst ((ss.take 3).map V.str))) Q2 (.lst (sw.map V.str)) = H2 at d2 s12 eQ2 ⊢
  refine ⟨Q2, rfl, ⟨_, .of eQ2⟩, fun C2 hC2 => ?_⟩
  have nC2d : C2 ≠ d := (d2.ne hC2).symm
  have nQC : Q2 ≠ C2 := ne_of_none eQ2 hC2
  have sC2 := Same.new (o := .lst []) hC2
  refine comp_list (xs := sw.map V.str) (fun j σ H' => ∃ (ys : List V) (ps : List (Str × Int)) (v : Option V), σ = [v, some (.ref d)] ∧ KB d H2 H' ∧ Deck2 H' d ∧ H' Q2 = some (.lst (sw.map V.str)) ∧ H' C2 = some (.lst ys) ∧ DatsAt K H' ys (ps.map partDt) ∧ ps.map (·.1) = sw.take j)
   ⟨[], [], none, ?sg2, sC2.kb, d2.same sC2, sC2 _ _ eQ2, upd_same, dats_nil, rfl⟩ (fun j σ H' _ ⟨_, _, _, _, _, _, h, _⟩ => .of h) ?_ ?_
  case sg2 => rfl
  ·rintro j y σ H3 hy ⟨ys, ps, v, rfl, k3, d3, eQ3, eC3, dp, lp⟩
   obtain ⟨nm, rfl, en⟩ := strItem hy
   have hj : j < 3 := by have := (List.getElem?_eq_some_iff.mp en).1; omega
   refine ⟨_, rfl, _, rfl, d, 9, rfl, d3, by decide, fun r H4 r0 r1 k4 d4 => ⟨_, _, rfl, rfl, ?_⟩⟩
   refine ⟨by show 2 ≤ sizeLine; decide, fun p1 hp1 => ?_⟩
   have s1 := Same.new (o := .tup [.str nm, .int (1 + r)]) hp1
   have dn : DatAt K (upd H4 p1 (.tup [.str nm, .int (1 + r)])) (.ref p1) (partDt (nm, 1 + r)) := dat_tup (.of upd_same) (dats_cons dat_str (dats_cons dat_int dats_nil))
   have k34 : KB d H3 (upd H4 p1 (.tup [.str nm, .int (1 + r)])) := k4.trans s1.kb
   have d5 := d4.same s1
   generalize upd H4 p1 (.tup [.str nm, .int (1 + r)]) = H5 at dn k34 d5 ⊢
   have eC5 := k34 _ _ eC3 nC2d
   have kts : KTs K H3 H5 := d3.kts k34
   have ktC : KTs K H5 (upd H5 C2 (.lst (ys ++ [.ref p1]))) := KB.kts eC5 KB.write
   refine ⟨_, eC5, ?_, ys ++ [.ref p1], ps ++ [(nm, 1 + r)], _, rfl, ?_, d5.kb KB.write nC2d.symm, ?_, upd_same, ?_, ?_⟩
   ·have := congrArg List.length lp
    rw [List.length_map, List.length_take] at this
    rw [dp.length, List.length_map]; exact small (by omega)
   ·intro c o e n
    rw [upd_ne (ne_of_none e hC2)]
    exact k34 _ _ (k3 _ _ e n) n
   ·rw [upd_ne nQC]; exact k34 _ _ eQ3 nQd
   ·rw [List.map_append]
    exact dats_app (dats_stay (kts.trans ktC) _ _ (parts_noL ps) dp) (dats_cons (dat_stay ktC _ _ (by simp [partDt, Dt.noL, Dt.noLs]) dn) dats_nil)
   ·rw [List.map_append, lp, take_snoc en]; rfl
  rintro σ H3 ⟨ys, pw', v, rfl, k3, d3, eQ3, eC3, dp, lp⟩
  rw [List.length_map, List.take_length] at lp
  refine ⟨C2, _, rfl, .inl ⟨.of eC3, fun w1 hw1 => ?_⟩⟩
  have sw1 := Same.new (o := .tup ys) hw1
  refine ⟨by show 2 ≤ sizeLine; decide, fun w2 hw2 => ?_⟩
  have sw2 := Same.new (o := .tup [.int 0, .ref w1]) hw2
  have dw : DatAt K (upd (upd H3 w1 (.tup ys)) w2 (.tup [.int 0, .ref w1])) (.ref w2) (Term.dt ⟨0, pw'⟩) :=
   dat_tup (.of upd_same) (dats_cons dat_int (dats_cons (dat_tup (.of (sw2 _ _ upd_same)) (dats_stay (sw1.trans sw2).kts _ _ (parts_noL _) dp)) dats_nil))
  have k4 : KB d H1 (upd (upd H3 w1 (.tup ys)) w2 (.tup [.int 0, .ref w1])) := (s12.kb.trans k3).trans (sw1.trans sw2).kb
  have d4 := d3.same (sw1.trans sw2)
  generalize upd (upd H3 w1 (.tup ys)) w2 (.tup [.int 0, .ref w1]) = H4 at dw k4 d4 ⊢
  have hw : ((⟨0, pw'⟩ : Term).parts.map (·.1)).Perm (ss.take 3) := by show (pw'.map (·.1)).Perm _; rw [lp]; exact pw
  have kt4 : KTs K H1 H4 := d1.kts k4
  have da14 := dat_stay kt4 _ _ t1.noL da1
  have da24 := dat_stay kt4 _ _ t2.noL da2
  have eN4 := k4 _ _ eN1 nNd
  have k04 := k1.trans k4
  clear da1 da2 k1 k4 kt4 dp
  refine hR _ _ (seq_abs fun R hR => ?_)
  have e3 : ss[3]? = some (ss[3]'(by omega)) := List.getElem?_eq_getElem (by omega)
  generalize ss[3]'(by omega) = n3 at e3
  refine ⟨_, rfl, d, 9, rfl, d4, by decide, fun r5 H5 r50 r51 k5 d5 => ?_⟩
  refine ⟨_, rfl, N, _, _, .str n3, rfl, rfl, .of (k5 _ _ eN4 nNd), atI_nat (j := 3) (by rw [List.getElem?_map, e3]; rfl), ?_⟩
  refine ⟨by show 2 ≤ sizeLine; decide, fun p1 hp1 => ⟨by show 1 ≤ sizeLine; decide, fun p2 hp2 => ⟨by show 2 ≤ sizeLine; decide, fun p3 hp3 => ?_⟩⟩⟩
  have s1 := Same.new (o := .tup [.str n3, .int 1]) hp1
  have s2 := Same.new (o := .tup [.ref p1]) hp2
  have s3 := Same.new (o := .tup [.int r5, .ref p2]) hp3
  have s13 := (s1.trans s2).trans s3
  have dl : DatAt K (upd (upd (upd H5 p1 (.tup [.str n3, .int 1])) p2 (.tup [.ref p1])) p3 (.tup [.int r5, .ref p2])) (.ref p3) (Term.dt ⟨r5, [(n3, 1)]⟩) :=
   dat_tup (.of upd_same) (dats_cons dat_int (dats_cons (dat_tup (.of (s3 _ _ upd_same)) (dats_cons (dat_tup (.of (s3 _ _ (s2 _ _ upd_same))) (dats_cons dat_str (dats_cons dat_int dats_nil))) dats_nil)) dats_nil))
  have k46 : KB d H4 (upd (upd (upd H5 p1 (.tup [.str n3, .int 1])) p2 (.tup [.ref p1])) p3 (.tup [.int r5, .ref p2])) := k5.trans s13.kb
  have d6 := d5.same s13
  generalize upd (upd (upd H5 p1 (.tup [.str n3, .int 1])) p2 (.tup [.ref p1])) p3 (.tup [.int r5, .ref p2]) = H6 at dl k46 d6 ⊢
  have kt6 : KTs K H4 H6 := d4.kts k46
  have da16 := dat_stay kt6 _ _ t1.noL da14
  have da26 := dat_stay kt6 _ _ t2.noL da24
  have dw6 := dat_stay kt6 _ _ (Term.noL _) dw
  have eN6 := k46 _ _ eN4 nNd
  have k06 := k04.trans k46
  clear da14 da24 dw k04 k46 kt6
  refine hR _ _ (seq_abs fun R hR => ?_)
  refine ⟨_, rfl, _, rfl, N, _, rfl, .of eN6, fun S3 hS3 => ?_⟩
  rw [show (some (2 : Int)) = some ((2 : Nat) : Int) from rfl, cutM ss 2 (by omega)]
  have sS3 := Same.new (o := .lst ((ss.take 2).map V.str)) hS3
  refine ⟨S3, ss.take 2, rfl, .of upd_same, by omega, fun Q3 s2' hQ3 p2' _ => ?_⟩
  have sQ3 := Same.new (o := .lst (s2'.map V.str)) hQ3
  have ls2 : s2'.length = 2 := by rw [p2'.length_eq]; exact l2
  have s67 := sS3.trans sQ3
  have eQ3' : (upd (upd H6 S3 (.lst ((ss.take 2).map V.str))) Q3 (.lst (s2'.map V.str))) Q3 = some (.lst (s2'.map V.str)) := upd_same
  generalize upd (upd H6 S3 (.lst ((ss.take 2).map V.str))) Q3 (.lst (s2'.map V.str)) = H7 at s67 eQ3' ⊢
  refine ⟨Q3, rfl, ⟨_, .of eQ3'⟩, fun C3 hC3 => ?_⟩
  have nQC3 : Q3 ≠ C3 := ne_of_none eQ3' hC3
  refine comp_list (xs := s2'.map V.str) (fun j σ H' => ∃ (ys : List V) (ps : List (Str × Int)) (v : Option V), σ = [v] ∧ Same H7 H' ∧ H' C3 = some (.lst ys) ∧ DatsAt K H' ys (ps.map partDt) ∧ ps.map (·.1) = s2'.take j)
   ⟨[], [], none, ?sg3, Same.new hC3, upd_same, dats_nil, rfl⟩ (fun j σ H' _ ⟨_, _, _, _, s, _⟩ => .of (s _ _ eQ3')) ?_ ?_
  case sg3 => rfl
  ·rintro j y σ H8 hy ⟨ys, ps, v, rfl, s8, eC8, dp, lp'⟩
   obtain ⟨nm, rfl, en⟩ := strItem hy
   have hj : j < 2 := by have := (List.getElem?_eq_some_iff.mp en).1; omega
   refine ⟨_, rfl, by show 2 ≤ sizeLine; decide, fun p1 hp1 => ?_⟩
   have s1 := Same.new (o := .tup [.str nm, .int 1]) hp1
   have dn : DatAt K (upd H8 p1 (.tup [.str nm, .int 1])) (.ref p1) (partDt (nm, 1)) := dat_tup (.of upd_same) (dats_cons dat_str (dats_cons dat_int dats_nil))
   have eC9 := s1 _ _ eC8
   generalize upd H8 p1 (.tup [.str nm, .int 1]) = H9 at s1 dn eC9 ⊢
   have ktC : KTs K H9 (upd H9 C3 (.lst (ys ++ [.ref p1]))) := KB.kts eC9 KB.write
   refine ⟨_, eC9, ?_, ys ++ [.ref p1], ps ++ [(nm, 1)], _, rfl, (s8.trans s1).kbn hC3 KB.write, upd_same, ?_, ?_⟩
   ·have := congrArg List.length lp'
    rw [List.length_map, List.length_take] at this
    rw [dp.length, List.length_map]; exact small (by omega)
   ·rw [List.map_append]
    exact dats_app (dats_stay (s1.kts.trans ktC) _ _ (parts_noL ps) dp) (dats_cons (dat_stay ktC _ _ (by simp [partDt, Dt.noL, Dt.noLs]) dn) dats_nil)
   ·rw [List.map_append, lp', take_snoc en]; rfl
  rintro σ H8 ⟨ys3, px, v, rfl, s8, eC8, dpx, lpx⟩
  rw [List.length_map, List.take_length] at lpx
  refine ⟨C3, _, rfl, .inl ⟨.of eC8, fun q1 hq1 => ⟨by show 2 ≤ sizeLine; decide, fun q2 hq2 => ⟨by decide, fun q3 hq3 => ⟨by show 2 ≤ sizeLine; decide, fun q4 hq4 => ⟨by show 3 ≤ sizeLine; decide, fun q5 hq5 => ?_⟩⟩⟩⟩⟩⟩
  have x1 := Same.new (o := .tup ys3) hq1
  have x2 := Same.new (o := .tup [.int 0, .ref q1]) hq2
  have x3 := Same.new (o := .tup []) hq3
  have x4 := Same.new (o := .tup [.int 4, .ref q3]) hq4
  have x5 := Same.new (o := .tup [.str "same", .ref q2, .ref q4]) hq5
  have xall := (((x1.trans x2).trans x3).trans x4).trans x5
  have dtwo : DatAt K (upd (upd (upd (upd (upd H8 q1 (.tup ys3)) q2 (.tup [.int 0, .ref q1])) q3 (.tup [])) q4 (.tup [.int 4, .ref q3])) q5 (.tup [.str "same", .ref q2, .ref q4])) (.ref q5) (Say.dt (.same ⟨0, px⟩ ⟨4, []⟩)) :=
   dat_tup (.of upd_same) (dats_cons dat_str (dats_cons (dat_tup (.of (x5 _ _ (x4 _ _ (x3 _ _ upd_same)))) (dats_cons dat_int (dats_cons (dat_tup (.of (x5 _ _ (x4 _ _ (x3 _ _ (x2 _ _ upd_same))))) (dats_stay xall.kts _ _ (parts_noL _) dpx)) dats_nil)))
    (dats_cons (dat_tup (.of (x5 _ _ upd_same)) (dats_cons dat_int (dats_cons (dat_tup (.of (x5 _ _ (x4 _ _ upd_same))) dats_nil) dats_nil))) dats_nil)))
  have s69 := (s67.trans s8).trans xall
  generalize upd (upd (upd (upd (upd H8 q1 (.tup ys3)) q2 (.tup [.int 0, .ref q1])) q3 (.tup [])) q4 (.tup [.int 4, .ref q3])) q5 (.tup [.str "same", .ref q2, .ref q4]) = H9 at dtwo s69 ⊢
  have hx : ((⟨0, px⟩ : Term).parts.map (·.1)).Perm (ss.take 2) := by show (px.map (·.1)).Perm _; rw [lpx]; exact p2'
  have eN9 := s69 _ _ eN6
  clear dpx xall x1 x2 x3 x4 x5
  refine hR _ _ (seq_abs fun R hR => ?_)
  refine ⟨_, rfl, _, rfl, _, rfl, N, _, rfl, .of eN9, fun S4 hS4 => ?_⟩
  rw [show (some (2 : Int)) = some ((2 : Nat) : Int) from rfl, show (some (4 : Int)) = some ((4 : Nat) : Int) from rfl, cutMid ss 2 4 (by decide) l4]
  have sS4 := Same.new (o := .lst (((ss.drop 2).take (4 - 2)).map V.str)) hS4
  refine ⟨S4, (ss.drop 2).take (4 - 2), rfl, .of upd_same, by rw [List.length_take]; omega, fun Q4 s4' hQ4 p4' _ => ?_⟩
  have sQ4 := Same.new (o := .lst (s4'.map V.str)) hQ4
  have ls4 : s4'.length = 2 := by rw [p4'.length_eq, List.length_take, List.length_drop]; omega
  have s910 := sS4.trans sQ4
  have eQ4 : (upd (upd H9 S4 (.lst (((ss.drop 2).take (4 - 2)).map V.str))) Q4 (.lst (s4'.map V.str))) Q4 = some (.lst (s4'.map V.str)) := upd_same
  generalize upd (upd H9 S4 (.lst (((ss.drop 2).take (4 - 2)).map V.str))) Q4 (.lst (s4'.map V.str)) = H10 at s910 eQ4 ⊢
  refine ⟨Q4, rfl, ⟨_, .of eQ4⟩, fun C4 hC4 => ?_⟩
  refine comp_list (xs := s4'.map V.str) (fun j σ H' => ∃ (ys : List V) (ps : List (Str × Int)) (v : Option V), σ = [v] ∧ Same H10 H' ∧ H' C4 = some (.lst ys) ∧ DatsAt K H' ys (ps.map partDt) ∧ ps.map (·.1) = s4'.take j)
   ⟨[], [], none, ?sg4, Same.new hC4, upd_same, dats_nil, rfl⟩ (fun j σ H' _ ⟨_, _, _, _, s, _⟩ => .of (s _ _ eQ4)) ?_ ?_
  case sg4 => rfl
  ·rintro j y σ H11 hy ⟨ys, ps, v, rfl, s11, eC11, dp, lp'⟩
   obtain ⟨nm, rfl, en⟩ := strItem hy
   have hj : j < 2 := by have := (List.getElem?_eq_some_iff.mp en).1; omega
   refine ⟨_, rfl, by show 2 ≤ sizeLine; decide, fun p1 hp1 => ?_⟩
   have s1 := Same.new (o := .tup [.str nm, .int 2]) hp1
   have dn : DatAt K (upd H11 p1 (.tup [.str nm, .int 2])) (.ref p1) (partDt (nm, 2)) := dat_tup (.of upd_same) (dats_cons dat_str (dats_cons dat_int dats_nil))
   have eC12 := s1 _ _ eC11
   generalize upd H11 p1 (.tup [.str nm, .int 2]) = H12 at s1 dn eC12 ⊢
   have ktC : KTs K H12 (upd H12 C4 (.lst (ys ++ [.ref p1]))) := KB.kts eC12 KB.write
   refine ⟨_, eC12, ?_, ys ++ [.ref p1], ps ++ [(nm, 2)], _, rfl, (s11.trans s1).kbn hC4 KB.write, upd_same, ?_, ?_⟩
   ·have := congrArg List.length lp'
    rw [List.length_map, List.length_take] at this
    rw [dp.length, List.length_map]; exact small (by omega)
   ·rw [List.map_append]
    exact dats_app (dats_stay (s1.kts.trans ktC) _ _ (parts_noL ps) dp) (dats_cons (dat_stay ktC _ _ (by simp [partDt, Dt.noL, Dt.noLs]) dn) dats_nil)
   ·rw [List.map_append, lp', take_snoc en]; rfl
  rintro σ H11 ⟨ys4, py, v, rfl, s11, eC11, dpy, lpy⟩
  rw [List.length_map, List.take_length] at lpy
  refine ⟨C4, _, rfl, .inl ⟨.of eC11, fun q1 hq1 => ⟨by show 2 ≤ sizeLine; decide, fun q2 hq2 => ⟨by decide, fun q3 hq3 => ⟨by show 2 ≤ sizeLine; decide, fun q4 hq4 => ⟨by show 3 ≤ sizeLine; decide, fun q6 hq6 => ?_⟩⟩⟩⟩⟩⟩
  have x1 := Same.new (o := .tup ys4) hq1
  have x2 := Same.new (o := .tup [.int 0, .ref q1]) hq2
  have x3 := Same.new (o := .tup []) hq3
  have x4 := Same.new (o := .tup [.int 4, .ref q3]) hq4
  have x5 := Same.new (o := .tup [.str "less", .ref q2, .ref q4]) hq6
  have xall := (((x1.trans x2).trans x3).trans x4).trans x5
  have dmore : DatAt K (upd (upd (upd (upd (upd H11 q1 (.tup ys4)) q2 (.tup [.int 0, .ref q1])) q3 (.tup [])) q4 (.tup [.int 4, .ref q3])) q6 (.tup [.str "less", .ref q2, .ref q4])) (.ref q6) (Say.dt (.less ⟨0, py⟩ ⟨4, []⟩)) :=
   dat_tup (.of upd_same) (dats_cons dat_str (dats_cons (dat_tup (.of (x5 _ _ (x4 _ _ (x3 _ _ upd_same)))) (dats_cons dat_int (dats_cons (dat_tup (.of (x5 _ _ (x4 _ _ (x3 _ _ (x2 _ _ upd_same))))) (dats_stay xall.kts _ _ (parts_noL _) dpy)) dats_nil)))
    (dats_cons (dat_tup (.of (x5 _ _ upd_same)) (dats_cons dat_int (dats_cons (dat_tup (.of (x5 _ _ (x4 _ _ upd_same))) dats_nil) dats_nil))) dats_nil)))
  have s912 := (s910.trans s11).trans xall
  generalize upd (upd (upd (upd (upd H11 q1 (.tup ys4)) q2 (.tup [.int 0, .ref q1])) q3 (.tup [])) q4 (.tup [.int 4, .ref q3])) q6 (.tup [.str "less", .ref q2, .ref q4]) = H12 at dmore s912 ⊢
  have hy' : ((⟨0, py⟩ : Term).parts.map (·.1)).Perm ((ss.drop 2).take 2) := by show (py.map (·.1)).Perm _; rw [lpy]; exact p4'
  have s612 := s69.trans s912
  have D1 := dat_stay s612.kts _ _ t1.noL da16
  have D2 := dat_stay s612.kts _ _ t2.noL da26
  have DW := dat_stay s612.kts _ _ (Term.noL _) dw6
  have DL := dat_stay s612.kts _ _ (Term.noL _) dl
  have DT := dat_stay s912.kts _ _ (Say.noL _) dtwo
  have DM := dmore
  have eN12 := s912 _ _ eN9
  have k012 := k06.trans s612.kb
  have d12 := d6.same s612
  clear da16 da26 dw6 dl dtwo dmore dpy xall x1 x2 x3 x4 x5 s612 s912 s69 k06 s910 s67 s8 s11
  have facts := seven_bad (lost := lost) (la := ⟨r5, [(n3, 1)]⟩) nd l4 hlost h1 h2 hw ⟨n3, e3, rfl⟩ hx hy'
  have st : ∀ {H' : Hp} {x : V} {t : Term}, KTs K H12 H' → DatAt K H12 x t.dt → DatAt K H' x t.dt := fun kk hh => dat_stay kk _ _ (Term.noL _) hh
  have stS : ∀ {H' : Hp} {x : V} {t : Say}, KTs K H12 H' → DatAt K H12 x t.dt → DatAt K H' x t.dt := fun kk hh => dat_stay kk _ _ (Say.noL _) hh
  refine hR _ _ (seq_abs fun R hR => ?_)
  refine ⟨_, rfl, _, rfl, by show 4 ≤ sizeLine; decide, fun z1 hz1 => ⟨_, rfl, _, rfl, _, rfl, _, rfl, by show 5 ≤ sizeLine; decide, fun z2 hz2 => ⟨_, rfl, _, rfl, _, rfl, _, rfl, by show 5 ≤ sizeLine; decide, fun z3 hz3 => ⟨by show 3 ≤ sizeLine; decide, fun L1 hL1 => ?_⟩⟩⟩⟩
  have x1 := Same.new (o := .tup [.str "sign", .str lost, y1, .int 1]) hz1
  have x2 := Same.new (o := .tup [.str "alike", .str lost, y1, .str "K", y2]) hz2
  have x3 := Same.new (o := .tup [.str "alike", .str "K", y1, .str lost, y2]) hz3
  have x4 := Same.new (o := .lst [.ref z1, .ref z2, .ref z3]) hL1
  have xa := ((x1.trans x2).trans x3).trans x4
  have T1 : DatsAt K (upd (upd (upd (upd H12 z1 (.tup [.str "sign", .str lost, y1, .int 1])) z2 (.tup [.str "alike", .str lost, y1, .str "K", y2])) z3 (.tup [.str "alike", .str "K", y1, .str lost, y2])) L1 (.lst [.ref z1, .ref z2, .ref z3])) [.ref z1, .ref z2, .ref z3] (([.sign lost t1 1, .alike lost t1 "K" t2, .alike "K" t1 lost t2] : List Say).map Say.dt) :=
   dats_cons (dat_tup (.of (x4 _ _ (x3 _ _ (x2 _ _ upd_same)))) (dats_cons dat_str (dats_cons dat_str (dats_cons (st xa.kts D1) (dats_cons dat_int dats_nil)))))
    (dats_cons (dat_tup (.of (x4 _ _ (x3 _ _ upd_same))) (dats_cons dat_str (dats_cons dat_str (dats_cons (st xa.kts D1) (dats_cons dat_str (dats_cons (st xa.kts D2) dats_nil))))))
     (dats_cons (dat_tup (.of (x4 _ _ upd_same)) (dats_cons dat_str (dats_cons dat_str (dats_cons (st xa.kts D1) (dats_cons dat_str (dats_cons (st xa.kts D2) dats_nil)))))) dats_nil))
  have eL1 : (upd (upd (upd (upd H12 z1 (.tup [.str "sign", .str lost, y1, .int 1])) z2 (.tup [.str "alike", .str lost, y1, .str "K", y2])) z3 (.tup [.str "alike", .str "K", y1, .str lost, y2])) L1 (.lst [.ref z1, .ref z2, .ref z3])) L1 = some (.lst [.ref z1, .ref z2, .ref z3]) := upd_same
  generalize upd (upd (upd (upd H12 z1 (.tup [.str "sign", .str lost, y1, .int 1])) z2 (.tup [.str "alike", .str lost, y1, .str "K", y2])) z3 (.tup [.str "alike", .str "K", y1, .str lost, y2])) L1 (.lst [.ref z1, .ref z2, .ref z3]) = H13 at xa T1 eL1 ⊢
  refine hR _ _ (seq_abs fun R hR => ?_)
  refine ⟨_, rfl, _, rfl, _, rfl, by show 3 ≤ sizeLine; decide, fun u1 hu1 => ⟨_, rfl, _, rfl, by show 3 ≤ sizeLine; decide, fun u2 hu2 => ⟨_, rfl, _, rfl, _, rfl, _, rfl, by show 5 ≤ sizeLine; decide, fun u3 hu3 => ⟨_, rfl, _, rfl, by show 3 ≤ sizeLine; decide, fun u4 hu4 => ⟨by show 4 ≤ sizeLine; decide, fun L2 hL2 => ?_⟩⟩⟩⟩⟩
  have v1 := Same.new (o := .tup [.str "same", .ref w2, .ref p3]) hu1
  have v2 := Same.new (o := .tup [.str "less", .ref p3, .ref w2]) hu2
  have v3 := Same.new (o := .tup [.str "alike", .str "K", .ref w2, .str "K", .ref p3]) hu3
  have v4 := Same.new (o := .tup [.str "and", .ref q5, .ref q6]) hu4
  have v5 := Same.new (o := .lst [.ref u1, .ref u2, .ref u3, .ref u4]) hL2
  have va := (((v1.trans v2).trans v3).trans v4).trans v5
  have xv := xa.trans va
  have T2 : DatsAt K (upd (upd (upd (upd (upd H13 u1 (.tup [.str "same", .ref w2, .ref p3])) u2 (.tup [.str "less", .ref p3, .ref w2])) u3 (.tup [.str "alike", .str "K", .ref w2, .str "K", .ref p3])) u4 (.tup [.str "and", .ref q5, .ref q6])) L2 (.lst [.ref u1, .ref u2, .ref u3, .ref u4])) [.ref u1, .ref u2, .ref u3, .ref u4]
    (([.same ⟨0, pw'⟩ ⟨r5, [(n3, 1)]⟩, .less ⟨r5, [(n3, 1)]⟩ ⟨0, pw'⟩, .alike "K" ⟨0, pw'⟩ "K" ⟨r5, [(n3, 1)]⟩, .and (.same ⟨0, px⟩ ⟨4, []⟩) (.less ⟨0, py⟩ ⟨4, []⟩)] : List Say).map Say.dt) :=
   dats_cons (dat_tup (.of (v5 _ _ (v4 _ _ (v3 _ _ (v2 _ _ upd_same))))) (dats_cons dat_str (dats_cons (st xv.kts DW) (dats_cons (st xv.kts DL) dats_nil))))
    (dats_cons (dat_tup (.of (v5 _ _ (v4 _ _ (v3 _ _ upd_same)))) (dats_cons dat_str (dats_cons (st xv.kts DL) (dats_cons (st xv.kts DW) dats_nil))))
     (dats_cons (dat_tup (.of (v5 _ _ (v4 _ _ upd_same))) (dats_cons dat_str (dats_cons dat_str (dats_cons (st xv.kts DW) (dats_cons dat_str (dats_cons (st xv.kts DL) dats_nil))))))
      (dats_cons (dat_tup (.of (v5 _ _ upd_same)) (dats_cons dat_str (dats_cons (stS xv.kts DT) (dats_cons (stS xv.kts DM) dats_nil)))) dats_nil)))
  have eL2 : (upd (upd (upd (upd (upd H13 u1 (.tup [.str "same", .ref w2, .ref p3])) u2 (.tup [.str "less", .ref p3, .ref w2])) u3 (.tup [.str "alike", .str "K", .ref w2, .str "K", .ref p3])) u4 (.tup [.str "and", .ref q5, .ref q6])) L2 (.lst [.ref u1, .ref u2, .ref u3, .ref u4])) L2 = some (.lst [.ref u1, .ref u2, .ref u3, .ref u4]) := upd_same
  have eL1' := va _ _ eL1
  have T1' := dats_stay va.kts _ _ (says_noL _) T1
  generalize upd (upd (upd (upd (upd H13 u1 (.tup [.str "same", .ref w2, .ref p3])) u2 (.tup [.str "less", .ref p3, .ref w2])) u3 (.tup [.str "alike", .str "K", .ref w2, .str "K", .ref p3])) u4 (.tup [.str "and", .ref q5, .ref q6])) L2 (.lst [.ref u1, .ref u2, .ref u3, .ref u4]) = H14 at va xv T2 eL2 eL1' T1' ⊢
  refine ⟨L1, L2, _, _, rfl, rfl, eL1', eL2, by show 7 ≤ sizeLine; decide, fun L3 hL3 => ?_⟩
  have x6 := Same.new (o := .lst ([.ref z1, .ref z2, .ref z3] ++ [.ref u1, .ref u2, .ref u3, .ref u4])) hL3
  have TT := dats_stay x6.kts _ _ (by rw [← List.map_append]; exact says_noL _) (dats_app T1' T2)
  rw [← List.map_append] at TT
  have eL3 : (upd H14 L3 (.lst ([.ref z1, .ref z2, .ref z3] ++ [.ref u1, .ref u2, .ref u3, .ref u4]))) L3 = some (.lst ([.ref z1, .ref z2, .ref z3] ++ [.ref u1, .ref u2, .ref u3, .ref u4])) := upd_same
  have xz := xv.trans x6
  generalize upd H14 L3 (.lst ([.ref z1, .ref z2, .ref z3] ++ [.ref u1, .ref u2, .ref u3, .ref u4])) = H15 at TT eL3 xz ⊢
  have d15 := d12.same xz
  have nL3d : L3 ≠ d := by obtain ⟨xs, ex⟩ := (d12.same xv).is; exact (ne_of_none ex hL3).symm
  have k015 := k012.trans xz.kb
  refine hR _ _ (seq_abs fun R hR => ?_)
  refine ⟨_, rfl, _, rfl, d, 7, rfl, d15, by decide, fun j16 H16 j0 j1 k16 d16 => ?_⟩
  obtain ⟨jn, rfl⟩ : ∃ jn : Nat, j16 = (jn : Int) := ⟨j16.toNat, by omega⟩
  have jlt : jn < 7 := by omega
  have kt16 : KTs K H15 H16 := d15.kts k16
  have TT16 := dats_stay kt16 _ _ (says_noL _) TT
  have hv : ([.ref z1, .ref z2, .ref z3] ++ [.ref u1, .ref u2, .ref u3, .ref u4] : List V)[jn]? = some (([.ref z1, .ref z2, .ref z3] ++ [.ref u1, .ref u2, .ref u3, .ref u4] : List V)[jn]'(by simp; omega)) := List.getElem?_eq_getElem _
  generalize ([.ref z1, .ref z2, .ref z3] ++ [.ref u1, .ref u2, .ref u3, .ref u4] : List V)[jn]'(by simp; omega) = xf at hv
  obtain ⟨df, edf, hdf⟩ := TT16.get hv
  rw [List.getElem?_map] at edf
  obtain ⟨f0, ef0, rfl⟩ := Option.map_eq_some_iff.mp edf
  obtain ⟨ff1, ff2, ff3⟩ := facts f0 (List.mem_of_getElem? ef0)
  refine ⟨L3, _, _, xf, rfl, rfl, .of (k16 _ _ eL3 nL3d), atI_nat hv, ?_⟩
  have k016 := k015.trans k16
  have D116 : DatAt K H16 y1 t1.dt := dat_stay (xz.kts.trans kt16) _ _ t1.noL D1
  have eN16 : H16 N = some (.lst (ss.map V.str)) := k16 _ _ (xz _ _ eN12) nNd
  refine hR _ _ (seq_abs fun R hR => ?_)
  refine ⟨by decide, fun e0 he0 => ?_⟩
  have se := Same.new (o := .tup []) he0
  refine hR _ _ (seq_abs fun R hR => ?_)
  refine ⟨_, rfl, d, 7, rfl, d16.same se, by decide, fun m17 H17 m0 m1 k17 d17 => ⟨_, rfl, by omega, by omega, ?_⟩⟩
  have ktE : KTs K H16 H17 := se.kts.trans ((d16.same se).kts k17)
  have ee17 : H17 e0 = some (.tup (natsV [])) := by obtain ⟨xs, ex⟩ := (d16.same se).is; exact k17 _ _ upd_same (ne_of (o := .tup []) upd_same ex (fun z => nomatch z))
  obtain ⟨n1, hn1, ep1⟩ := h1
  refine for_range (lo := 0) (fun i σ H' => ∃ (x : V) (f : Say) (pl : Addr) (ns : List Nat) (v13 v14 v15 : Option V), σ = [some (.ref d), some (.ref N), some (.str "K"), some (.str lost), some y1, some y2, some (.ref w2), some (.ref p3), some (.ref q5), some (.ref q6), some (.ref L3), some x, some (.ref pl), v13, v14, v15] ∧ KB d H H' ∧ Deck2 H' d ∧ DatAt K H' x f.dt ∧ DatAt K H' y1 t1.dt ∧ H' N = some (.lst (ss.map V.str)) ∧ H' pl = some (.tup (natsV ns)) ∧ f.deep ≤ 1 + i ∧ f.Over ss ∧ firstAt ["K"] f [] = some ns ∧ ns.length = i)
   ⟨xf, f0, e0, [], none, none, none, rfl, k016.trans (se.kb.trans k17), d17, dat_stay ktE _ _ f0.noL hdf, dat_stay ktE _ _ t1.noL D116, k17 _ _ (se _ _ eN16) nNd, ee17, by omega, ff3, ff1, rfl⟩ ?_ ?_
  ·rintro i σ H18 hi ⟨x, f, pl, ns, v13, v14, v15, rfl, k18, d18, dx, dy, eN18, epl, fd, fo, ff, lns⟩
   have i7 : i < 7 := by omega
   refine ⟨_, rfl, d, 6, rfl, d18, by decide, fun g H19 g0 g1 k19 d19 => ?_⟩
   have kt19 : KTs K H18 H19 := d18.kts k19
   have dx19 := dat_stay kt19 _ _ f.noL dx
   have dy19 := dat_stay kt19 _ _ t1.noL dy
   have eN19 := k19 _ _ eN18 nNd
   have epl19 : H19 pl = some (.tup (natsV ns)) := by obtain ⟨xs, ex⟩ := d18.is; exact k19 _ _ epl (ne_of epl ex (fun z => nomatch z))
   have k019 := k18.trans k19
   refine ⟨_, rfl, _, rfl, by show 4 ≤ sizeLine; decide, fun gd hgd => ?_⟩
   have sg := Same.new (o := .tup [.str "sign", .str "K", y1, .int 0]) hgd
   have dg : DatAt K (upd H19 gd (.tup [.str "sign", .str "K", y1, .int 0])) (.ref gd) (Say.dt (.sign "K" t1 0)) := dat_tup (.of upd_same) (dats_cons dat_str (dats_cons dat_str (dats_cons (dat_stay sg.kts _ _ t1.noL dy19) (dats_cons dat_int dats_nil))))
   have dx20 := dat_stay sg.kts _ _ f.noL dx19
   have dy20 := dat_stay sg.kts _ _ t1.noL dy19
   have eN20 := sg _ _ eN19
   have epl20 := sg _ _ epl19
   have k020 := k019.trans sg.kb
   have d20 := d19.same sg
   generalize upd H19 gd (.tup [.str "sign", .str "K", y1, .int 0]) = H20 at dg dx20 dy20 eN20 epl20 k020 d20 ⊢
   have go : Say.Over ss (.sign "K" t1 0) := ⟨by rw [ep1]; simp, fun q hq => by rw [ep1] at hq; rw [List.mem_singleton.mp hq]; exact hn1⟩
   have gb : bad ["K"] (.sign "K" t1 0) = false := good_of (fun a ha => by simpa [Say.rowsOf] using ha) (by simp [Say.fr, tnm, ep1])
   have gf : ∀ ns, firstAt ["K"] (.sign "K" t1 0) ns = none := fun ns => leaf_good rfl gb ns
   dsimp only [gName]
   refine seq_rest (t := tIfS _ _ _) (u := tAsg _ _) (fun σ H' => ∃ (x' : V) (f' : Say), σ = [some (.ref d), some (.ref N), some (.str "K"), some (.str lost), some y1, some y2, some (.ref w2), some (.ref p3), some (.ref q5), some (.ref q6), some (.ref L3), some x', some (.ref pl), some (.int (0 + (i : Int))), some (.int g), some (.ref gd)] ∧ KB d H20 H' ∧ Deck2 H' d ∧ DatAt K H' x' f'.dt ∧ f'.deep ≤ 1 + (i + 1) ∧ f'.Over ss ∧ firstAt ["K"] f' [] = some ((if g < 2 then 1 else 0) :: ns)) ?re (fun rest => ?ifp)
   case re =>
    rintro σ H21 ⟨x', f', rfl, k21, d21, dx', fd', fo', ff'⟩
    have kt21 : KTs K H20 H21 := d20.kts k21
    have epl21 : H21 pl = some (.tup (natsV ns)) := by obtain ⟨xs, ex⟩ := d20.is; exact k21 _ _ epl20 (ne_of epl20 ex (fun z => nomatch z))
    refine ⟨_, rfl, _, _, rfl, rfl, .inr ⟨_, rfl, by show 1 ≤ sizeLine; decide, fun oo hoo => ?_⟩⟩
    have so := Same.new (o := .tup [.int (if decide (g < 2) = true then 1 else 0)]) hoo
    have eoo : (upd H21 oo (.tup [.int (if decide (g < 2) = true then 1 else 0)])) oo = some (.tup (natsV [if g < 2 then 1 else 0])) := by
     rw [upd_same]
     by_cases c : g < 2
     ·rw [decide_eq_true c, if_pos c]; rfl
     ·rw [decide_eq_false c, if_neg c]; rfl
    refine ⟨_, rfl, catT_by eoo (so _ _ epl21) (by simp [natsV]) ?_ fun pn H22 s22 epn => ?_⟩
    ·unfold natsV
     rw [List.length_map, List.length_map]
     exact Nat.le_of_lt (small (by simp; omega))
    have sx := so.trans s22
    refine ⟨x', f', pn, (if g < 2 then 1 else 0) :: ns, _, _, _, rfl, (k020.trans k21).trans sx.kb, d21.same sx, dat_stay sx.kts _ _ f'.noL dx', dat_stay (kt21.trans sx.kts) _ _ t1.noL dy20, sx _ _ (k21 _ _ eN20 nNd), ?_, fd', fo', ff', by rw [List.length_cons, lns]⟩
    rw [epn]
    rfl
   case ifp =>
    refine ⟨_, rfl, _, _, rfl, rfl, _, rfl, ite2 (fun c => ?_) (fun c => ?_)⟩
    ·have c' : g < 2 := of_decide_eq_true c
     refine ⟨_, rfl, _, rfl, by show 3 ≤ sizeLine; decide, fun a1 ha1 => ⟨_, rfl, _, rfl, by show 3 ≤ sizeLine; decide, fun a2 ha2 => ⟨by show 2 ≤ sizeLine; decide, fun L4 hL4 => ?_⟩⟩⟩
     have m1 := Same.new (o := .tup [.str "and", .ref gd, x]) ha1
     have m2 := Same.new (o := .tup [.str "or", .ref gd, x]) ha2
     have m3 := Same.new (o := .lst [.ref a1, .ref a2]) hL4
     have ma := (m1.trans m2).trans m3
     obtain ⟨a3, f3, hv3, df3, fd3, fo3, ff3⟩ : ∃ (a3 : Addr) (f3 : Say), atI ([.ref a1, .ref a2] : List V) g = some (.ref a3) ∧ DatAt K (upd (upd (upd H20 a1 (.tup [.str "and", .ref gd, x])) a2 (.tup [.str "or", .ref gd, x])) L4 (.lst [.ref a1, .ref a2])) (.ref a3) f3.dt ∧ f3.deep ≤ 1 + (i + 1) ∧ f3.Over ss ∧ firstAt ["K"] f3 [] = some (1 :: ns) := by
      by_cases c0 : g = 0
      ·exact ⟨a1, .and (.sign "K" t1 0) f, by rw [c0]; exact atI_nat (j := 0) rfl, dat_tup (.of (m3 _ _ (m2 _ _ upd_same))) (dats_cons dat_str (dats_cons (dat_stay ma.kts _ _ (Say.noL _) dg) (dats_cons (dat_stay ma.kts _ _ f.noL dx20) dats_nil))), by simp only [Say.deep]; omega, ⟨go, fo⟩, wrap1 (g := f) rfl rfl (gf _) ff⟩
      ·exact ⟨a2, .or (.sign "K" t1 0) f, by rw [show g = 1 by omega]; exact atI_nat (j := 1) rfl, dat_tup (.of (m3 _ _ upd_same)) (dats_cons dat_str (dats_cons (dat_stay ma.kts _ _ (Say.noL _) dg) (dats_cons (dat_stay ma.kts _ _ f.noL dx20) dats_nil))), by simp only [Say.deep]; omega, ⟨go, fo⟩, wrap1 (g := f) rfl rfl (gf _) ff⟩
     refine ⟨_, rfl, L4, _, _, .ref a3, rfl, rfl, .of upd_same, hv3, rest _ _ ⟨.ref a3, f3, rfl, ma.kb, d20.same ma, df3, fd3, fo3, ?_⟩⟩
     rw [if_pos c']; exact ff3
    have c' : ¬ g < 2 := fun z => c (decide_eq_true z)
    refine ⟨_, rfl, _, _, rfl, rfl, _, rfl, ite2 (fun c2 => ?_) (fun c2 => ?_)⟩
    ·have c2' : g < 4 := of_decide_eq_true c2
     refine ⟨_, rfl, _, rfl, by show 3 ≤ sizeLine; decide, fun a1 ha1 => ⟨_, rfl, _, rfl, by show 3 ≤ sizeLine; decide, fun a2 ha2 => ⟨by show 2 ≤ sizeLine; decide, fun L4 hL4 => ?_⟩⟩⟩
     have m1 := Same.new (o := .tup [.str "and", x, .ref gd]) ha1
     have m2 := Same.new (o := .tup [.str "or", x, .ref gd]) ha2
     have m3 := Same.new (o := .lst [.ref a1, .ref a2]) hL4
     have ma := (m1.trans m2).trans m3
     obtain ⟨a3, f3, hv3, df3, fd3, fo3, ff3⟩ : ∃ (a3 : Addr) (f3 : Say), atI ([.ref a1, .ref a2] : List V) (g - 2) = some (.ref a3) ∧ DatAt K (upd (upd (upd H20 a1 (.tup [.str "and", x, .ref gd])) a2 (.tup [.str "or", x, .ref gd])) L4 (.lst [.ref a1, .ref a2])) (.ref a3) f3.dt ∧ f3.deep ≤ 1 + (i + 1) ∧ f3.Over ss ∧ firstAt ["K"] f3 [] = some (0 :: ns) := by
      by_cases c0 : g = 2
      ·exact ⟨a1, .and f (.sign "K" t1 0), by rw [c0]; exact atI_nat (j := 0) rfl, dat_tup (.of (m3 _ _ (m2 _ _ upd_same))) (dats_cons dat_str (dats_cons (dat_stay ma.kts _ _ f.noL dx20) (dats_cons (dat_stay ma.kts _ _ (Say.noL _) dg) dats_nil))), by simp only [Say.deep]; omega, ⟨fo, go⟩, wrap0 (g := f) rfl ff⟩
      ·exact ⟨a2, .or f (.sign "K" t1 0), by rw [show g - 2 = 1 by omega]; exact atI_nat (j := 1) rfl, dat_tup (.of (m3 _ _ upd_same)) (dats_cons dat_str (dats_cons (dat_stay ma.kts _ _ f.noL dx20) (dats_cons (dat_stay ma.kts _ _ (Say.noL _) dg) dats_nil))), by simp only [Say.deep]; omega, ⟨fo, go⟩, wrap0 (g := f) rfl ff⟩
     refine ⟨_, rfl, _, _, rfl, rfl, L4, _, _, .ref a3, rfl, rfl, .of upd_same, hv3, rest _ _ ⟨.ref a3, f3, rfl, ma.kb, d20.same ma, df3, fd3, fo3, ?_⟩⟩
     rw [if_neg c']; exact ff3
    refine ⟨_, rfl, rfl, _, rfl, ite2 (fun c3 => ?_) (fun c3 => ?_)⟩
    ·refine ⟨_, rfl, by show 2 ≤ sizeLine; decide, fun a1 ha1 => ?_⟩
     have m1 := Same.new (o := .tup [.str "not", x]) ha1
     refine rest _ _ ⟨.ref a1, .no f, rfl, m1.kb, d20.same m1, dat_tup (.of upd_same) (dats_cons dat_str (dats_cons (dat_stay m1.kts _ _ f.noL dx20) dats_nil)), by simp only [Say.deep]; omega, fo, ?_⟩
     rw [if_neg c']; exact wrap0 (g := f) rfl ff
    ·refine ⟨by show 2 ≤ sizeLine; decide, fun L4 hL4 => ?_⟩
     have m1 := Same.new (o := .lst [.str "some", .str "each"]) hL4
     have nLd : L4 ≠ d := (d20.ne hL4).symm
     refine ⟨_, rfl, d, 2, rfl, d20.same m1, by decide, fun q H21 q0 q1 k21 d21 => ?_⟩
     have eL21 : H21 L4 = some (.lst [.str "some", .str "each"]) := k21 _ _ upd_same nLd
     have ktA : KTs K H20 H21 := m1.kts.trans ((d20.same m1).kts k21)
     have kA : KB d H20 H21 := m1.kb.trans k21
     obtain ⟨wd, hwd, cs⟩ : ∃ wd : Str, atI ([.str "some", .str "each"] : List V) q = some (.str wd) ∧ (wd = "some" ∨ wd = "each") := by
      by_cases c0 : q = 0
      ·exact ⟨"some", by rw [c0]; exact atI_nat (j := 0) rfl, .inl rfl⟩
      ·exact ⟨"each", by rw [show q = 1 by omega]; exact atI_nat (j := 1) rfl, .inr rfl⟩
     refine ⟨L4, _, _, .str wd, rfl, rfl, .of eL21, hwd, ?_⟩
     refine ⟨_, rfl, _, rfl, d, 4, rfl, d21, by decide, fun m H22 m0 m1' k22 d22 => ?_⟩
     obtain ⟨mn, rfl⟩ : ∃ mn : Nat, m = (mn : Int) := ⟨m.toNat, by omega⟩
     have en : ss[mn]? = some (ss[mn]'(by omega)) := List.getElem?_eq_getElem (by omega)
     generalize ss[mn]'(by omega) = nm at en
     refine ⟨N, _, _, .str nm, rfl, rfl, .of (k22 _ _ (kA _ _ eN20 nNd) nNd), atI_nat (by rw [List.getElem?_map, en]; rfl), ?_⟩
     refine ⟨_, rfl, by show 3 ≤ sizeLine; decide, fun a1 ha1 => ?_⟩
     have m2 := Same.new (o := .tup [.str wd, .str nm, x]) ha1
     have ktB : KTs K H20 (upd H22 a1 (.tup [.str wd, .str nm, x])) := (ktA.trans (d21.kts k22)).trans m2.kts
     have kB : KB d H20 (upd H22 a1 (.tup [.str wd, .str nm, x])) := (kA.trans k22).trans m2.kb
     have d23 := d22.same m2
     rcases cs with rfl | rfl
     ·refine rest _ _ ⟨.ref a1, .some nm f, rfl, kB, d23, dat_tup (.of upd_same) (dats_cons dat_str (dats_cons dat_str (dats_cons (dat_stay ktB _ _ f.noL dx20) dats_nil))), by simp only [Say.deep]; omega, fo, ?_⟩
      rw [if_neg c']; exact wrap0 (g := f) rfl ff
     ·refine rest _ _ ⟨.ref a1, .each nm f, rfl, kB, d23, dat_tup (.of upd_same) (dats_cons dat_str (dats_cons dat_str (dats_cons (dat_stay ktB _ _ f.noL dx20) dats_nil))), by simp only [Say.deep]; omega, fo, ?_⟩
      rw [if_neg c']; exact wrap0 (g := f) rfl ff
  ·rintro σ H18 ⟨x, f, pl, ns, v13, v14, v15, rfl, k18, d18, dx, dy, eN18, epl, fd, fo, ff, lns⟩
   refine hR _ _ ?_
   refine ⟨_, rfl, _, rfl, by show 2 ≤ sizeLine; decide, fun rr hrr => ?_⟩
   have sr := Same.new (o := .tup [x, .ref pl]) hrr
   exact k rr pl x f ns _ (k18.trans sr.kb) (d18.same sr) upd_same (dat_stay sr.kts _ _ f.noL dx) (by omega) fo (sr _ _ epl) (by omega) ff
def ResAt (H : Hp) (L : Addr) : Option (List Nat) → Prop
 | none => H L = some (.lst [.non, .str "told"])
 | some ns => ∃ pl, H pl = some (.tup (natsV ns)) ∧ H L = some (.lst [.ref pl, .str "refused"])
theorem ResAt.same {H H' : Hp} {L : Addr} {o : Option (List Nat)} (h : ResAt H L o) (s : Same H H') : ResAt H' L o := by
 cases o with
 | none => exact s _ _ h
 | some ns => obtain ⟨pl, a, b⟩ := h; exact ⟨pl, s _ _ a, s _ _ b⟩
def resDt : Option (List Nat) → List Dt
 | none => [.non, .str "told"]
 | some ns => [.tup ((ns.map fun (n : Nat) => (n : Int)).map Dt.int), .str "refused"]
theorem natsV_ints (ns : List Nat) : natsV ns = (ns.map fun (n : Nat) => (n : Int)).map V.int := by unfold natsV; rw [List.map_map]; rfl
theorem ResAt.dat {K : PySem.W.Frag} {H : Hp} {L : Addr} {o : Option (List Nat)} (h : ResAt H L o) : DatAt K H (.ref L) (.lst (resDt o)) := by
 cases o with
 | none => exact dat_lst (.of h) (dats_cons (by rw [DatAt]) (dats_cons dat_str dats_nil))
 | some ns =>
  obtain ⟨pl, a, b⟩ := h
  rw [natsV_ints] at a
  exact dat_lst (.of b) (dats_cons (dat_tup (.of a) (dats_ints _)) (dats_cons dat_str dats_nil))
theorem res_self (o : Option (List Nat)) : Dt.beqs (resDt o) (resDt o) = true := by
 cases o with
 | none => simp [resDt, Dt.beqs, Dt.beq]
 | some ns => simp only [resDt, Dt.beqs, Dt.beq, beqs_ints]; simp
theorem res_dep (o : Option (List Nat)) : Dt.dep (.lst (resDt o)) ≤ 40 := by
 cases o with
 | none => simp [resDt, Dt.dep, Dt.deps]
 | some ns => simp only [resDt, Dt.dep, Dt.deps, deps_ints]; omega
theorem res_ne {K : PySem.W.Frag} {H : Hp} {L M : Addr} {o : Option (List Nat)} {Q : VK} (h1 : ResAt H L o) (h2 : ResAt H M o) (q : Q (.bl false) H) :
  rEqD K true (.ref L) (.ref M) H Q ∧ ∃ d d' : Dt, DatAt K H (.ref L) d ∧ DatAt K H (.ref M) d' ∧ ((∃ ds ds', d = .tup ds ∧ d' = .tup ds') ∨ ∃ ds ds', d = .lst ds ∧ d' = .lst ds') := by
 refine ⟨⟨_, _, h1.dat, h2.dat, rfl, rfl, res_dep o, ?_⟩, _, _, h1.dat, h2.dat, .inr ⟨_, _, rfl, rfl⟩⟩
 rw [Dt.beq, res_self]
 exact q
theorem res_eq {K : PySem.W.Frag} {H : Hp} {L M : Addr} {o : Option (List Nat)} {Q : VK} (h1 : ResAt H L o) (h2 : ResAt H M o) (q : Q (.bl true) H) : rEqD K false (.ref L) (.ref M) H Q := by
 refine ⟨_, _, h1.dat, h2.dat, rfl, rfl, res_dep o, ?_⟩
 rw [Dt.beq, res_self]
 exact q
theorem at_nil {σ : St} {H : Hp} {Q : List V → Hp → Prop} (h : Q [] H) : tNil σ H Q := h
theorem said_by {K : PySem.W.Frag} {H : Hp} {wa : Addr} {x : V} {R ss : List Str} {f : Say} {Q : VK} {E : XK} (W : WorldR H wa R) (hf : DatAt K H x f.dt) (hd : f.deep ≤ 15) (ov : f.Over ss) (hss : ss.length ≤ 10)
  (h : ∀ L H', H L = none → Same H H' → ResAt H' L (firstAt R f []) → Q (.ref L) H') : spSaid K [.ref wa, x] H Q E :=
 ⟨wa, x, R, f, ss, rfl, W, hf, hd, ov, hss, fun e L H' hL s eL => h L H' hL s (by rw [e]; exact eL), fun ns e L pl H' hL s ep eL => h L H' hL s (by rw [e]; exact ⟨pl, ep, eL⟩)⟩
def DueV (H : Hp) (dv : V) : Option (List Nat) → Prop
 | none => dv = .non
 | some ns => ∃ pl, dv = .ref pl ∧ H pl = some (.tup (natsV ns))
theorem DueV.same {H H' : Hp} {dv : V} {o : Option (List Nat)} (h : DueV H dv o) (s : Same H H') : DueV H' dv o := by
 cases o with
 | none => exact h
 | some ns => obtain ⟨pl, a, b⟩ := h; exact ⟨pl, a, s _ _ b⟩
def wordOf (o : Option (List Nat)) : Str := if o.isNone then "told" else "refused"
theorem DueV.res {H : Hp} {dv : V} {o : Option (List Nat)} {M : Addr} (h : DueV H dv o) (e : H M = some (.lst [dv, .str (wordOf o)])) : ResAt H M o := by
 cases o with
 | none => cases h; exact e
 | some ns => obtain ⟨pl, rfl, b⟩ := h; exact ⟨pl, b, e⟩
theorem DueV.none_ {H : Hp} {dv : V} {o : Option (List Nat)} (h : DueV H dv o) : decide (dv = .non) = o.isNone := by
 cases o with
 | none => cases h; rfl
 | some ns => obtain ⟨pl, rfl, b⟩ := h; exact decide_eq_false fun z => by cases z
theorem first_by {K : PySem.W.Frag} {n : Nat} {H : Hp} {wa pl : Addr} {x : V} {R ss : List Str} {f : Say} {ns : List Nat} {Q : VK} {E : XK} (W : WorldR H wa R) (hf : DatAt K H x f.dt) (ov : f.Over ss) (hss : ss.length ≤ 10) (hd : f.deep ≤ 15) (hn : f.deep < n) (epl : H pl = some (.tup (natsV ns))) (hl : ns.length + f.deep ≤ 1000)
  (h : ∀ dv H', Same H H' → DueV H' dv (firstAt R f ns) → Q dv H') : spLFirst K n [.ref wa, x, .ref pl] H Q E :=
 ⟨wa, pl, x, R, f, ss, ns, rfl, W, hf, ov, hss, hd, hn, epl, hl, fun e H' s => h .non H' s (by rw [e]; rfl), fun ms pl' H' e s ep => h (.ref pl') H' s (by rw [e]; exact ⟨pl', rfl, ep⟩)⟩
theorem cutG {α : Type} {f : α → V} (xs : List α) (n : Nat) : cutV (xs.map f) none (some (n : Int)) = (xs.take n).map f := by
 unfold cutV
 rw [HT.sIx_none, HT.sIx_nat, List.length_map, List.drop_zero, Nat.sub_zero, List.map_take]
 by_cases h : n ≤ xs.length
 ·rw [Nat.min_eq_left h]
 ·rw [Nat.min_eq_right (by omega), List.take_of_length_le (by rw [List.length_map]; exact Nat.le_refl _), List.take_of_length_le (by rw [List.length_map]; omega)]
structure Lz (H : Hp) (d wa N Rw : Addr) (R ss rs : List Str) : Prop where
 deck : Deck2 H d
 world : WorldR H wa R
 eN : H N = some (.lst (ss.map V.str))
 eR : H Rw = some (.lst (rs.map V.str))
theorem Lz.same {H H' : Hp} {d wa N Rw : Addr} {R ss rs : List Str} (h : Lz H d wa N Rw R ss rs) (s : Same H H') : Lz H' d wa N Rw R ss rs := ⟨h.deck.same s, h.world.same s, s _ _ h.eN, s _ _ h.eR⟩
theorem Lz.kb {H H' : Hp} {d wa N Rw : Addr} {R ss rs : List Str} (h : Lz H d wa N Rw R ss rs) (s : KB d H H') (e : Deck2 H' d) (n1 : N ≠ d) (n2 : Rw ≠ d) : Lz H' d wa N Rw R ss rs := ⟨e, h.world.kb s h.deck.is, s _ _ h.eN n1, s _ _ h.eR n2⟩
theorem pe_disp1 {X : Cx} {pos : Pos} {k v : Expr} {tk tv : TE} (hk : PE X k tk) (hv : PE X v tv) : PE X (.Dict [some k] [v] pos) (tDisp [(tk, tv)]) := pe_disp (pps_cons hk hv pps_nil) rfl rfl (fun z => nomatch z) (by show 1 ≤ 15; decide)
def spLaw (K : PySem.W.Frag) : Sp := fun vs H Q _ => ∃ (a : Addr) (ns : List Int), vs = [.ref a] ∧ SqL K H a (ns.map V.int) ∧ ns.length ≤ 63 ∧ ∀ H', Q (.bl true) H'
theorem starDict {keys : List (Option Expr)} {values : List Expr} {pos : Pos} {es : List Expr} {env : Env} : starEach (.Dict keys values pos :: es) env = (false, eval (.Dict keys values pos) env) :: starEach es env := rfl
theorem starSub {v i : Expr} {pos : Pos} {es : List Expr} {env : Env} : starEach (.Subscript v i pos :: es) env = (false, eval (.Subscript v i pos) env) :: starEach es env := rfl
theorem pe_wide {X : Cx} {v i k vv : Expr} {p1 p2 pos : Pos} {c} {t1 tk tv : TE} (h1 : PE X (.Subscript v i p1) t1) (hk : PE X k tk) (hv : PE X vv tv) : PE X (.Tuple [.Subscript v i p1, .Dict [some k] [vv] p2] c pos) (tTup (tCons t1 (tCons (tDisp [(tk, tv)]) tNil))) :=
 pe_tup (pa_cons h1 (pa_cons (pe_disp1 hk hv) pa_nil starDict) starSub)
theorem sc_law : FnScope ["_law_script", "_law_deck_here", "_law_world_here", "_law_names_here", "_law_rows", "_law_lost", "_law_wide", "_law_k", "_law_bad", "_law_place", "_law_saying_here", "_law_due", "_law_word", "_law_found", "_law_plain_here"] ["_law_script"] (defScope s_law) := ⟨rfl, rfl, rfl, by decide +kernel, rfl, by decide +kernel, by decide +kernel⟩
theorem ok_law {a : Adr} {x : AdrX} {b : PAdr} {c : TAdr} {r : RAdr} (T : Txt K mg a) (TE : TX K mg x) (U : TopsP K w.params mg b) (Y : TopsT K w.params mg c) (Z : TopsR K w.params mg r) : FnOk P w K mg base CX0 33 a.f_law a.fd_law ["_law_script"] (spLaw K) := by
 have G_l_deck := ok_l_deck (P := P) (w := w) (base := base) T
 have G_l_next := ok_l_next (P := P) (w := w) (base := base) T
 have G_l_names := ok_l_names (P := P) (w := w) (base := base) T
 have G_l_world := ok_l_world (P := P) (w := w) (base := base) T
 have G_l_one_wrong := ok_l_one_wrong (P := P) (w := w) (base := base) T
 have G_l_said : FnOk P w K mg base CX0 5 a.f_l_said a.fd_l_said ["_law_world_here", "_law_saying_here"] (spSaid K) := ok_l_said T TE U Y Z
 have G_l_saying : FnOk P w K mg base CX0 16 a.f_l_saying a.fd_l_saying ["_law_deck_here", "_law_names_here", "_law_rows", "_law_box", "_law_deep"] (spSaying K 12) := ok_l_saying T 12
 have G_l_first : FnOk P w K mg base CX0 32 a.f_l_first a.fd_l_first ["_law_world_here", "_law_saying_here", "_law_place"] (spLFirst K 13) := ok_l_first T 13
 refine T.F_law.ok sc_law (fun vs H Q E h => ?_) (fun cdv A outer s H vs Q E hr h => ?_)
 ·obtain ⟨d, ms, rfl, _⟩ := h
  rfl
 ·obtain ⟨sa, is, rfl, hS, his, k⟩ := h
  have hr_l_deck : Room 1 _ := hr.mono (by decide)
  have hr_l_next : Room 1 _ := hr.mono (by decide)
  have hr_l_names : Room 2 _ := hr.mono (by decide)
  have hr_l_world : Room 3 _ := hr.mono (by decide)
  have hr_l_one_wrong : Room 2 _ := hr.mono (by decide)
  have hr_l_said : Room 5 _ := hr.mono (by decide)
  have hr_l_saying : Room 16 _ := hr.mono (by decide)
  have hr_l_first : Room 32 _ := hr.mono (by decide)
  refine ⟨_, (pss_cons (ps_set (i := 1) sc_law.nd rfl (Or.inl rfl) (pe_call G_l_deck hr_l_deck rfl T.m_l_deck T.k_l_deck T.b_l_deck .nil pass0 (pa_cons (pv 0) (pa_cons pe_int pa_nil))))
  (pss_cons (ps_set (i := 2) sc_law.nd rfl (Or.inl rfl) (pe_call G_l_world hr_l_world rfl T.m_l_world T.k_l_world T.b_l_world .nil pass0 (pa_cons (pv 1) pa_nil)))
  (pss_cons (ps_set (i := 3) sc_law.nd rfl (Or.inl rfl) (pe_call G_l_names hr_l_names rfl T.m_l_names T.k_l_names T.b_l_names .nil pass0 (pa_cons (pv 1) (pa_cons (pe_op op_add pe_int (pe_call G_l_next hr_l_next rfl T.m_l_next T.k_l_next T.b_l_next .nil pass0 (pa_cons (pv 1) (pa_cons pe_int pa_nil)))) (pa_cons pe_bl pa_nil)))))
  (pss_cons (ps_set (i := 4) sc_law.nd rfl (Or.inr rfl) (pe_callTy (call_listD rfl) (by rfl) T.z_list bt_list (pa_cons (pe_ix (ix_tupK K) (pv 2) pe_int (fun _ _ => rfl)) pa_nil)))
  (pss_cons (ps_if (pt_cmpR op_eq (pe_call G_l_next hr_l_next rfl T.m_l_next T.k_l_next T.b_l_next .nil pass0 (pa_cons (pv 1) (pa_cons pe_int pa_nil))) pe_int (nomark _))
   (pss_one (ps_set (i := 4) sc_law.nd rfl (Or.inr rfl) (pe_op op_cat (pv 4) (pe_comp (CompScope.mk' (esc := defScope s_law) (N := ["_law_script", "_law_deck_here", "_law_world_here", "_law_names_here", "_law_rows", "_law_lost", "_law_wide", "_law_k", "_law_bad", "_law_place", "_law_saying_here", "_law_due", "_law_word", "_law_found", "_law_plain_here"]) (own := ["_law_name"]) (frn := ["_law_rows"]) (frj := [4]) rfl rfl (by decide +kernel)) rfl (pi_list (pe_call G_l_names hr_l_names rfl T.m_l_names T.k_l_names T.b_l_names .nil pass0 (pa_cons (pv 1) (pa_cons pe_int (pa_cons pe_bl pa_nil))))) (fun _ _ _ _ => (pg_name (i := 0) (show List.Nodup (["_law_name", "_law_rows"] : List Str) by decide +kernel) rfl (Or.inl rfl))) (fun _ _ _ _ => (pifs_one (pt_cmpR (op_notInK K) (pv 0) (pv 1) (by with_unfolding_all rfl)))) (fun _ _ _ _ => (pv 0))))))
   pss_nil)
  (pss_cons (ps_set (i := 5) sc_law.nd rfl (Or.inl rfl) (pe_ix (ix_listK K) (pe_lst (pa_cons pe_str (pa_cons pe_str (pa_cons pe_str (pa_cons pe_str (pa_cons pe_str pa_nil)))))) (pe_call G_l_next hr_l_next rfl T.m_l_next T.k_l_next T.b_l_next .nil pass0 (pa_cons (pv 1) (pa_cons pe_int pa_nil))) (fun _ _ => rfl)))
  (pss_cons (ps_set (i := 6) sc_law.nd rfl (Or.inl rfl) (pe_wide (pe_ix (ix_tupK K) (pv 2) pe_int (fun _ _ => rfl)) pe_str (pe_tup (pa_cons (pe_tup (pa_cons pe_int pa_nil)) (pa_cons (pe_tup (pa_cons (pe_op (op_repTK K) (pe_tup (pa_cons pe_int pa_nil)) (pe_ix (ix_tupK K) (pv 2) pe_int (fun _ _ => rfl))) pa_nil)) pa_nil)))))
  (pss_cons (ps_for PassesOwn.never rfl (pi_range1 rfl T.z_range (pa_cons pe_int pa_nil)) (pg_name (i := 7) sc_law.nd rfl (Or.inl rfl))
   (pss_cons (ps_asg (pe_call G_l_one_wrong hr_l_one_wrong rfl T.m_l_one_wrong T.k_l_one_wrong T.b_l_one_wrong .nil pass0 (pa_cons (pv 1) (pa_cons (pv 3) (pa_cons pe_str (pa_cons (pv 5) pa_nil))))) (pg_tup rfl (pgs_cons (pg_name (i := 8) sc_law.nd rfl (Or.inl rfl)) (pgs_cons (pg_name (i := 9) sc_law.nd rfl (Or.inl rfl)) pgs_nil))))
   (pss_one (ps_if (pt_cmpR (op_neD K hr.units) (pe_call G_l_said hr_l_said rfl T.m_l_said T.k_l_said T.b_l_said .nil pass0 (pa_cons (pv 6) (pa_cons (pv 8) pa_nil))) (pe_lst (pa_cons (pv 9) (pa_cons pe_str pa_nil))) (nomark _))
    (pss_one (ps_ret pe_bl))
    pss_nil))))
  (pss_cons (ps_set (i := 10) sc_law.nd rfl (Or.inl rfl) (pe_call G_l_saying hr_l_saying rfl T.m_l_saying T.k_l_saying T.b_l_saying .nil pass0 (pa_cons (pv 1) (pa_cons (pe_slice (sl_listK K) (pv 3) po_none (po_some (pe_op op_add pe_int (pe_call G_l_next hr_l_next rfl T.m_l_next T.k_l_next T.b_l_next .nil pass0 (pa_cons (pv 1) (pa_cons pe_int pa_nil)))))) (pa_cons (pv 4) (pa_cons (pe_lst (pa_cons pe_int pa_nil)) (pa_cons (pe_call G_l_next hr_l_next rfl T.m_l_next T.k_l_next T.b_l_next .nil pass0 (pa_cons (pv 1) (pa_cons pe_int pa_nil))) pa_nil)))))))
  (pss_cons (ps_set (i := 11) sc_law.nd rfl (Or.inl rfl) (pe_call G_l_first hr_l_first rfl T.m_l_first T.k_l_first T.b_l_first .nil pass0 (pa_cons (pv 2) (pa_cons (pv 10) (pa_cons (pe_tup pa_nil) pa_nil)))))
  (pss_cons (ps_set (i := 12) sc_law.nd rfl (Or.inl rfl) (pe_ix (ix_listK K) (pe_lst (pa_cons pe_str (pa_cons pe_str pa_nil))) (pe_callTy call_int1 (by rfl) T.z_int bt_int (pa_cons (pe_cmpR op_isN (pv 11) pe_non (nomark _)) pa_nil)) (fun _ _ => rfl)))
  (pss_cons (ps_set (i := 13) sc_law.nd rfl (Or.inl rfl) (pe_call G_l_said hr_l_said rfl T.m_l_said T.k_l_said T.b_l_said .nil pass0 (pa_cons (pv 2) (pa_cons (pv 10) pa_nil))))
  (pss_cons (ps_if (pt_cmpR (op_neD K hr.units) (pv 13) (pe_lst (pa_cons (pv 11) (pa_cons (pv 12) pa_nil))) (nomark _))
   (pss_one (ps_ret pe_bl))
   pss_nil)
  (pss_cons (ps_set (i := 14) sc_law.nd rfl (Or.inl rfl) (pe_tup (pa_cons pe_str (pa_cons (pe_tup (pa_cons pe_int (pa_cons (pe_tup (pa_cons (pe_tup (pa_cons (pe_ix (ix_listK K) (pv 3) pe_int (fun _ _ => rfl)) (pa_cons pe_int pa_nil))) pa_nil)) pa_nil))) (pa_cons (pe_tup (pa_cons pe_int (pa_cons (pe_tup pa_nil) pa_nil))) pa_nil)))))
  (pss_one (ps_ret (pe_and (pe_cmpR (op_eqD K hr.units) (pe_call G_l_said hr_l_said rfl T.m_l_said T.k_l_said T.b_l_said .nil pass0 (pa_cons (pv 2) (pa_cons (pv 14) pa_nil))) (pe_lst (pa_cons pe_non (pa_cons pe_str pa_nil))) (nomark _)) (pe_one (pe_cmpR (op_eqD K hr.units) (pe_call G_l_said hr_l_said rfl T.m_l_said T.k_l_said T.b_l_said .nil pass0 (pa_cons (pv 2) (pa_cons (pv 10) pa_nil))) (pe_lst (pa_cons (pv 11) (pa_cons (pv 12) pa_nil))) (nomark _)))))))))))))))))))), ?_⟩
  refine seq_abs fun R hR => ?_
  refine ⟨_, rfl, sa, is, rfl, hS, his, fun d H1 hd s1 d1 => ?_⟩
  refine hR _ _ (seq_abs fun R hR => ?_)
  refine ⟨_, rfl, d, rfl, d1, fun wa D b kvs ks H2 k2 d2 ewa eD KS b2 b4 lk hD1 => ?_⟩
  have W2 : WorldR H2 wa ks := ⟨_, D, kvs, ewa, eD, fun x => Ks.isSome KS.keys x⟩
  refine hR _ _ (seq_abs fun R hR => ?_)
  refine ⟨_, rfl, _, rfl, d, 3, rfl, d2, by decide, fun r3 H3 r30 r31 k3 d3 => ⟨_, _, rfl, rfl, ?_⟩⟩
  obtain ⟨m, em⟩ : ∃ m : Nat, 4 + r3 = (m : Int) := ⟨(4 + r3).toNat, by omega⟩
  refine ⟨d, m, false, congrArg (fun z => [V.ref d, V.int z, V.bl false]) em, d3, by omega, fun N ss H4 hN k4 d4 eN4 ls nd => ?_⟩
  have l4 : 4 ≤ ss.length := by omega
  have l6 : ss.length ≤ 6 := by omega
  have nNd : N ≠ d := (d3.ne hN).symm
  have W4 : WorldR H4 wa ks := (W2.kb k3 d2.is).kb k4 d3.is
  have keepT : ∀ {Ha Hb : Hp} {c : Addr} {ys : List V}, Deck2 Ha d → KB d Ha Hb → Ha c = some (.tup ys) → Hb c = some (.tup ys) := fun da kk e => by obtain ⟨xs, ex⟩ := da.is; exact kk _ _ e (ne_of e ex (fun z => nomatch z))
  have keepD : ∀ {Ha Hb : Hp} {c : Addr} {ys : List (Key × V)}, Deck2 Ha d → KB d Ha Hb → Ha c = some (.dK ys) → Hb c = some (.dK ys) := fun da kk e => by obtain ⟨xs, ex⟩ := da.is; exact kk _ _ e (ne_of e ex (fun z => nomatch z))
  have ewa4 := keepT d3 k4 (keepT d2 k3 ewa)
  have eD4 := keepD d3 k4 (keepD d2 k3 eD)
  refine hR _ _ (seq_abs fun R hR => ?_)
  refine ⟨_, rfl, wa, _, _, _, rfl, rfl, .of ewa4, atI_nat (j := 1) (v := .ref D) rfl, D, kvs, ks, rfl, eD4, KS.keys, by omega, fun R0 hR0 => ?_⟩
  have sR := Same.new (o := .lst (ks.map V.str)) hR0
  have nR0d : R0 ≠ d := (d4.ne hR0).symm
  have z5 : Lz (upd H4 R0 (.lst (ks.map V.str))) d wa N R0 ks ss ks := ⟨d4.same sR, W4.same sR, sR _ _ eN4, upd_same⟩
  have ewa5 := sR _ _ ewa4
  generalize upd H4 R0 (.lst (ks.map V.str)) = H5 at z5 ewa5 ⊢
  dsimp only [gName]
  refine hR _ _ (seq_rest2 (t := tIfS _ _ _) (u := tSeq _ _) (fun σ H' => ∃ (Rw : Addr) (rs : List Str), σ = [some (.ref sa), some (.ref d), some (.ref wa), some (.ref N), some (.ref Rw), none, none, none, none, none, none, none, none, none, none] ∧ Lz H' d wa N Rw ks ss rs ∧ Rw ≠ d ∧ rs.length ≤ 10 ∧ H' wa = some (.tup [.int b, .ref D])) ?re (fun R rest => ?ifp))
  case ifp =>
   refine ⟨_, rfl, d, 3, rfl, z5.deck, by decide, fun r6 H6 r60 r61 k6 d6 => ⟨rfl, _, rfl, ?_⟩⟩
   have z6 := z5.kb k6 d6 nNd nR0d
   have ewa6 := keepT z5.deck k6 ewa5
   refine ite2 (fun _ => ?_) (fun _ => rest _ _ ⟨R0, ks, rfl, z6, nR0d, by omega, ewa6⟩)
   refine ⟨_, rfl, _, rfl, d, 2, true, rfl, d6, by decide, fun M mm H7 hM k7 d7 eM lm _ => ?_⟩
   have z7 := z6.kb k7 d7 nNd nR0d
   have ewa7 := keepT z6.deck k7 ewa6
   have nMd : M ≠ d := (d6.ne hM).symm
   refine ⟨M, rfl, ⟨_, .of eM⟩, fun C hC => ?_⟩
   have sC := Same.new (o := .lst []) hC
   refine comp_list (xs := mm.map V.str) (fun j σ H' => ∃ (cs : List Str) (v : Option V), σ = [v, some (.ref R0)] ∧ Same H7 H' ∧ H' C = some (.lst (cs.map V.str)) ∧ cs.length ≤ j)
    ⟨[], none, ?sg, sC, upd_same, Nat.le_refl _⟩ (fun j σ H' _ ⟨_, _, _, s, _⟩ => .of (s _ _ eM)) ?_ ?_
   case sg => rfl
   ·rintro j y σ H8 hy ⟨cs, v, rfl, s8, eC, lc⟩
    obtain ⟨nm, rfl, en⟩ := strItem hy
    have hj : j < 2 := by have := (List.getElem?_eq_some_iff.mp en).1; omega
    refine ⟨_, rfl, _, rfl, R0, _, rfl, .inl (.of (s8 _ _ z7.eR)), rfl, allflat ks, _, rfl, ?_⟩
    refine ite2 (fun _ => ?_) (fun _ => ⟨cs, _, rfl, s8, eC, by omega⟩)
    refine ⟨_, rfl, _, eC, ?_, cs ++ [nm], _, rfl, s8.kbn hC KB.write, ?_, ?_⟩
    ·rw [List.length_map]; exact Nat.lt_of_lt_of_le (show cs.length < 100 by omega) (by decide)
    ·rw [upd_same, List.map_append]; rfl
    ·rw [List.length_append]; show cs.length + 1 ≤ j + 1; omega
   rintro σ H8 ⟨cs, v, rfl, s8, eC, lc⟩
   rw [List.length_map, lm] at lc
   have z8 := z7.same s8
   refine ⟨R0, C, _, _, rfl, rfl, z8.eR, eC, ?_, fun R1 hR1 => ?_⟩
   ·rw [List.length_map, List.length_map]; exact Nat.le_trans (show ks.length + cs.length ≤ 100 by omega) (by decide)
   have s9 := Same.new (o := .lst (ks.map V.str ++ cs.map V.str)) hR1
   have z9 := z8.same s9
   exact rest _ _ ⟨R1, ks ++ cs, rfl, ⟨z9.deck, z9.world, z9.eN, by rw [upd_same, List.map_append]⟩, (z8.deck.ne hR1).symm, by rw [List.length_append]; omega, s9 _ _ (s8 _ _ ewa7)⟩
  rintro σ H6 ⟨Rw, rs, rfl, z6, nRd, lrs, ewa6⟩
  refine seq_abs fun R hR => ?_
  refine ⟨by show 5 ≤ sizeLine; decide, fun L hL => ?_⟩
  have sL := Same.new (o := .lst [.str "ZZ", .str "KK", .str "Q", .str "QQQ", .str "J"]) hL
  have nLd : L ≠ d := (z6.deck.ne hL).symm
  refine ⟨_, rfl, d, 5, rfl, z6.deck.same sL, by decide, fun j7 H7 j70 j71 k7 d7 => ?_⟩
  have eL7 : H7 L = some (.lst [.str "ZZ", .str "KK", .str "Q", .str "QQQ", .str "J"]) := k7 _ _ upd_same nLd
  have z7 := (z6.same sL).kb k7 d7 nNd nRd
  have ewa7 := keepT (z6.deck.same sL) k7 (sL _ _ ewa6)
  obtain ⟨lost, hlo, nlo⟩ : ∃ lost : Str, atI ([.str "ZZ", .str "KK", .str "Q", .str "QQQ", .str "J"] : List V) j7 = some (.str lost) ∧ lost ≠ "K" := by
   by_cases c0 : j7 = 0
   ·exact ⟨_, by rw [c0]; exact atI_nat (j := 0) rfl, by decide⟩
   by_cases c1 : j7 = 1
   ·exact ⟨_, by rw [c1]; exact atI_nat (j := 1) rfl, by decide⟩
   by_cases c2 : j7 = 2
   ·exact ⟨_, by rw [c2]; exact atI_nat (j := 2) rfl, by decide⟩
   by_cases c3 : j7 = 3
   ·exact ⟨_, by rw [c3]; exact atI_nat (j := 3) rfl, by decide⟩
   ·exact ⟨_, by rw [show j7 = 4 by omega]; exact atI_nat (j := 4) rfl, by decide⟩
  refine ⟨L, _, _, .str lost, rfl, rfl, .of eL7, hlo, ?_⟩
  refine hR _ _ (seq_abs fun R hR => ?_)
  refine ⟨_, rfl, wa, _, _, _, rfl, rfl, .of ewa7, atI_nat (j := 0) (v := .int b) rfl, fun Dw hDw => ?_⟩
  have sD := Same.new (o := .dK []) hDw
  refine ⟨by show 1 ≤ sizeLine; decide, fun a1 ha1 => ⟨by show 1 ≤ sizeLine; decide, fun a2 ha2 => ?_⟩⟩
  have sa1 := Same.new (o := .tup [.int 0]) ha1
  have sa2 := Same.new (o := .tup [.int 0]) ha2
  refine ⟨_, rfl, wa, _, _, _, rfl, rfl, .of (sa2 _ _ (sa1 _ _ (sD _ _ ewa7))), atI_nat (j := 0) (v := .int b) rfl, a2, [.int 0], b, rfl, rfl, .of upd_same, by simp, b2, by simp; omega, fun a3 ha3 => ?_⟩
  have sa3 := Same.new (o := .tup (List.replicate b [.int 0]).flatten) ha3
  refine ⟨by show 1 ≤ sizeLine; decide, fun a4 ha4 => ⟨by show 2 ≤ sizeLine; decide, fun a5 ha5 => ?_⟩⟩
  have sa4 := Same.new (o := .tup [.ref a3]) ha4
  have sa5 := Same.new (o := .tup [.ref a1, .ref a4]) ha5
  have sX := (((sa1.trans sa2).trans sa3).trans sa4).trans sa5
  have eDw := sX _ _ (upd_same (H := H7) (a := Dw) (o := .dK []))
  have s78 := sD.trans sX
  generalize upd (upd (upd (upd (upd (upd H7 Dw (.dK [])) a1 (.tup [.int 0])) a2 (.tup [.int 0])) a3 (.tup (List.replicate b [.int 0]).flatten)) a4 (.tup [.ref a3])) a5 (.tup [.ref a1, .ref a4]) = H8 at eDw s78 ⊢
  refine ⟨eDw, [(Sum.inr "K", .ref a5)], rfl, by show 1 ≤ 15; decide, by show 2 ≤ sizeLine; decide, fun wb hwb => ?_⟩
  have s79 : Same H7 (upd H8 Dw (.dK (mergeK [] [(Sum.inr "K", .ref a5)]))) := s78.kbn hDw KB.write
  have sb := Same.new (o := .tup [.int b, .ref Dw]) hwb
  have Wb : WorldR (upd (upd H8 Dw (.dK (mergeK [] [(Sum.inr "K", .ref a5)]))) wb (.tup [.int b, .ref Dw])) wb ["K"] := by
   refine ⟨.int b, Dw, mergeK [] [(Sum.inr "K", .ref a5)], upd_same, sb _ _ upd_same, fun x => ?_⟩
   exact Ks.isSome (kvs := mergeK [] [(Sum.inr "K", .ref a5)]) (ks := ["K"]) rfl x
  have s710 := s79.trans sb
  have z10 := z7.same s710
  generalize upd (upd H8 Dw (.dK (mergeK [] [(Sum.inr "K", .ref a5)]))) wb (.tup [.int b, .ref Dw]) = H10 at Wb s710 z10 ⊢
  refine hR _ _ (seq_abs fun R hR => ?_)
  refine ⟨2, rfl, by decide, by decide, for_range (lo := 0) (n := 2) (fun i σ H' => ∃ (v7 v8 v9 : Option V), σ = [some (.ref sa), some (.ref d), some (.ref wa), some (.ref N), some (.ref Rw), some (.str lost), some (.ref wb), v7, v8, v9, none, none, none, none, none] ∧ Lz H' d wa N Rw ks ss rs ∧ WorldR H' wb ["K"])
   ⟨none, none, none, rfl, z10, Wb⟩ ?_ ?_⟩
  ·rintro i σ H11 hi ⟨v7, v8, v9, rfl, z11, W11⟩
   refine seq_abs fun R hR => ?_
   refine ⟨_, rfl, _, rfl, _, rfl, d, N, lost, ss, rfl, z11.deck, z11.eN, nNd, l4, l6, nd, nlo, fun rr pl y f ns H12 k12 d12 err dy fd fo epl lns ff => ?_⟩
   have z12 := z11.kb k12 d12 nNd nRd
   have W12 := W11.kb k12 z11.deck.is
   refine ⟨rr, _, rfl, .of err, rfl, _, _, rfl, _, _, rfl, rfl, ?_⟩
   refine hR _ _ ?_
   refine ⟨_, rfl, _, rfl, at_nil (said_by W12 dy fd fo (by omega) fun L1 H13 hL1 s13 res => ?_)⟩
   rw [ff] at res
   refine ⟨_, rfl, by show 2 ≤ sizeLine; decide, fun M hM => ?_⟩
   have sM := Same.new (o := .lst [.ref pl, .str "refused"]) hM
   refine res_ne (o := some ns) (res.same sM) ⟨pl, sM _ _ (s13 _ _ epl), upd_same⟩ ⟨false, rfl, iteF ?_⟩
   have sx := s13.trans sM
   exact ⟨_, _, _, rfl, z12.same sx, W12.same sx⟩
  rintro σ H11 ⟨v7, v8, v9, rfl, z11, W11⟩
  refine hR _ _ (seq_abs fun R hR => ?_)
  refine ⟨_, rfl, _, rfl, _, rfl, d, 4, rfl, z11.deck, by decide, fun r12 H12 r120 r121 k12 d12 => ⟨_, _, rfl, rfl, _, rfl, ?_⟩⟩
  have z12 := z11.kb k12 d12 nNd nRd
  obtain ⟨cn, ecn⟩ : ∃ cn : Nat, 3 + r12 = (cn : Int) := ⟨(3 + r12).toNat, by omega⟩
  refine ⟨N, _, rfl, .of z12.eN, fun N2 hN2 => ?_⟩
  rw [ecn, cutG]
  have sN2 := Same.new (o := .lst ((ss.take cn).map V.str)) hN2
  have nN2d : N2 ≠ d := (z12.deck.ne hN2).symm
  have eN2 : (upd H12 N2 (.lst ((ss.take cn).map V.str))) N2 = some (.lst ((ss.take cn).map V.str)) := upd_same
  have z13 := z12.same sN2
  generalize upd H12 N2 (.lst ((ss.take cn).map V.str)) = H13 at eN2 z13 ⊢
  refine ⟨_, rfl, by show 1 ≤ sizeLine; decide, fun Bx hBx => ?_⟩
  have sB := Same.new (o := .lst [.int 26]) hBx
  have nBd : Bx ≠ d := (z13.deck.ne hBx).symm
  have nRB : Rw ≠ Bx := ne_of_none z13.eR hBx
  have nNB : N ≠ Bx := ne_of_none z13.eN hBx
  have nN2B : N2 ≠ Bx := ne_of_none eN2 hBx
  have z14 := z13.same sB
  have eN2' := sB _ _ eN2
  have eBx : (upd H13 Bx (.lst [.int 26])) Bx = some (.lst [.int 26]) := upd_same
  generalize upd H13 Bx (.lst [.int 26]) = H14 at z14 eN2' eBx ⊢
  refine ⟨_, rfl, d, 12, rfl, z14.deck, by decide, fun dp H15 dp0 dp1 k15 d15 => ?_⟩
  obtain ⟨dn, rfl⟩ : ∃ dn : Nat, dp = (dn : Int) := ⟨dp.toNat, by omega⟩
  have z15 := z14.kb k15 d15 nNd nRd
  have eBx15 := k15 _ _ eBx nBd
  have eN215 := k15 _ _ eN2' nN2d
  have lt2 : 0 < (ss.take cn).length ∧ (ss.take cn).length ≤ 10 := by rw [List.length_take]; omega
  refine ⟨d, N2, Rw, Bx, ss.take cn, rs, 26, dn, rfl, z15.deck, ⟨.of eN215, nN2d, nN2B, lt2.1, lt2.2⟩, ⟨.of z15.eR, nRd, nRB, lrs⟩, eBx15, nBd, by omega, fun p f H16 bk' df hdo k16 d16 eBx16 => ?_⟩
  have W16 : WorldR H16 wa ks := by
   obtain ⟨bv, e, kvs', a, b', c⟩ := z15.world
   obtain ⟨xs, ex⟩ := z15.deck.is
   exact ⟨bv, e, kvs', k16 _ _ a (ne_of a ex (fun z => nomatch z)) (ne_of a eBx15 (fun z => nomatch z)), k16 _ _ b' (ne_of b' ex (fun z => nomatch z)) (ne_of b' eBx15 (fun z => nomatch z)), c⟩
  have eN16 := k16 _ _ z15.eN nNd nNB
  have fd : f.deep ≤ 11 := by have := hdo.1; omega
  refine hR _ _ (seq_abs fun R hR => ?_)
  refine ⟨_, rfl, _, rfl, by decide, fun e0 he0 => ?_⟩
  have se := Same.new (o := .tup []) he0
  have ee : (upd H16 e0 (.tup [])) e0 = some (.tup (natsV [])) := upd_same
  have df17 := dat_stay se.kts _ _ f.noL df
  have W17 := W16.same se
  have eN17 := se _ _ eN16
  generalize upd H16 e0 (.tup []) = H17 at ee df17 W17 eN17 ⊢
  refine at_nil ?_
  refine first_by W17 df17 hdo.2 lt2.2 (by omega) (by omega) ee (by simp; omega) fun dv H18 s18 due => ?_
  have W18 := W17.same s18
  have df18 := dat_stay s18.kts _ _ f.noL df17
  have eN18 := s18 _ _ eN17
  refine hR _ _ (seq_abs fun R hR => ?_)
  refine ⟨by show 2 ≤ sizeLine; decide, fun Lw hLw => ?_⟩
  have sw := Same.new (o := .lst [.str "refused", .str "told"]) hLw
  refine ⟨_, rfl, rfl, .inr ⟨_, rfl, Lw, _, _, .str (wordOf (firstAt ks f [])), rfl, rfl, .of upd_same, ?_, ?_⟩⟩
  ·rw [due.none_]
   unfold wordOf
   cases (firstAt ks f []).isNone with
   | true => exact atI_nat (j := 1) rfl
   | false => exact atI_nat (j := 0) rfl
  have W19 := W18.same sw
  have df19 := dat_stay sw.kts _ _ f.noL df18
  have eN19 := sw _ _ eN18
  have due19 := due.same sw
  generalize upd H18 Lw (.lst [.str "refused", .str "told"]) = H19 at W19 df19 eN19 due19 ⊢
  refine hR _ _ (seq_abs fun R hR => ?_)
  refine ⟨_, rfl, _, rfl, at_nil (said_by W19 df19 (by omega) hdo.2 lt2.2 fun L1 H20 hL1 s20 res => ?_)⟩
  refine hR _ _ (seq_abs fun R hR => ?_)
  refine ⟨_, rfl, _, rfl, _, rfl, by show 2 ≤ sizeLine; decide, fun M hM => ?_⟩
  have sM := Same.new (o := .lst [dv, .str (wordOf (firstAt ks f []))]) hM
  refine res_ne (res.same sM) (((due19.same s20).same sM).res upd_same) ⟨false, rfl, iteF ?_⟩
  have s21 := s20.trans sM
  have W21 := W19.same s21
  have df21 := dat_stay s21.kts _ _ f.noL df19
  have eN21 := s21 _ _ eN19
  have due21 := due19.same s21
  generalize upd H20 M (.lst [dv, .str (wordOf (firstAt ks f []))]) = H21 at W21 df21 eN21 due21 ⊢
  refine hR _ _ (seq_abs fun R hR => ?_)
  have e0' : ss[0]? = some (ss[0]'(by omega)) := List.getElem?_eq_getElem (by omega)
  generalize ss[0]'(by omega) = n0 at e0'
  refine ⟨_, rfl, N, _, _, .str n0, rfl, rfl, .of eN21, atI_nat (j := 0) (by rw [List.getElem?_map, e0']; rfl), ?_⟩
  refine ⟨by show 2 ≤ sizeLine; decide, fun p1 hp1 => ⟨by show 1 ≤ sizeLine; decide, fun p2 hp2 => ⟨by show 2 ≤ sizeLine; decide, fun p3 hp3 => ⟨by decide, fun p4 hp4 => ⟨by show 2 ≤ sizeLine; decide, fun p5 hp5 => ⟨by show 3 ≤ sizeLine; decide, fun p6 hp6 => ?_⟩⟩⟩⟩⟩⟩
  have y1 := Same.new (o := .tup [.str n0, .int 1]) hp1
  have y2 := Same.new (o := .tup [.ref p1]) hp2
  have y3 := Same.new (o := .tup [.int 0, .ref p2]) hp3
  have y4 := Same.new (o := .tup []) hp4
  have y5 := Same.new (o := .tup [.int 3, .ref p4]) hp5
  have y6 := Same.new (o := .tup [.str "same", .ref p3, .ref p5]) hp6
  have ya := ((((y1.trans y2).trans y3).trans y4).trans y5).trans y6
  have dpl : DatAt K (upd (upd (upd (upd (upd (upd H21 p1 (.tup [.str n0, .int 1])) p2 (.tup [.ref p1])) p3 (.tup [.int 0, .ref p2])) p4 (.tup [])) p5 (.tup [.int 3, .ref p4])) p6 (.tup [.str "same", .ref p3, .ref p5])) (.ref p6) (Say.dt (.same ⟨0, [(n0, 1)]⟩ ⟨3, []⟩)) :=
   dat_tup (.of upd_same) (dats_cons dat_str (dats_cons (dat_tup (.of (y6 _ _ (y5 _ _ (y4 _ _ upd_same)))) (dats_cons dat_int (dats_cons (dat_tup (.of (y6 _ _ (y5 _ _ (y4 _ _ (y3 _ _ upd_same))))) (dats_cons (dat_tup (.of (y6 _ _ (y5 _ _ (y4 _ _ (y3 _ _ (y2 _ _ upd_same)))))) (dats_cons dat_str (dats_cons dat_int dats_nil))) dats_nil)) dats_nil)))
    (dats_cons (dat_tup (.of (y6 _ _ upd_same)) (dats_cons dat_int (dats_cons (dat_tup (.of (y6 _ _ (y5 _ _ upd_same))) dats_nil) dats_nil))) dats_nil)))
  have W22 := W21.same ya
  have df22 := dat_stay ya.kts _ _ f.noL df21
  have due22 := due21.same ya
  generalize upd (upd (upd (upd (upd (upd H21 p1 (.tup [.str n0, .int 1])) p2 (.tup [.ref p1])) p3 (.tup [.int 0, .ref p2])) p4 (.tup [])) p5 (.tup [.int 3, .ref p4])) p6 (.tup [.str "same", .ref p3, .ref p5]) = H22 at dpl W22 df22 due22 ⊢
  have po : Say.Over [n0] (.same ⟨0, [(n0, 1)]⟩ ⟨3, []⟩) := ⟨⟨by simp, fun q hq => by rw [List.mem_singleton.mp hq]; simp⟩, ⟨by simp, fun q hq => by cases hq⟩⟩
  have pf : firstAt ks (.same ⟨0, [(n0, 1)]⟩ ⟨3, []⟩) [] = none := leaf_good rfl (good_of (fun a ha => by simp [Say.rowsOf] at ha) (by simp [Say.fr, tnm])) _
  refine hR _ _ ?_
  refine ⟨_, rfl, _, rfl, at_nil (said_by W22 dpl (by simp [Say.deep]) po (by simp) fun L2 H23 hL2 s23 res2 => ?_)⟩
  rw [pf] at res2
  refine ⟨by show 2 ≤ sizeLine; decide, fun M2 hM2 => ?_⟩
  have sM2 := Same.new (o := .lst [.non, .str "told"]) hM2
  refine res_eq (o := none) (res2.same sM2) upd_same ⟨true, rfl, iteT ?_⟩
  have s24 := s23.trans sM2
  refine ⟨_, rfl, _, rfl, at_nil (said_by (W22.same s24) (dat_stay s24.kts _ _ f.noL df22) (by omega) hdo.2 lt2.2 fun L3 H25 hL3 s25 res3 => ?_)⟩
  refine ⟨_, rfl, _, rfl, by show 2 ≤ sizeLine; decide, fun M3 hM3 => ?_⟩
  have sM3 := Same.new (o := .lst [dv, .str (wordOf (firstAt ks f []))]) hM3
  exact res_eq (res3.same sM3) ((((due22.same s24).same s25).same sM3).res upd_same) (k _)
theorem all_mk {l : PySem.W.OpenLaw} {w : World} {K : PySem.W.Frag} {h : Heap} {mg : Str → Option Value} {fa : Addr} (X : K.In h) (G : h.Ns mainGlobals mg) (hfa : mg "law" = some (.ref fa))
  {f0 : Addr} {od0 an0 : Option Addr} {sl0 : Array (Option Value)} {oc0 kV0 dc0 pm0 cd0 ct0 : Value}
  {f1 : Addr} {od1 an1 : Option Addr} {sl1 : Array (Option Value)} {oc1 kV1 dc1 pm1 cd1 ct1 : Value}
  {f2 : Addr} {od2 an2 : Option Addr} {sl2 : Array (Option Value)} {oc2 kV2 dc2 pm2 cd2 ct2 : Value}
  {f3 : Addr} {od3 an3 : Option Addr} {sl3 : Array (Option Value)} {oc3 kV3 dc3 pm3 cd3 ct3 : Value}
  {f4 : Addr} {od4 an4 : Option Addr} {sl4 : Array (Option Value)} {oc4 kV4 dc4 pm4 cd4 ct4 : Value}
  {f5 : Addr} {od5 an5 : Option Addr} {sl5 : Array (Option Value)} {oc5 kV5 dc5 pm5 cd5 ct5 : Value}
  {f6 : Addr} {od6 an6 : Option Addr} {sl6 : Array (Option Value)} {oc6 kV6 dc6 pm6 cd6 ct6 : Value}
  {f7 : Addr} {od7 an7 : Option Addr} {sl7 : Array (Option Value)} {oc7 kV7 dc7 pm7 cd7 ct7 : Value}
  {f8 : Addr} {od8 an8 : Option Addr} {sl8 : Array (Option Value)} {oc8 kV8 dc8 pm8 cd8 ct8 : Value}
  {f9 : Addr} {od9 an9 : Option Addr} {sl9 : Array (Option Value)} {oc9 kV9 dc9 pm9 cd9 ct9 : Value}
  {f10 : Addr} {od10 an10 : Option Addr} {sl10 : Array (Option Value)} {oc10 kV10 dc10 pm10 cd10 ct10 : Value}
  {f11 : Addr} {od11 an11 : Option Addr} {sl11 : Array (Option Value)} {oc11 kV11 dc11 pm11 cd11 ct11 : Value}
  {f12 : Addr} {od12 an12 : Option Addr} {sl12 : Array (Option Value)} {oc12 kV12 dc12 pm12 cd12 ct12 : Value}
  {f13 : Addr} {od13 an13 : Option Addr} {sl13 : Array (Option Value)} {oc13 kV13 dc13 pm13 cd13 ct13 : Value}
  {f14 : Addr} {od14 an14 : Option Addr} {sl14 : Array (Option Value)} {oc14 kV14 dc14 pm14 cd14 ct14 : Value}
  {f15 : Addr} {od15 an15 : Option Addr} {sl15 : Array (Option Value)} {oc15 kV15 dc15 pm15 cd15 ct15 : Value}
  {f16 : Addr} {od16 an16 : Option Addr} {sl16 : Array (Option Value)} {oc16 kV16 dc16 pm16 cd16 ct16 : Value}
  {f17 : Addr} {od17 an17 : Option Addr} {sl17 : Array (Option Value)} {oc17 kV17 dc17 pm17 cd17 ct17 : Value}
  {f18 : Addr} {od18 an18 : Option Addr} {sl18 : Array (Option Value)} {oc18 kV18 dc18 pm18 cd18 ct18 : Value}
  {f19 : Addr} {od19 an19 : Option Addr} {sl19 : Array (Option Value)} {oc19 kV19 dc19 pm19 cd19 ct19 : Value}
  {f20 : Addr} {od20 an20 : Option Addr} {sl20 : Array (Option Value)} {oc20 kV20 dc20 pm20 cd20 ct20 : Value}
  {f21 : Addr} {od21 an21 : Option Addr} {sl21 : Array (Option Value)} {oc21 kV21 dc21 pm21 cd21 ct21 : Value}
  {f22 : Addr} {od22 an22 : Option Addr} {sl22 : Array (Option Value)} {oc22 kV22 dc22 pm22 cd22 ct22 : Value}
  (a0 : PySem.W.nsIn K mainGlobals "inner_parts" = some (some (.ref f0))) (l0 : K.lookup f0 = some ⟨oc0, od0, .func (PySem.W.fnOf "inner_parts" "inner_parts" (defArgs s_inner_parts) (defBody s_inner_parts) (defScope s_inner_parts) .none kV0 dc0 pm0 an0 cd0 ct0), sl0⟩) (c0 : PySem.W.codeIn K cd0 "inner_parts" = true) (k0 : PySem.W.keepIn K (.ref f0) = true)
  (a1 : PySem.W.nsIn K mainGlobals "row_names" = some (some (.ref f1))) (l1 : K.lookup f1 = some ⟨oc1, od1, .func (PySem.W.fnOf "row_names" "row_names" (defArgs s_row_names) (defBody s_row_names) (defScope s_row_names) .none kV1 dc1 pm1 an1 cd1 ct1), sl1⟩) (c1 : PySem.W.codeIn K cd1 "row_names" = true) (k1 : PySem.W.keepIn K (.ref f1) = true)
  (a2 : PySem.W.nsIn K mainGlobals "term_names" = some (some (.ref f2))) (l2 : K.lookup f2 = some ⟨oc2, od2, .func (PySem.W.fnOf "term_names" "term_names" (defArgs s_term_names) (defBody s_term_names) (defScope s_term_names) .none kV2 dc2 pm2 an2 cd2 ct2), sl2⟩) (c2 : PySem.W.codeIn K cd2 "term_names" = true) (k2 : PySem.W.keepIn K (.ref f2) = true)
  (a3 : PySem.W.nsIn K mainGlobals "parts_in_order" = some (some (.ref f3))) (l3 : K.lookup f3 = some ⟨oc3, od3, .func (PySem.W.fnOf "parts_in_order" "parts_in_order" (defArgs s_parts_in_order) (defBody s_parts_in_order) (defScope s_parts_in_order) .none kV3 dc3 pm3 an3 cd3 ct3), sl3⟩) (c3 : PySem.W.codeIn K cd3 "parts_in_order" = true) (k3 : PySem.W.keepIn K (.ref f3) = true)
  (a4 : PySem.W.nsIn K mainGlobals "told_of_parts" = some (some (.ref f4))) (l4 : K.lookup f4 = some ⟨oc4, od4, .func (PySem.W.fnOf "told_of_parts" "told_of_parts" (defArgs s_told_of_parts) (defBody s_told_of_parts) (defScope s_told_of_parts) .none kV4 dc4 pm4 an4 cd4 ct4), sl4⟩) (c4 : PySem.W.codeIn K cd4 "told_of_parts" = true) (k4 : PySem.W.keepIn K (.ref f4) = true)
  (a5 : PySem.W.nsIn K mainGlobals "names_over" = some (some (.ref f5))) (l5 : K.lookup f5 = some ⟨oc5, od5, .func (PySem.W.fnOf "names_over" "names_over" (defArgs s_names_over) (defBody s_names_over) (defScope s_names_over) .none kV5 dc5 pm5 an5 cd5 ct5), sl5⟩) (c5 : PySem.W.codeIn K cd5 "names_over" = true) (k5 : PySem.W.keepIn K (.ref f5) = true)
  (a6 : PySem.W.nsIn K mainGlobals "names_by_place" = some (some (.ref f6))) (l6 : K.lookup f6 = some ⟨oc6, od6, .func (PySem.W.fnOf "names_by_place" "names_by_place" (defArgs s_names_by_place) (defBody s_names_by_place) (defScope s_names_by_place) .none kV6 dc6 pm6 an6 cd6 ct6), sl6⟩) (c6 : PySem.W.codeIn K cd6 "names_by_place" = true) (k6 : PySem.W.keepIn K (.ref f6) = true)
  (a7 : PySem.W.nsIn K mainGlobals "look_saying" = some (some (.ref f7))) (l7 : K.lookup f7 = some ⟨oc7, od7, .func (PySem.W.fnOf "look_saying" "look_saying" (defArgs s_look_saying) (defBody s_look_saying) (defScope s_look_saying) .none kV7 dc7 pm7 an7 cd7 ct7), sl7⟩) (c7 : PySem.W.codeIn K cd7 "look_saying" = true) (k7 : PySem.W.keepIn K (.ref f7) = true)
  (a8 : PySem.W.nsIn K mainGlobals "_law_deck" = some (some (.ref f8))) (l8 : K.lookup f8 = some ⟨oc8, od8, .func (PySem.W.fnOf "_law_deck" "_law_deck" (defArgs s_l_deck) (defBody s_l_deck) (defScope s_l_deck) .none kV8 dc8 pm8 an8 cd8 ct8), sl8⟩) (c8 : PySem.W.codeIn K cd8 "_law_deck" = true) (k8 : PySem.W.keepIn K (.ref f8) = true)
  (a9 : PySem.W.nsIn K mainGlobals "_law_next" = some (some (.ref f9))) (l9 : K.lookup f9 = some ⟨oc9, od9, .func (PySem.W.fnOf "_law_next" "_law_next" (defArgs s_l_next) (defBody s_l_next) (defScope s_l_next) .none kV9 dc9 pm9 an9 cd9 ct9), sl9⟩) (c9 : PySem.W.codeIn K cd9 "_law_next" = true) (k9 : PySem.W.keepIn K (.ref f9) = true)
  (a10 : PySem.W.nsIn K mainGlobals "_law_names" = some (some (.ref f10))) (l10 : K.lookup f10 = some ⟨oc10, od10, .func (PySem.W.fnOf "_law_names" "_law_names" (defArgs s_l_names) (defBody s_l_names) (defScope s_l_names) .none kV10 dc10 pm10 an10 cd10 ct10), sl10⟩) (c10 : PySem.W.codeIn K cd10 "_law_names" = true) (k10 : PySem.W.keepIn K (.ref f10) = true)
  (a11 : PySem.W.nsIn K mainGlobals "_law_row" = some (some (.ref f11))) (l11 : K.lookup f11 = some ⟨oc11, od11, .func (PySem.W.fnOf "_law_row" "_law_row" (defArgs s_l_row) (defBody s_l_row) (defScope s_l_row) .none kV11 dc11 pm11 an11 cd11 ct11), sl11⟩) (c11 : PySem.W.codeIn K cd11 "_law_row" = true) (k11 : PySem.W.keepIn K (.ref f11) = true)
  (a12 : PySem.W.nsIn K mainGlobals "_law_world" = some (some (.ref f12))) (l12 : K.lookup f12 = some ⟨oc12, od12, .func (PySem.W.fnOf "_law_world" "_law_world" (defArgs s_l_world) (defBody s_l_world) (defScope s_l_world) .none kV12 dc12 pm12 an12 cd12 ct12), sl12⟩) (c12 : PySem.W.codeIn K cd12 "_law_world" = true) (k12 : PySem.W.keepIn K (.ref f12) = true)
  (a13 : PySem.W.nsIn K mainGlobals "_law_term" = some (some (.ref f13))) (l13 : K.lookup f13 = some ⟨oc13, od13, .func (PySem.W.fnOf "_law_term" "_law_term" (defArgs s_l_term) (defBody s_l_term) (defScope s_l_term) .none kV13 dc13 pm13 an13 cd13 ct13), sl13⟩) (c13 : PySem.W.codeIn K cd13 "_law_term" = true) (k13 : PySem.W.keepIn K (.ref f13) = true)
  (a14 : PySem.W.nsIn K mainGlobals "_law_plain" = some (some (.ref f14))) (l14 : K.lookup f14 = some ⟨oc14, od14, .func (PySem.W.fnOf "_law_plain" "_law_plain" (defArgs s_l_plain) (defBody s_l_plain) (defScope s_l_plain) .none kV14 dc14 pm14 an14 cd14 ct14), sl14⟩) (c14 : PySem.W.codeIn K cd14 "_law_plain" = true) (k14 : PySem.W.keepIn K (.ref f14) = true)
  (a15 : PySem.W.nsIn K mainGlobals "_law_saying" = some (some (.ref f15))) (l15 : K.lookup f15 = some ⟨oc15, od15, .func (PySem.W.fnOf "_law_saying" "_law_saying" (defArgs s_l_saying) (defBody s_l_saying) (defScope s_l_saying) .none kV15 dc15 pm15 an15 cd15 ct15), sl15⟩) (c15 : PySem.W.codeIn K cd15 "_law_saying" = true) (k15 : PySem.W.keepIn K (.ref f15) = true)
  (a16 : PySem.W.nsIn K mainGlobals "_law_terms" = some (some (.ref f16))) (l16 : K.lookup f16 = some ⟨oc16, od16, .func (PySem.W.fnOf "_law_terms" "_law_terms" (defArgs s_l_terms) (defBody s_l_terms) (defScope s_l_terms) .none kV16 dc16 pm16 an16 cd16 ct16), sl16⟩) (c16 : PySem.W.codeIn K cd16 "_law_terms" = true) (k16 : PySem.W.keepIn K (.ref f16) = true)
  (a17 : PySem.W.nsIn K mainGlobals "_law_inner" = some (some (.ref f17))) (l17 : K.lookup f17 = some ⟨oc17, od17, .func (PySem.W.fnOf "_law_inner" "_law_inner" (defArgs s_l_inner) (defBody s_l_inner) (defScope s_l_inner) .none kV17 dc17 pm17 an17 cd17 ct17), sl17⟩) (c17 : PySem.W.codeIn K cd17 "_law_inner" = true) (k17 : PySem.W.keepIn K (.ref f17) = true)
  (a18 : PySem.W.nsIn K mainGlobals "_law_free" = some (some (.ref f18))) (l18 : K.lookup f18 = some ⟨oc18, od18, .func (PySem.W.fnOf "_law_free" "_law_free" (defArgs s_l_free) (defBody s_l_free) (defScope s_l_free) .none kV18 dc18 pm18 an18 cd18 ct18), sl18⟩) (c18 : PySem.W.codeIn K cd18 "_law_free" = true) (k18 : PySem.W.keepIn K (.ref f18) = true)
  (a19 : PySem.W.nsIn K mainGlobals "_law_first" = some (some (.ref f19))) (l19 : K.lookup f19 = some ⟨oc19, od19, .func (PySem.W.fnOf "_law_first" "_law_first" (defArgs s_l_first) (defBody s_l_first) (defScope s_l_first) .none kV19 dc19 pm19 an19 cd19 ct19), sl19⟩) (c19 : PySem.W.codeIn K cd19 "_law_first" = true) (k19 : PySem.W.keepIn K (.ref f19) = true)
  (a20 : PySem.W.nsIn K mainGlobals "_law_said" = some (some (.ref f20))) (l20 : K.lookup f20 = some ⟨oc20, od20, .func (PySem.W.fnOf "_law_said" "_law_said" (defArgs s_l_said) (defBody s_l_said) (defScope s_l_said) .none kV20 dc20 pm20 an20 cd20 ct20), sl20⟩) (c20 : PySem.W.codeIn K cd20 "_law_said" = true) (k20 : PySem.W.keepIn K (.ref f20) = true)
  (a21 : PySem.W.nsIn K mainGlobals "_law_one_wrong" = some (some (.ref f21))) (l21 : K.lookup f21 = some ⟨oc21, od21, .func (PySem.W.fnOf "_law_one_wrong" "_law_one_wrong" (defArgs s_l_one_wrong) (defBody s_l_one_wrong) (defScope s_l_one_wrong) .none kV21 dc21 pm21 an21 cd21 ct21), sl21⟩) (c21 : PySem.W.codeIn K cd21 "_law_one_wrong" = true) (k21 : PySem.W.keepIn K (.ref f21) = true)
  (a22 : PySem.W.nsIn K mainGlobals "law" = some (some (.ref f22))) (l22 : K.lookup f22 = some ⟨oc22, od22, .func (PySem.W.fnOf "law" "law" (defArgs s_law) (defBody s_law) (defScope s_law) .none kV22 dc22 pm22 an22 cd22 ct22), sl22⟩) (c22 : PySem.W.codeIn K cd22 "law" = true) (k22 : PySem.W.keepIn K (.ref f22) = true)
  (z0 : PySem.W.nsIn K mainGlobals "ValueError" = some none)
  (z1 : PySem.W.nsIn K mainGlobals "list" = some none)
  (z2 : PySem.W.nsIn K mainGlobals "tuple" = some none)
  (z3 : PySem.W.nsIn K mainGlobals "range" = some none)
  (z4 : PySem.W.nsIn K mainGlobals "sorted" = some none)
  (z5 : PySem.W.nsIn K mainGlobals "enumerate" = some none)
  (z6 : PySem.W.nsIn K mainGlobals "reversed" = some none)
  (z7 : PySem.W.nsIn K mainGlobals "min" = some none)
  (z8 : PySem.W.nsIn K mainGlobals "len" = some none)
  (z9 : PySem.W.nsIn K mainGlobals "int" = some none)
  (z10 : PySem.W.nsIn K mainGlobals "set" = some none)
  (z11 : PySem.W.nsIn K mainGlobals "isinstance" = some none)
  {xDC xDN : Addr} {xDnm xDq : _} {xDbs xDsn xDsub xDab xDcol xDdd xDk0 xDk1 xDk2 xDk3 xDk5 : _}
  (xDa : PySem.W.nsIn K mainGlobals "JudgeError" = some (some (.ref xDC)))
  (xDl : K.lookup xDC = some (PySem.excClassObj xDnm xDq xDC xDN xDbs veM true xDsn xDsub xDab xDcol xDdd xDk0 xDk1 xDk2 xDk3 xDk5 "ValueError.__new__"))
  {xDo : Obj}
  (xDnl : K.lookup xDN = some xDo)
  (xDno : nsO xDo = true)
  (xDni : PySem.W.nsIn K xDN "__init__" = some none)
  (xDg : PySem.W.specialIn K (.ref xDC) "__getattribute__" = some (some (.builtin "type.__getattribute__")))
  (xDr : PySem.W.readsIn K xDC (.type "type") = true)
  (xDf : PySem.W.findCls K (.ref xDC) (.type "type") "__init__" = some (.val (.builtin "ValueError.__init__")))
  (xDga : PySem.W.findIn K (.ref xDC) "__getattribute__" = some (some (.builtin "BaseException.__getattribute__")))
  (xDgh : PySem.W.findIn K (.ref xDC) "__getattr__" = some none)
  (xDsa : PySem.W.findIn K (.ref xDC) "__setattr__" = some (some (.builtin "object.__setattr__")))
  (xDcl : PySem.W.findIn K (.ref xDC) "__class__" = some (some (.builtin "object.__class__")))
  (xgt : PySem.W.specialIn K (.builtin "object.__class__") "__get__" = some (some (.builtin "getset_descriptor.__get__")))
  (xtk : PySem.W.takesIn K (.builtin "object.__class__") = some true)
  (xzV : PySem.W.nsIn K mainGlobals "ValueError" = some none)
  {x1C x1N : Addr} {x1nm x1q : _} {x1bs x1sn x1sub x1ab x1col x1dd x1k0 x1k1 x1k2 x1k3 x1k5 : _}
  (x1a : PySem.W.nsIn K mainGlobals "NoRow" = some (some (.ref x1C)))
  (x1l : K.lookup x1C = some (PySem.excClassObj x1nm x1q x1C x1N x1bs (.ref xDC :: veM) true x1sn x1sub x1ab x1col x1dd x1k0 x1k1 x1k2 x1k3 x1k5 "ValueError.__new__"))
  (x1ga : PySem.W.findIn K (.ref x1C) "__getattribute__" = some (some (.builtin "BaseException.__getattribute__")))
  (x1gh : PySem.W.findIn K (.ref x1C) "__getattr__" = some none)
  (x1sa : PySem.W.findIn K (.ref x1C) "__setattr__" = some (some (.builtin "object.__setattr__")))
  (x1cl : PySem.W.findIn K (.ref x1C) "__class__" = some (some (.builtin "object.__class__")))
  {x1F : Addr} {x1fod x1fan : Option Addr} {x1fsl : Array (Option Value)} {x1foc x1fkV x1fdc x1fpm x1fcd x1fct : Value}
  (x1i : PySem.W.findIn K (.ref x1C) "__init__" = some (some (.ref x1F)))
  (x1fl : K.lookup x1F = some ⟨x1foc, x1fod, .func (PySem.W.fnOf "__init__" "NoRow.__init__" (defArgs s_i1) (defBody s_i1) (defScope s_i1) .none x1fkV x1fdc x1fpm x1fan x1fcd x1fct), x1fsl⟩)
  (x1fc : PySem.W.codeIn K x1fcd "NoRow.__init__" = true)
  (x1fk : PySem.W.keepIn K (.ref x1F) = true)
  (x1fn : PySem.W.isFn K (.ref x1F) = true)
  (x1k : PySem.W.keepIn K (.ref x1C) = true)
  (x1n : PySem.W.findIn K (.ref x1C) "name" = some none)
  {x2C x2N : Addr} {x2nm x2q : _} {x2bs x2sn x2sub x2ab x2col x2dd x2k0 x2k1 x2k2 x2k3 x2k5 : _}
  (x2a : PySem.W.nsIn K mainGlobals "NoSaying" = some (some (.ref x2C)))
  (x2l : K.lookup x2C = some (PySem.excClassObj x2nm x2q x2C x2N x2bs (.ref xDC :: veM) true x2sn x2sub x2ab x2col x2dd x2k0 x2k1 x2k2 x2k3 x2k5 "ValueError.__new__"))
  (x2ga : PySem.W.findIn K (.ref x2C) "__getattribute__" = some (some (.builtin "BaseException.__getattribute__")))
  (x2gh : PySem.W.findIn K (.ref x2C) "__getattr__" = some none)
  (x2sa : PySem.W.findIn K (.ref x2C) "__setattr__" = some (some (.builtin "object.__setattr__")))
  (x2cl : PySem.W.findIn K (.ref x2C) "__class__" = some (some (.builtin "object.__class__")))
  {x2F : Addr} {x2fod x2fan : Option Addr} {x2fsl : Array (Option Value)} {x2foc x2fkV x2fdc x2fpm x2fcd x2fct : Value}
  (x2i : PySem.W.findIn K (.ref x2C) "__init__" = some (some (.ref x2F)))
  (x2fl : K.lookup x2F = some ⟨x2foc, x2fod, .func (PySem.W.fnOf "__init__" "NoSaying.__init__" (defArgs s_i2) (defBody s_i2) (defScope s_i2) .none x2fkV x2fdc x2fpm x2fan x2fcd x2fct), x2fsl⟩)
  (x2fc : PySem.W.codeIn K x2fcd "NoSaying.__init__" = true)
  (x2fk : PySem.W.keepIn K (.ref x2F) = true)
  (x2fn : PySem.W.isFn K (.ref x2F) = true)
  (x2k : PySem.W.keepIn K (.ref x2C) = true)
  (x2n : PySem.W.findIn K (.ref x2C) "place" = some none)
  {x3C x3N : Addr} {x3nm x3q : _} {x3bs x3sn x3sub x3ab x3col x3dd x3k0 x3k1 x3k2 x3k3 x3k5 : _}
  (x3a : PySem.W.nsIn K mainGlobals "TooMany" = some (some (.ref x3C)))
  (x3l : K.lookup x3C = some (PySem.excClassObj x3nm x3q x3C x3N x3bs (.ref xDC :: veM) true x3sn x3sub x3ab x3col x3dd x3k0 x3k1 x3k2 x3k3 x3k5 "ValueError.__new__"))
  (x3ga : PySem.W.findIn K (.ref x3C) "__getattribute__" = some (some (.builtin "BaseException.__getattribute__")))
  (x3gh : PySem.W.findIn K (.ref x3C) "__getattr__" = some none)
  (x3sa : PySem.W.findIn K (.ref x3C) "__setattr__" = some (some (.builtin "object.__setattr__")))
  (x3cl : PySem.W.findIn K (.ref x3C) "__class__" = some (some (.builtin "object.__class__")))
  {x3F : Addr} {x3fod x3fan : Option Addr} {x3fsl : Array (Option Value)} {x3foc x3fkV x3fdc x3fpm x3fcd x3fct : Value}
  (x3i : PySem.W.findIn K (.ref x3C) "__init__" = some (some (.ref x3F)))
  (x3fl : K.lookup x3F = some ⟨x3foc, x3fod, .func (PySem.W.fnOf "__init__" "TooMany.__init__" (defArgs s_i3) (defBody s_i3) (defScope s_i3) .none x3fkV x3fdc x3fpm x3fan x3fcd x3fct), x3fsl⟩)
  (x3fc : PySem.W.codeIn K x3fcd "TooMany.__init__" = true)
  (x3fk : PySem.W.keepIn K (.ref x3F) = true)
  (x3fn : PySem.W.isFn K (.ref x3F) = true)
  (x3k : PySem.W.keepIn K (.ref x3C) = true)
  (x3n : PySem.W.findIn K (.ref x3C) "place" = some none)
  {x4C x4N : Addr} {x4nm x4q : _} {x4bs x4sn x4sub x4ab x4col x4dd x4k0 x4k1 x4k2 x4k3 x4k5 : _}
  (x4a : PySem.W.nsIn K mainGlobals "NoText" = some (some (.ref x4C)))
  (x4l : K.lookup x4C = some (PySem.excClassObj x4nm x4q x4C x4N x4bs (.ref xDC :: veM) true x4sn x4sub x4ab x4col x4dd x4k0 x4k1 x4k2 x4k3 x4k5 "ValueError.__new__"))
  (x4ga : PySem.W.findIn K (.ref x4C) "__getattribute__" = some (some (.builtin "BaseException.__getattribute__")))
  (x4gh : PySem.W.findIn K (.ref x4C) "__getattr__" = some none)
  (x4sa : PySem.W.findIn K (.ref x4C) "__setattr__" = some (some (.builtin "object.__setattr__")))
  (x4cl : PySem.W.findIn K (.ref x4C) "__class__" = some (some (.builtin "object.__class__")))
  {x4F : Addr} {x4fod x4fan : Option Addr} {x4fsl : Array (Option Value)} {x4foc x4fkV x4fdc x4fpm x4fcd x4fct : Value}
  (x4i : PySem.W.findIn K (.ref x4C) "__init__" = some (some (.ref x4F)))
  (x4fl : K.lookup x4F = some ⟨x4foc, x4fod, .func (PySem.W.fnOf "__init__" "NoText.__init__" (defArgs s_i4) (defBody s_i4) (defScope s_i4) .none x4fkV x4fdc x4fpm x4fan x4fcd x4fct), x4fsl⟩)
  (x4fc : PySem.W.codeIn K x4fcd "NoText.__init__" = true)
  (x4fk : PySem.W.keepIn K (.ref x4F) = true)
  (x4fn : PySem.W.isFn K (.ref x4F) = true)
  (x4k : PySem.W.keepIn K (.ref x4C) = true)
  (xne : [x1C, x2C, x3C, x4C, xDC].Nodup)
  {pd : Addr} {pes : Array DictEntry} {pn : Nat}
  {p_no : Addr} {pn_no : Nat} {pt_no0 : _}
  {p_an : Addr} {pn_an : Nat} {pt_an0 : _} {pt_an1 : _}
  {p_or : Addr} {pn_or : Nat} {pt_or0 : _} {pt_or1 : _}
  {p_so : Addr} {pn_so : Nat} {pt_so0 : _}
  {p_ea : Addr} {pn_ea : Nat} {pt_ea0 : _}
  (p_a : PySem.W.nsIn K mainGlobals "PART_SPOTS" = some (some (.ref pd))) (p_l : K.lookup pd = some ⟨.type "dict", none, .dict pes pn, #[]⟩) (p_k : PySem.W.KeysLit w.params pes.toList) (p_s : (pd == sysModules) = false)
  (pq_no : PySem.W.nsIn K pd "not" = some (some (.ref p_no))) (pr_no : K.lookup p_no = some ⟨.type "tuple", none, .seq #[.int 1 pt_no0] pn_no, #[]⟩)
  (pq_an : PySem.W.nsIn K pd "and" = some (some (.ref p_an))) (pr_an : K.lookup p_an = some ⟨.type "tuple", none, .seq #[.int 1 pt_an0, .int 2 pt_an1] pn_an, #[]⟩)
  (pq_or : PySem.W.nsIn K pd "or" = some (some (.ref p_or))) (pr_or : K.lookup p_or = some ⟨.type "tuple", none, .seq #[.int 1 pt_or0, .int 2 pt_or1] pn_or, #[]⟩)
  (pq_so : PySem.W.nsIn K pd "some" = some (some (.ref p_so))) (pr_so : K.lookup p_so = some ⟨.type "tuple", none, .seq #[.int 2 pt_so0] pn_so, #[]⟩)
  (pq_ea : PySem.W.nsIn K pd "each" = some (some (.ref p_ea))) (pr_ea : K.lookup p_ea = some ⟨.type "tuple", none, .seq #[.int 2 pt_ea0] pn_ea, #[]⟩)
  (pq_same : PySem.W.nsIn K pd "same" = some none)
  (pq_less : PySem.W.nsIn K pd "less" = some none)
  (pq_sign : PySem.W.nsIn K pd "sign" = some none)
  (pq_alike : PySem.W.nsIn K pd "alike" = some none)
  {sd : Addr} {ses : Array DictEntry} {sn : Nat}
  {s_sa : Addr} {sn_sa : Nat} {st_sa0 : _} {st_sa1 : _}
  {s_le : Addr} {sn_le : Nat} {st_le0 : _} {st_le1 : _}
  {s_si : Addr} {sn_si : Nat} {st_si0 : _}
  {s_al : Addr} {sn_al : Nat} {st_al0 : _} {st_al1 : _}
  (s_a : PySem.W.nsIn K mainGlobals "TERM_SPOTS" = some (some (.ref sd))) (s_l : K.lookup sd = some ⟨.type "dict", none, .dict ses sn, #[]⟩) (s_k : PySem.W.KeysLit w.params ses.toList) (s_s : (sd == sysModules) = false)
  (sq_sa : PySem.W.nsIn K sd "same" = some (some (.ref s_sa))) (sr_sa : K.lookup s_sa = some ⟨.type "tuple", none, .seq #[.int 1 st_sa0, .int 2 st_sa1] sn_sa, #[]⟩)
  (sq_le : PySem.W.nsIn K sd "less" = some (some (.ref s_le))) (sr_le : K.lookup s_le = some ⟨.type "tuple", none, .seq #[.int 1 st_le0, .int 2 st_le1] sn_le, #[]⟩)
  (sq_si : PySem.W.nsIn K sd "sign" = some (some (.ref s_si))) (sr_si : K.lookup s_si = some ⟨.type "tuple", none, .seq #[.int 2 st_si0] sn_si, #[]⟩)
  (sq_al : PySem.W.nsIn K sd "alike" = some (some (.ref s_al))) (sr_al : K.lookup s_al = some ⟨.type "tuple", none, .seq #[.int 2 st_al0, .int 4 st_al1] sn_al, #[]⟩)
  (sq_not : PySem.W.nsIn K sd "not" = some none)
  (sq_and : PySem.W.nsIn K sd "and" = some none)
  (sq_or : PySem.W.nsIn K sd "or" = some none)
  (sq_some : PySem.W.nsIn K sd "some" = some none)
  (sq_each : PySem.W.nsIn K sd "each" = some none)
  {rd : Addr} {res : Array DictEntry} {rn : Nat}
  {r_si : Addr} {rn_si : Nat} {rt_si0 : _}
  {r_al : Addr} {rn_al : Nat} {rt_al0 : _} {rt_al1 : _}
  (r_a : PySem.W.nsIn K mainGlobals "ROW_SPOTS" = some (some (.ref rd))) (r_l : K.lookup rd = some ⟨.type "dict", none, .dict res rn, #[]⟩) (r_k : PySem.W.KeysLit w.params res.toList) (r_s : (rd == sysModules) = false)
  (rq_si : PySem.W.nsIn K rd "sign" = some (some (.ref r_si))) (rr_si : K.lookup r_si = some ⟨.type "tuple", none, .seq #[.int 1 rt_si0] rn_si, #[]⟩)
  (rq_al : PySem.W.nsIn K rd "alike" = some (some (.ref r_al))) (rr_al : K.lookup r_al = some ⟨.type "tuple", none, .seq #[.int 1 rt_al0, .int 3 rt_al1] rn_al, #[]⟩)
  (rq_same : PySem.W.nsIn K rd "same" = some none)
  (rq_less : PySem.W.nsIn K rd "less" = some none)
  (rq_not : PySem.W.nsIn K rd "not" = some none)
  (rq_and : PySem.W.nsIn K rd "and" = some none)
  (rq_or : PySem.W.nsIn K rd "or" = some none)
  (rq_some : PySem.W.nsIn K rd "some" = some none)
  (rq_each : PySem.W.nsIn K rd "each" = some none)
  {mft : _} (mf_a : PySem.W.nsIn K mainGlobals "MOST_FREE" = some (some (.int 3 mft)))
  : ∃ fd : FuncData, (∀ (s : Shared) (v : Value), BindsTo s fd ⟨[v], []⟩ [("_law_script", v)]) ∧ ∀ base : Heap, K.In base → base.Ns mainGlobals mg → FnOk l.prog w K mg base CX0 33 fa fd ["_law_script"] (spLaw K) := by
 have e := hfa.symm.trans (PySem.W.mg_of X G a22)
 cases e
 have F0 := fun_mk (st := s_inner_parts) l0 c0 k0
 have b0 := F0.binds (ps := ["saying"]) fun _ _ _ _ _ _ us hl => match us, hl with | [_], _ => rfl
 have F1 := fun_mk (st := s_row_names) l1 c1 k1
 have b1 := F1.binds (ps := ["saying"]) fun _ _ _ _ _ _ us hl => match us, hl with | [_], _ => rfl
 have F2 := fun_mk (st := s_term_names) l2 c2 k2
 have b2 := F2.binds (ps := ["saying"]) fun _ _ _ _ _ _ us hl => match us, hl with | [_], _ => rfl
 have F3 := fun_mk (st := s_parts_in_order) l3 c3 k3
 have b3 := F3.binds (ps := ["saying"]) fun _ _ _ _ _ _ us hl => match us, hl with | [_], _ => rfl
 have F4 := fun_mk (st := s_told_of_parts) l4 c4 k4
 have b4 := F4.binds (ps := ["told", "place", "saying"]) fun _ _ _ _ _ _ us hl => match us, hl with | [_, _, _], _ => rfl
 have F5 := fun_mk (st := s_names_over) l5 c5 k5
 have b5 := F5.binds (ps := ["saying", "inner"]) fun _ _ _ _ _ _ us hl => match us, hl with | [_, _], _ => rfl
 have F6 := fun_mk (st := s_names_by_place) l6 c6 k6
 have b6 := F6.binds (ps := ["saying"]) fun _ _ _ _ _ _ us hl => match us, hl with | [_], _ => rfl
 have F7 := fun_mk (st := s_look_saying) l7 c7 k7
 have b7 := F7.binds (ps := ["world", "saying"]) fun _ _ _ _ _ _ us hl => match us, hl with | [_, _], _ => rfl
 have F8 := fun_mk (st := s_l_deck) l8 c8 k8
 have b8 := F8.binds (ps := ["_law_script", "_law_many"]) fun _ _ _ _ _ _ us hl => match us, hl with | [_, _], _ => rfl
 have F9 := fun_mk (st := s_l_next) l9 c9 k9
 have b9 := F9.binds (ps := ["_law_deck_here", "_law_many"]) fun _ _ _ _ _ _ us hl => match us, hl with | [_, _], _ => rfl
 have F10 := fun_mk (st := s_l_names) l10 c10 k10
 have b10 := F10.binds (ps := ["_law_deck_here", "_law_many", "_law_great"]) fun _ _ _ _ _ _ us hl => match us, hl with | [_, _, _], _ => rfl
 have F11 := fun_mk (st := s_l_row) l11 c11 k11
 have b11 := F11.binds (ps := ["_law_deck_here", "_law_base"]) fun _ _ _ _ _ _ us hl => match us, hl with | [_, _], _ => rfl
 have F12 := fun_mk (st := s_l_world) l12 c12 k12
 have b12 := F12.binds (ps := ["_law_deck_here"]) fun _ _ _ _ _ _ us hl => match us, hl with | [_], _ => rfl
 have F13 := fun_mk (st := s_l_term) l13 c13 k13
 have b13 := F13.binds (ps := ["_law_deck_here", "_law_names_here"]) fun _ _ _ _ _ _ us hl => match us, hl with | [_, _], _ => rfl
 have F14 := fun_mk (st := s_l_plain) l14 c14 k14
 have b14 := F14.binds (ps := ["_law_deck_here", "_law_names_here", "_law_rows"]) fun _ _ _ _ _ _ us hl => match us, hl with | [_, _, _], _ => rfl
 have F15 := fun_mk (st := s_l_saying) l15 c15 k15
 have b15 := F15.binds (ps := ["_law_deck_here", "_law_names_here", "_law_rows", "_law_box", "_law_deep"]) fun _ _ _ _ _ _ us hl => match us, hl with | [_, _, _, _, _], _ => rfl
 have F16 := fun_mk (st := s_l_terms) l16 c16 k16
 have b16 := F16.binds (ps := ["_law_saying_here"]) fun _ _ _ _ _ _ us hl => match us, hl with | [_], _ => rfl
 have F17 := fun_mk (st := s_l_inner) l17 c17 k17
 have b17 := F17.binds (ps := ["_law_saying_here"]) fun _ _ _ _ _ _ us hl => match us, hl with | [_], _ => rfl
 have F18 := fun_mk (st := s_l_free) l18 c18 k18
 have b18 := F18.binds (ps := ["_law_saying_here", "_law_bound", "_law_found"]) fun _ _ _ _ _ _ us hl => match us, hl with | [_, _, _], _ => rfl
 have F19 := fun_mk (st := s_l_first) l19 c19 k19
 have b19 := F19.binds (ps := ["_law_world_here", "_law_saying_here", "_law_place"]) fun _ _ _ _ _ _ us hl => match us, hl with | [_, _, _], _ => rfl
 have F20 := fun_mk (st := s_l_said) l20 c20 k20
 have b20 := F20.binds (ps := ["_law_world_here", "_law_saying_here"]) fun _ _ _ _ _ _ us hl => match us, hl with | [_, _], _ => rfl
 have F21 := fun_mk (st := s_l_one_wrong) l21 c21 k21
 have b21 := F21.binds (ps := ["_law_deck_here", "_law_names_here", "_law_kept", "_law_lost"]) fun _ _ _ _ _ _ us hl => match us, hl with | [_, _, _, _], _ => rfl
 have F22 := fun_mk (st := s_law) l22 c22 k22
 have T : Txt K mg ⟨f0, _, f1, _, f2, _, f3, _, f4, _, f5, _, f6, _, f7, _, f8, _, f9, _, f10, _, f11, _, f12, _, f13, _, f14, _, f15, _, f16, _, f17, _, f18, _, f19, _, f20, _, f21, _, fa, _⟩ := ⟨F0, PySem.W.mg_of X G a0, k0, b0, F1, PySem.W.mg_of X G a1, k1, b1, F2, PySem.W.mg_of X G a2, k2, b2, F3, PySem.W.mg_of X G a3, k3, b3, F4, PySem.W.mg_of X G a4, k4, b4, F5, PySem.W.mg_of X G a5, k5, b5, F6, PySem.W.mg_of X G a6, k6, b6, F7, PySem.W.mg_of X G a7, k7, b7, F8, PySem.W.mg_of X G a8, k8, b8, F9, PySem.W.mg_of X G a9, k9, b9, F10, PySem.W.mg_of X G a10, k10, b10, F11, PySem.W.mg_of X G a11, k11, b11, F12, PySem.W.mg_of X G a12, k12, b12, F13, PySem.W.mg_of X G a13, k13, b13, F14, PySem.W.mg_of X G a14, k14, b14, F15, PySem.W.mg_of X G a15, k15, b15, F16, PySem.W.mg_of X G a16, k16, b16, F17, PySem.W.mg_of X G a17, k17, b17, F18, PySem.W.mg_of X G a18, k18, b18, F19, PySem.W.mg_of X G a19, k19, b19, F20, PySem.W.mg_of X G a20, k20, b20, F21, PySem.W.mg_of X G a21, k21, b21, F22, PySem.W.mg_of X G a22, PySem.W.mg_none_of X G z0, PySem.W.mg_none_of X G z1, PySem.W.mg_none_of X G z2, PySem.W.mg_none_of X G z3, PySem.W.mg_none_of X G z4, PySem.W.mg_none_of X G z5, PySem.W.mg_none_of X G z6, PySem.W.mg_none_of X G z7, PySem.W.mg_none_of X G z8, PySem.W.mg_none_of X G z9, PySem.W.mg_none_of X G z10, PySem.W.mg_none_of X G z11⟩
 have xDX : XC K xDC veM := ⟨⟨_, _, _, _, _, _, _, _, _, _, _, _, _, _, xDl⟩, tail0, refuse0, xDga, xDgh, xDsa, xDcl, xgt, xtk⟩
 have xtl : PySem.W.tailIn K veM (.ref xDC :: veM) = true := tail1 (N := xDN) xDl rfl (nsOk_of xDnl xDno) xDni
 have x1X : XC K x1C (.ref xDC :: veM) := ⟨⟨_, _, _, _, _, _, _, _, _, _, _, _, _, _, x1l⟩, xtl, refuse1, x1ga, x1gh, x1sa, x1cl, xgt, xtk⟩
 have x1FF := fun_mk (st := s_i1) x1fl x1fc x1fk
 have x1B := x1FF.binds (ps := ["self", "name"]) fun _ _ _ _ _ _ us hl => match us, hl with | [_, _], _ => rfl
 have x2X : XC K x2C (.ref xDC :: veM) := ⟨⟨_, _, _, _, _, _, _, _, _, _, _, _, _, _, x2l⟩, xtl, refuse1, x2ga, x2gh, x2sa, x2cl, xgt, xtk⟩
 have x2FF := fun_mk (st := s_i2) x2fl x2fc x2fk
 have x2B := x2FF.binds (ps := ["self", "place"]) fun _ _ _ _ _ _ us hl => match us, hl with | [_, _], _ => rfl
 have x3X : XC K x3C (.ref xDC :: veM) := ⟨⟨_, _, _, _, _, _, _, _, _, _, _, _, _, _, x3l⟩, xtl, refuse1, x3ga, x3gh, x3sa, x3cl, xgt, xtk⟩
 have x3FF := fun_mk (st := s_i3) x3fl x3fc x3fk
 have x3B := x3FF.binds (ps := ["self", "place"]) fun _ _ _ _ _ _ us hl => match us, hl with | [_, _], _ => rfl
 have x4X : XC K x4C (.ref xDC :: veM) := ⟨⟨_, _, _, _, _, _, _, _, _, _, _, _, _, _, x4l⟩, xtl, refuse1, x4ga, x4gh, x4sa, x4cl, xgt, xtk⟩
 have x4FF := fun_mk (st := s_i4) x4fl x4fc x4fk
 have x4B := x4FF.binds (ps := ["self"]) fun _ _ _ _ _ _ us hl => match us, hl with | [_], _ => rfl
 have TE : TX K mg ⟨xDC, x1C, x2C, x3C, x4C, x1F, x2F, x3F, x4F, _, _, _, _⟩ := ⟨xDX, ⟨xDg, xDr, xDf⟩, PySem.W.mg_of X G xDa, PySem.W.mg_none_of X G xzV, x1X, x2X, x3X, x4X, ⟨x1i, x1fn, x1k⟩, ⟨x2i, x2fn, x2k⟩, ⟨x3i, x3fn, x3k⟩, ⟨x4i, x4fn, x4k⟩, PySem.W.mg_of X G x1a, PySem.W.mg_of X G x2a, PySem.W.mg_of X G x3a, PySem.W.mg_of X G x4a, x1FF, x2FF, x3FF, x4FF, x1B, x2B, x3B, x4B, x1n, x2n, x3n, xne, ⟨h, X⟩⟩
 have Dp : TopDict K w.params pd (partTab ⟨pd, p_no, p_an, p_or, p_so, p_ea⟩) := ⟨⟨pes, pn, p_l, p_k, by
  intro x r hm
  simp only [partTab, List.mem_cons, List.mem_nil_iff, or_false, Prod.mk.injEq] at hm
  rcases hm with ⟨rfl, rfl⟩ | ⟨rfl, rfl⟩ | ⟨rfl, rfl⟩ | ⟨rfl, rfl⟩ | ⟨rfl, rfl⟩ | ⟨rfl, rfl⟩ | ⟨rfl, rfl⟩ | ⟨rfl, rfl⟩ | ⟨rfl, rfl⟩
  ·rw [PySem.W.find_K p_l pq_no]; exact rfl
  ·rw [PySem.W.find_K p_l pq_an]; exact rfl
  ·rw [PySem.W.find_K p_l pq_or]; exact rfl
  ·rw [PySem.W.find_K p_l pq_so]; exact rfl
  ·rw [PySem.W.find_K p_l pq_ea]; exact rfl
  ·rw [PySem.W.find_K p_l pq_same]; exact True.intro
  ·rw [PySem.W.find_K p_l pq_less]; exact True.intro
  ·rw [PySem.W.find_K p_l pq_sign]; exact True.intro
  ·rw [PySem.W.find_K p_l pq_alike]; exact True.intro⟩, p_s⟩
 have U : TopsP K w.params mg ⟨pd, p_no, p_an, p_or, p_so, p_ea⟩ := ⟨PySem.W.mg_of X G p_a, Dp, fun H => sqT_top (us := [.int 1 _]) pr_no (.cons ⟨_, rfl⟩ (.nil)) (by decide), fun H => sqT_top (us := [.int 1 _, .int 2 _]) pr_an (.cons ⟨_, rfl⟩ (.cons ⟨_, rfl⟩ (.nil))) (by decide), fun H => sqT_top (us := [.int 1 _, .int 2 _]) pr_or (.cons ⟨_, rfl⟩ (.cons ⟨_, rfl⟩ (.nil))) (by decide), fun H => sqT_top (us := [.int 2 _]) pr_so (.cons ⟨_, rfl⟩ (.nil)) (by decide), fun H => sqT_top (us := [.int 2 _]) pr_ea (.cons ⟨_, rfl⟩ (.nil)) (by decide)⟩
 have Ds : TopDict K w.params sd (termTab ⟨sd, s_sa, s_le, s_si, s_al⟩) := ⟨⟨ses, sn, s_l, s_k, by
  intro x r hm
  simp only [termTab, List.mem_cons, List.mem_nil_iff, or_false, Prod.mk.injEq] at hm
  rcases hm with ⟨rfl, rfl⟩ | ⟨rfl, rfl⟩ | ⟨rfl, rfl⟩ | ⟨rfl, rfl⟩ | ⟨rfl, rfl⟩ | ⟨rfl, rfl⟩ | ⟨rfl, rfl⟩ | ⟨rfl, rfl⟩ | ⟨rfl, rfl⟩
  ·rw [PySem.W.find_K s_l sq_sa]; exact rfl
  ·rw [PySem.W.find_K s_l sq_le]; exact rfl
  ·rw [PySem.W.find_K s_l sq_si]; exact rfl
  ·rw [PySem.W.find_K s_l sq_al]; exact rfl
  ·rw [PySem.W.find_K s_l sq_not]; exact True.intro
  ·rw [PySem.W.find_K s_l sq_and]; exact True.intro
  ·rw [PySem.W.find_K s_l sq_or]; exact True.intro
  ·rw [PySem.W.find_K s_l sq_some]; exact True.intro
  ·rw [PySem.W.find_K s_l sq_each]; exact True.intro⟩, s_s⟩
 have Y : TopsT K w.params mg ⟨sd, s_sa, s_le, s_si, s_al⟩ := ⟨PySem.W.mg_of X G s_a, Ds, fun H => sqT_top (us := [.int 1 _, .int 2 _]) sr_sa (.cons ⟨_, rfl⟩ (.cons ⟨_, rfl⟩ (.nil))) (by decide), fun H => sqT_top (us := [.int 1 _, .int 2 _]) sr_le (.cons ⟨_, rfl⟩ (.cons ⟨_, rfl⟩ (.nil))) (by decide), fun H => sqT_top (us := [.int 2 _]) sr_si (.cons ⟨_, rfl⟩ (.nil)) (by decide), fun H => sqT_top (us := [.int 2 _, .int 4 _]) sr_al (.cons ⟨_, rfl⟩ (.cons ⟨_, rfl⟩ (.nil))) (by decide)⟩
 have Dr : TopDict K w.params rd (rowTab ⟨rd, r_si, r_al⟩) := ⟨⟨res, rn, r_l, r_k, by
  intro x r hm
  simp only [rowTab, List.mem_cons, List.mem_nil_iff, or_false, Prod.mk.injEq] at hm
  rcases hm with ⟨rfl, rfl⟩ | ⟨rfl, rfl⟩ | ⟨rfl, rfl⟩ | ⟨rfl, rfl⟩ | ⟨rfl, rfl⟩ | ⟨rfl, rfl⟩ | ⟨rfl, rfl⟩ | ⟨rfl, rfl⟩ | ⟨rfl, rfl⟩
  ·rw [PySem.W.find_K r_l rq_si]; exact rfl
  ·rw [PySem.W.find_K r_l rq_al]; exact rfl
  ·rw [PySem.W.find_K r_l rq_same]; exact True.intro
  ·rw [PySem.W.find_K r_l rq_less]; exact True.intro
  ·rw [PySem.W.find_K r_l rq_not]; exact True.intro
  ·rw [PySem.W.find_K r_l rq_and]; exact True.intro
  ·rw [PySem.W.find_K r_l rq_or]; exact True.intro
  ·rw [PySem.W.find_K r_l rq_some]; exact True.intro
  ·rw [PySem.W.find_K r_l rq_each]; exact True.intro⟩, r_s⟩
 have Z : TopsR K w.params mg ⟨rd, r_si, r_al⟩ := ⟨PySem.W.mg_of X G r_a, Dr, fun H => sqT_top (us := [.int 1 _]) rr_si (.cons ⟨_, rfl⟩ (.nil)) (by decide), fun H => sqT_top (us := [.int 1 _, .int 3 _]) rr_al (.cons ⟨_, rfl⟩ (.cons ⟨_, rfl⟩ (.nil))) (by decide), ⟨_, PySem.W.mg_of X G mf_a⟩⟩
 exact ⟨PySem.W.fnOf "law" "law" (defArgs s_law) (defBody s_law) (defScope s_law) .none kV22 dc22 pm22 an22 cd22 ct22, fun s v => .of_eq rfl, fun base _ _ => ok_law T TE U Y Z⟩
theorem walk {l : PySem.W.OpenLaw} {q : Program} {loose : List Str} {XP : (Str → Option Value) → Heap → Prop} {YP : World → Heap → Prop} {d : DefRec} {K : Params → PySem.W.Frag} (hn : l.most = some 63) (hdf : d.params.defaults = [])
  (hY : ∀ (w : World) (h : Heap), YP w h → (K w.params).In h)
  (F : ∀ (w : World) (mg : Str → Option Value) (fa : Addr) (h : Heap), (K w.params).In h → h.Ns mainGlobals mg → mg d.name = some (.ref fa) →
   ∃ fd : FuncData, (∀ (s : Shared) (u : Value), BindsTo s fd ⟨[u], []⟩ [("_law_script", u)]) ∧ ∀ base : Heap, (K w.params).In base → base.Ns mainGlobals mg → FnOk l.prog w (K w.params) mg base CX0 33 fa fd ["_law_script"] (spLaw (K w.params))) :
  PySem.W.WalkO q loose XP YP l.row.toRowW d [] (fun f vs => PySem.call f vs) :=
 L2.walk_of (n := 63) (k := 33) (x := "_law_script") (CX := fun _ => CX0) (sp := fun w => spLaw (K w.params)) hn (by decide) hdf ⟨rfl, by decide, by decide, rfl⟩ hY F (fun _ _ a ns hl _ hS => ⟨a, ns, rfl, hS, hl, fun _ => rfl⟩) fun _ _ _ _ _ z => z
end
end My
namespace PySem.W.Fast
theorem tw1693476381386551542 : True := trivial
theorem tw17073159528968972629 : True := trivial
theorem tw9593963425256031122 : True := trivial
theorem tw16688769091711419264 : True := trivial
theorem tw12529246283732740642 : True := trivial
theorem tw1580683861046724956 : True := trivial
theorem tw7870522131267333993 : True := trivial
theorem tw2152216598044338512 : True := trivial
theorem tw17846408687295354318 : True := trivial
theorem tw1496625463830759847 : True := trivial
theorem tw4733216997068672605 : True := trivial
theorem tw42847627753100378 : True := trivial
theorem tw3778341658165749203 : True := trivial
theorem tw17749894290440216930 : True := trivial
theorem tw7094919457134144270 : True := trivial
theorem tw7452791026969142613 : True := trivial
theorem tw10473133058982958797 : True := trivial
theorem tw13541709854767563865 : True := trivial
theorem tw1405654338319569253 : True := trivial
theorem tw5408038677134601359 : True := trivial
theorem tw4286667784276627780 : True := trivial
theorem tw5318861013398285977 : True := trivial
theorem tw6838612788237953160 : True := trivial
theorem tw6753694381895417834 : True := trivial
theorem tw11763484048924859669 : True := trivial
theorem tw17559314652057505949 : True := trivial
theorem tw702462391013609553 : True := trivial
theorem tw14713384805834759961 : True := trivial
theorem tw5910788568386223442 : True := trivial
theorem tw12703087684685348419 : True := trivial
theorem tw7157613161437427377 : True := trivial
theorem tw4730401809479051781 : True := trivial
theorem tw17950931531028983683 : True := trivial
theorem tw7028102147033133024 : True := trivial
theorem tw14469364644941897986 : True := trivial
theorem tw4843970393650602837 : True := trivial
theorem tw12008223531361938713 : True := trivial
theorem tw3962753641538622797 : True := trivial
theorem tw14731084086300900254 : True := trivial
theorem tw1974180068842865811 : True := trivial
theorem tw15430413413839160178 : True := trivial
theorem tw11738965341586073480 : True := trivial
theorem tw17368166432644888526 : True := trivial
theorem tw1809906627966890287 : True := trivial
theorem tw9859850449687868958 : True := trivial
theorem tw13757543438541421254 : True := trivial
theorem tw6404456777993873411 : True := trivial
theorem tw5288270741249960496 : True := trivial
theorem tw13016222074404666625 : True := trivial
theorem tw4222123145657600961 : True := trivial
theorem tw13220802412547788042 : True := trivial
theorem tw17219041239434951011 : True := trivial
theorem tw9911569811726714481 : True := trivial
theorem tw2958705089978172251 : True := trivial
theorem tw8352298368416356913 : True := trivial
theorem tw8871750484507433941 : True := trivial
theorem tw2471525414428018446 : True := trivial
theorem tw6440452976069840936 : True := trivial
theorem tw5754281276191784363 : True := trivial
theorem tw16812699030245374768 : True := trivial
theorem tw18316305175506855832 : True := trivial
theorem tw15788803583958086980 : True := trivial
theorem tw14662473172761252248 : True := trivial
theorem tw7548870314013705742 : True := trivial
theorem tw151078240881363615 : True := trivial
theorem tw15115845254518817067 : True := trivial
theorem tw9991676385092764805 : True := trivial
theorem tw7891443607161906000 : True := trivial
theorem tw11084865110123344713 : True := trivial
theorem tw12551546748097454144 : True := trivial
theorem tw2903518432292069508 : True := trivial
theorem tw8766507703515541502 : True := trivial
theorem tw13994909726924367502 : True := trivial
theorem tw14813474536530856030 : True := trivial
theorem tw10006936709034985041 : True := trivial
theorem tw6181949433555503309 : True := trivial
theorem tw6423791153641906286 : True := trivial
theorem tw2967605939377071941 : True := trivial
theorem tw1240587707996273106 : True := trivial
theorem tw9941398305524945040 : True := trivial
theorem tw8291011240770657764 : True := trivial
theorem tw17805243203698893552 : True := trivial
theorem tw13172431432719997493 : True := trivial
theorem tw9393696356212519322 : True := trivial
theorem tw14228912409186343696 : True := trivial
theorem tw5249781298012643981 : True := trivial
theorem tw10652973758299518665 : True := trivial
theorem tw8546635787621702578 : True := trivial
theorem tw1659411552709773093 : True := trivial
theorem tw1269153234495396193 : True := trivial
theorem tw11890034892380680891 : True := trivial
theorem tw5365999788327755869 : True := trivial
theorem tw2305254135321034738 : True := trivial
theorem tw8125030528127742938 : True := trivial
theorem tw4919905867506714613 : True := trivial
theorem tw12893273966956671093 : True := trivial
theorem tw5613607195544365879 : True := trivial
theorem tw3114022927139653586 : True := trivial
theorem tw13521531537629903361 : True := trivial
theorem tw13736793410201597904 : True := trivial
theorem tw6895174388822193429 : True := trivial
theorem tw4972113103054096898 : True := trivial
theorem tw290082576632882738 : True := trivial
theorem tw2821542477811646983 : True := trivial
theorem tw13201410312425944356 : True := trivial
theorem tw1157251857506081017 : True := trivial
theorem tw1085264321080469822 : True := trivial
theorem tw7367170289583142424 : True := trivial
theorem tw636660873896465715 : True := trivial
theorem tw7370478676660953797 : True := trivial
theorem tw9923922736639143966 : True := trivial
theorem tw2756424356178303306 : True := trivial
theorem tw8992493190235703787 : True := trivial
theorem tw6147329863833172996 : True := trivial
theorem tw9344133953368441490 : True := trivial
theorem tw10530506844622417313 : True := trivial
theorem tw6881618496373118639 : True := trivial
theorem tw2227811267213906981 : True := trivial
theorem tw15439690959980236888 : True := trivial
theorem tw4616848837957711935 : True := trivial
theorem tw598510440304510685 : True := trivial
theorem tw15615541145668963248 : True := trivial
theorem tw5932485584695280651 : True := trivial
theorem tw11858881913952080131 : True := trivial
theorem tw5907455813126835281 : True := trivial
theorem tw1322911146805321438 : True := trivial
theorem tw8438029100261174091 : True := trivial
end PySem.W.Fast
open PySem PySem.W PyProof.Rows
set_option maxRecDepth 100000 in
set_option maxHeartbeats 0 in
theorem PySem.Challenge.cw_figurejudge_k22_sayings_that_fit_holds : PySem.Challenge.rw_figurejudge_k22_sayings_that_fit.Holds := by
 w_on; o_law; k_head; (case hw => w_witness2)
 k_fill
 refine My.walk (l := PySem.Challenge.rw_figurejudge_k22_sayings_that_fit) rfl rfl (fun w h Y => PySem.W.kIn_of Y) ?F
 case F =>
  intro w mg fa h KX G hmg
  refine' My.all_mk KX G hmg ?a0 ?l0 ?c0 ?k0 ?a1 ?l1 ?c1 ?k1 ?a2 ?l2 ?c2 ?k2 ?a3 ?l3 ?c3 ?k3 ?a4 ?l4 ?c4 ?k4 ?a5 ?l5 ?c5 ?k5 ?a6 ?l6 ?c6 ?k6 ?a7 ?l7 ?c7 ?k7 ?a8 ?l8 ?c8 ?k8 ?a9 ?l9 ?c9 ?k9 ?a10 ?l10 ?c10 ?k10 ?a11 ?l11 ?c11 ?k11 ?a12 ?l12 ?c12 ?k12 ?a13 ?l13 ?c13 ?k13 ?a14 ?l14 ?c14 ?k14 ?a15 ?l15 ?c15 ?k15 ?a16 ?l16 ?c16 ?k16 ?a17 ?l17 ?c17 ?k17 ?a18 ?l18 ?c18 ?k18 ?a19 ?l19 ?c19 ?k19 ?a20 ?l20 ?c20 ?k20 ?a21 ?l21 ?c21 ?k21 ?a22 ?l22 ?c22 ?k22 ?z0 ?z1 ?z2 ?z3 ?z4 ?z5 ?z6 ?z7 ?z8 ?z9 ?z10 ?z11 ?xDa ?xDl ?xDnl ?xDno ?xDni ?xDg ?xDr ?xDf ?xDga ?xDgh ?xDsa ?xDcl ?xgt ?xtk ?xzV ?x1a ?x1l ?x1ga ?x1gh ?x1sa ?x1cl ?x1i ?x1fl ?x1fc ?x1fk ?x1fn ?x1k ?x1n ?x2a ?x2l ?x2ga ?x2gh ?x2sa ?x2cl ?x2i ?x2fl ?x2fc ?x2fk ?x2fn ?x2k ?x2n ?x3a ?x3l ?x3ga ?x3gh ?x3sa ?x3cl ?x3i ?x3fl ?x3fc ?x3fk ?x3fn ?x3k ?x3n ?x4a ?x4l ?x4ga ?x4gh ?x4sa ?x4cl ?x4i ?x4fl ?x4fc ?x4fk ?x4fn ?x4k ?xne ?p_a ?p_l ?p_k ?p_s ?pq_no ?pr_no ?pq_an ?pr_an ?pq_or ?pr_or ?pq_so ?pr_so ?pq_ea ?pr_ea ?pq_same ?pq_less ?pq_sign ?pq_alike ?s_a ?s_l ?s_k ?s_s ?sq_sa ?sr_sa ?sq_le ?sr_le ?sq_si ?sr_si ?sq_al ?sr_al ?sq_not ?sq_and ?sq_or ?sq_some ?sq_each ?r_a ?r_l ?r_k ?r_s ?rq_si ?rr_si ?rq_al ?rr_al ?rq_same ?rq_less ?rq_not ?rq_and ?rq_or ?rq_some ?rq_each ?mf_a
  (case a0 => k_is)
  (case l0 => k_is)
  (case c0 => k_is)
  (case k0 => k_is)
  (case a1 => k_is)
  (case l1 => k_is)
  (case c1 => k_is)
  (case k1 => k_is)
  (case a2 => k_is)
  (case l2 => k_is)
  (case c2 => k_is)
  (case k2 => k_is)
  (case a3 => k_is)
  (case l3 => k_is)
  (case c3 => k_is)
  (case k3 => k_is)
  (case a4 => k_is)
  (case l4 => k_is)
  (case c4 => k_is)
  (case k4 => k_is)
  (case a5 => k_is)
  (case l5 => k_is)
  (case c5 => k_is)
  (case k5 => k_is)
  (case a6 => k_is)
  (case l6 => k_is)
  (case c6 => k_is)
  (case k6 => k_is)
  (case a7 => k_is)
  (case l7 => k_is)
  (case c7 => k_is)
  (case k7 => k_is)
  (case a8 => k_is)
  (case l8 => k_is)
  (case c8 => k_is)
  (case k8 => k_is)
  (case a9 => k_is)
  (case l9 => k_is)
  (case c9 => k_is)
  (case k9 => k_is)
  (case a10 => k_is)
  (case l10 => k_is)
  (case c10 => k_is)
  (case k10 => k_is)
  (case a11 => k_is)
  (case l11 => k_is)
  (case c11 => k_is)
  (case k11 => k_is)
  (case a12 => k_is)
  (case l12 => k_is)
  (case c12 => k_is)
  (case k12 => k_is)
  (case a13 => k_is)
  (case l13 => k_is)
  (case c13 => k_is)
  (case k13 => k_is)
  (case a14 => k_is)
  (case l14 => k_is)
  (case c14 => k_is)
  (case k14 => k_is)
  (case a15 => k_is)
  (case l15 => k_is)
  (case c15 => k_is)
  (case k15 => k_is)
  (case a16 => k_is)
  (case l16 => k_is)
  (case c16 => k_is)
  (case k16 => k_is)
  (case a17 => k_is)
  (case l17 => k_is)
  (case c17 => k_is)
  (case k17 => k_is)
  (case a18 => k_is)
  (case l18 => k_is)
  (case c18 => k_is)
  (case k18 => k_is)
  (case a19 => k_is)
  (case l19 => k_is)
  (case c19 => k_is)
  (case k19 => k_is)
  (case a20 => k_is)
  (case l20 => k_is)
  (case c20 => k_is)
  (case k20 => k_is)
  (case a21 => k_is)
  (case l21 => k_is)
  (case c21 => k_is)
  (case k21 => k_is)
  (case a22 => k_is)
  (case l22 => k_is)
  (case c22 => k_is)
  (case k22 => k_is)
  (case z0 => k_is)
  (case z1 => k_is)
  (case z2 => k_is)
  (case z3 => k_is)
  (case z4 => k_is)
  (case z5 => k_is)
  (case z6 => k_is)
  (case z7 => k_is)
  (case z8 => k_is)
  (case z9 => k_is)
  (case z10 => k_is)
  (case z11 => k_is)
  (case xDa => k_is)
  (case xDl => k_is)
  (case xDnl => k_is)
  (case xDno => simp [L2.nsO])
  (case xDni => k_is)
  (case xDg => k_is)
  (case xDr => k_is)
  (case xDf => k_is)
  (case xDga => k_is)
  (case xDgh => k_is)
  (case xDsa => k_is)
  (case xDcl => k_is)
  (case xgt => k_is)
  (case xtk => k_is)
  (case xzV => k_is)
  (case x1a => k_is)
  (case x1l => k_is)
  (case x1ga => k_is)
  (case x1gh => k_is)
  (case x1sa => k_is)
  (case x1cl => k_is)
  (case x1i => k_is)
  (case x1fl => k_is)
  (case x1fc => k_is)
  (case x1fk => k_is)
  (case x1fn => k_is)
  (case x1k => k_is)
  (case x1n => k_is)
  (case x2a => k_is)
  (case x2l => k_is)
  (case x2ga => k_is)
  (case x2gh => k_is)
  (case x2sa => k_is)
  (case x2cl => k_is)
  (case x2i => k_is)
  (case x2fl => k_is)
  (case x2fc => k_is)
  (case x2fk => k_is)
  (case x2fn => k_is)
  (case x2k => k_is)
  (case x2n => k_is)
  (case x3a => k_is)
  (case x3l => k_is)
  (case x3ga => k_is)
  (case x3gh => k_is)
  (case x3sa => k_is)
  (case x3cl => k_is)
  (case x3i => k_is)
  (case x3fl => k_is)
  (case x3fc => k_is)
  (case x3fk => k_is)
  (case x3fn => k_is)
  (case x3k => k_is)
  (case x3n => k_is)
  (case x4a => k_is)
  (case x4l => k_is)
  (case x4ga => k_is)
  (case x4gh => k_is)
  (case x4sa => k_is)
  (case x4cl => k_is)
  (case x4i => k_is)
  (case x4fl => k_is)
  (case x4fc => k_is)
  (case x4fk => k_is)
  (case x4fn => k_is)
  (case x4k => k_is)
  (case xne => decide)
  (case p_a => k_is)
  (case p_l => k_is)
  (case p_k => repeat (first | exact ⟨⟩ | refine ⟨⟨_, _, rfl, rfl⟩, ?_⟩))
  (case p_s => rfl)
  (case pq_no => k_is)
  (case pr_no => k_is)
  (case pq_an => k_is)
  (case pr_an => k_is)
  (case pq_or => k_is)
  (case pr_or => k_is)
  (case pq_so => k_is)
  (case pr_so => k_is)
  (case pq_ea => k_is)
  (case pr_ea => k_is)
  (case pq_same => k_is)
  (case pq_less => k_is)
  (case pq_sign => k_is)
  (case pq_alike => k_is)
  (case s_a => k_is)
  (case s_l => k_is)
  (case s_k => repeat (first | exact ⟨⟩ | refine ⟨⟨_, _, rfl, rfl⟩, ?_⟩))
  (case s_s => rfl)
  (case sq_sa => k_is)
  (case sr_sa => k_is)
  (case sq_le => k_is)
  (case sr_le => k_is)
  (case sq_si => k_is)
  (case sr_si => k_is)
  (case sq_al => k_is)
  (case sr_al => k_is)
  (case sq_not => k_is)
  (case sq_and => k_is)
  (case sq_or => k_is)
  (case sq_some => k_is)
  (case sq_each => k_is)
  (case r_a => k_is)
  (case r_l => k_is)
  (case r_k => repeat (first | exact ⟨⟩ | refine ⟨⟨_, _, rfl, rfl⟩, ?_⟩))
  (case r_s => rfl)
  (case rq_si => k_is)
  (case rr_si => k_is)
  (case rq_al => k_is)
  (case rr_al => k_is)
  (case rq_same => k_is)
  (case rq_less => k_is)
  (case rq_not => k_is)
  (case rq_and => k_is)
  (case rq_or => k_is)
  (case rq_some => k_is)
  (case rq_each => k_is)
  (case mf_a => k_is)
#print axioms PySem.Challenge.cw_figurejudge_k22_sayings_that_fit_holds
