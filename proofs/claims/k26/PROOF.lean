import PyProof.Rows.All
import Wide.All
import OpenK.AllK
import Wide.FinOn
import Lean
import PyProof.EqAt
import PyProof.EqKinds
import PyProof.TupleCall
import PyProof.NeKinds
import PyProof.ListRange
import PyProof.Draws
import PyProof.Rows.SortStr
import KE.KDictSum
import KE.KEqDict
import KE.KDictOf
import KE.KRevSl
import PyProof.SetKind
import PyProof.SetRoads
import PyProof.Rows.SetFrom
import PyProof.ReprRoads
import PyProof.ReprLen
import PyProof.NsDelKeeps
import PyProof.ListMulRoad
import PyProof.FactsAll.tuple_2
import PySem.Challenge.RW_figurejudge_k26_some_and_each_to_a_bound
set_option Elab.async false
set_option linter.all false
set_option maxRecDepth 100000
namespace L2
open PySem PySem.Spec PyProof.Rows
abbrev Key := Sum Int Str
def keyIs : Key → Value → Bool
  | .inl k, v => Value.isInt k v
  | .inr x, v => Value.isStrOf x v
def keyH (w : World) : Key → Int
  | .inl k => hashInt k
  | .inr x => hashStr w x
theorem keyIs_shape : ∀ {k : Key} {v : Value}, keyIs k v = true → (∃ i t, k = Sum.inl i ∧ v = Value.int i t) ∨ (∃ x t, k = Sum.inr x ∧ v = Value.str x t)
  | .inl i, v, h => by
    obtain ⟨t, e⟩ := Value.isInt_shape (k := i) (v := v) h
    exact .inl ⟨i, t, rfl, e⟩
  | .inr x, v, h => by
    obtain ⟨t, e⟩ := Value.isStrOf_shape (x := x) (v := v) h
    exact .inr ⟨x, t, rfl, e⟩
theorem keyIs_int (i : Int) (t : Tok) : keyIs (.inl i) (.int i t) = true := by simp [keyIs, Value.isInt]
theorem keyIs_str (x : Str) (t : Tok) : keyIs (.inr x) (.str x t) = true := by simp [keyIs, Value.isStrOf]
theorem key_ll (a b : Int) : decide ((Sum.inl a : Key) = Sum.inl b) = (a == b) := by
  by_cases e : a = b
  · subst e; simp
  · have h : ¬ (Sum.inl a : Key) = Sum.inl b := fun q => e (Sum.inl.inj q)
    rw [decide_eq_false h]
    exact (beq_eq_false_iff_ne.mpr e).symm
theorem key_rr (a b : Str) : decide ((Sum.inr a : Key) = Sum.inr b) = decide (a = b) := by
  by_cases e : a = b
  · subst e; simp
  · have h : ¬ (Sum.inr a : Key) = Sum.inr b := fun q => e (Sum.inr.inj q)
    rw [decide_eq_false h, decide_eq_false e]
theorem key_lr (a : Int) (b : Str) : decide ((Sum.inl a : Key) = Sum.inr b) = false := decide_eq_false (fun q => nomatch q)
theorem key_rl (a : Str) (b : Int) : decide ((Sum.inr a : Key) = Sum.inl b) = false := decide_eq_false (fun q => nomatch q)
def mixKind (prog : Program) (w : World) : PySem.KeyKind prog w Key where
  is := keyIs
  hash := keyH w
  inj := fun v a b ha hb => by
    rcases keyIs_shape ha with ⟨i, t, rfl, rfl⟩ | ⟨x, t, rfl, rfl⟩
    · rcases keyIs_shape hb with ⟨j, u, rfl, e⟩ | ⟨y, u, rfl, e⟩
      · injection e with e1 _; rw [e1]
      · exact nomatch e
    · rcases keyIs_shape hb with ⟨j, u, rfl, e⟩ | ⟨y, u, rfl, e⟩
      · exact nomatch e
      · injection e with e1 _; rw [e1]
  byValue := fun k v h => by
    rcases keyIs_shape h with ⟨i, t, rfl, rfl⟩ | ⟨x, t, rfl, rfl⟩ <;> rfl
  pyHash := fun hv h => by
    rcases keyIs_shape hv with ⟨i, t, rfl, rfl⟩ | ⟨x, t, rfl, rfl⟩
    · exact wpAny_pyHash_int h
    · exact wpAny_pyHash_str h
  eqBool := fun hu hv h => by
    rcases keyIs_shape hu with ⟨i, t, rfl, rfl⟩ | ⟨x, t, rfl, rfl⟩
    · rcases keyIs_shape hv with ⟨j, u, rfl, rfl⟩ | ⟨y, u, rfl, rfl⟩
      · rw [key_ll] at h; exact wpAny_eqBool_int h
      · rw [key_lr] at h; exact SeqAt.EqAt.int_str i t y u _ _ _ _ h
    · rcases keyIs_shape hv with ⟨j, u, rfl, rfl⟩ | ⟨y, u, rfl, rfl⟩
      · rw [key_rl] at h; exact SeqAt.EqAt.str_int x t j u _ _ _ _ h
      · rw [key_rr] at h; exact wpAny_eqBool_str h
  «strs» := fun k x t v h => by
    rcases keyIs_shape h with ⟨i, u, rfl, e⟩ | ⟨y, u, rfl, e⟩
    · exact nomatch e
    · injection e with e1 _
      subst e1
      cases v <;> rfl
theorem mixKind_is (prog : Program) (w : World) (k : Key) (v : Value) : (mixKind prog w).is k v = keyIs k v := rfl
theorem mixKind_int (prog : Program) (w : World) (i : Int) (t : Tok) : (mixKind prog w).is (.inl i) (.int i t) = true := keyIs_int i t
theorem mixKind_str (prog : Program) (w : World) (x : Str) (t : Tok) : (mixKind prog w).is (.inr x) (.str x t) = true := keyIs_str x t
end L2
namespace L2
open PySem PySem.Spec PyProof.Rows
inductive V where
  | non | bl (b : Bool) | int (i : Int) | str (x : Str) | byt (b : Array UInt8) | flt (b : UInt64) | ref (a : Addr) | ty (n : String)
  deriving DecidableEq
def RelV : V → Value → Prop
  | .non, u => u = Value.none
  | .bl b, u => u = Value.bool b
  | .int i, u => ∃ t, u = Value.int i t
  | .str x, u => ∃ t, u = Value.str x t
  | .byt b, u => ∃ t, u = Value.bytes b t
  | .flt b, u => ∃ t, u = Value.float b t
  | .ref a, u => u = Value.ref a
  | .ty n, u => u = Value.type n
abbrev Vals : List V → List Value → Prop := Paired RelV
theorem Vals.length {xs : List V} {us : List Value} (r : Vals xs us) : xs.length = us.length := Paired.length r
theorem Vals.get : ∀ {xs : List V} {us : List Value} {i : Nat} {x : V}, Vals xs us → xs[i]? = some x → ∃ u, us[i]? = some u ∧ RelV x u
  | _, _, _, _, .nil, e => by simp at e
  | _, _, 0, _, .cons r _, e => by simp at e; subst e; exact ⟨_, rfl, r⟩
  | _, _, i + 1, x, .cons _ t, e => by
    obtain ⟨u, h1, h2⟩ := Vals.get (i := i) (x := x) t (by simpa using e)
    exact ⟨u, by simpa using h1, h2⟩
theorem Vals.set {x : V} {u : Value} (r : RelV x u) : ∀ {xs : List V} {us : List Value} (i : Nat), Vals xs us → Vals (xs.set i x) (us.set i u)
  | _, _, _, .nil => .nil
  | _, _, 0, .cons _ t => .cons r t
  | _, _, i + 1, .cons q t => .cons q (Vals.set r i t)
theorem Vals.append : ∀ {xs ys : List V} {us ws : List Value}, Vals xs us → Vals ys ws → Vals (xs ++ ys) (us ++ ws)
  | _, _, _, _, .nil, s => s
  | _, _, _, _, .cons r t, s => .cons r (Vals.append t s)
theorem Vals.take : ∀ {xs : List V} {us : List Value} (n : Nat), Vals xs us → Vals (xs.take n) (us.take n)
  | _, _, 0, _ => .nil
  | _, _, _ + 1, .nil => .nil
  | _, _, n + 1, .cons r t => .cons r (Vals.take n t)
theorem Vals.drop : ∀ {xs : List V} {us : List Value} (n : Nat), Vals xs us → Vals (xs.drop n) (us.drop n)
  | _, _, 0, r => r
  | _, _, _ + 1, .nil => .nil
  | _, _, n + 1, .cons _ t => Vals.drop n t
theorem Vals.none_of : ∀ {xs : List V} {us : List Value} {i : Nat}, Vals xs us → xs[i]? = none → us[i]? = none := fun {xs us i} r e => by
  have h1 := r.length
  have h2 : xs.length ≤ i := List.getElem?_eq_none_iff.mp e
  exact List.getElem?_eq_none_iff.mpr (by omega)
def RelO : Option V → Option Value → Prop
  | some v, some u => RelV v u
  | none, none => True
  | _, _ => False
def KV {κ : Type} : List (κ × V) → List (κ × Value) → Prop := Paired fun (p : κ × V) (q : κ × Value) => p.1 = q.1 ∧ RelV p.2 q.2
def kV : Key → V
  | .inl i => .int i
  | .inr x => .str x
inductive HO where
  | lst (xs : List V)
  | tup (xs : List V)
  | dK (kvs : List (Key × V)) | dT (kvs : List (List Key × V))
  | set (S : Int → Bool) (n : Nat)
  | ins (C dx : Addr) (fs : List (Str × V))
  | own (x : Addr)
  | xd (fs : List (Str × V))
  | met (f x : Addr)
  | rng (lo hi : Int)
  | frz (o : Obj) (u : HO)
  | tbl (ps : Array Value)
  | ext (φ : Heap → Prop)
abbrev Hp := Addr → Option HO
def upd (H : Hp) (a : Addr) (o : HO) : Hp := fun b => if b = a then some o else H b
theorem upd_same {H : Hp} {a : Addr} {o : HO} : upd H a o a = some o := by unfold upd; rw [if_pos rfl]
theorem upd_ne {H : Hp} {a b : Addr} {o : HO} (h : b ≠ a) : upd H a o b = H b := by unfold upd; rw [if_neg h]
theorem ne_of {H : Hp} {a b : Addr} {o u : HO} (h : H a = some o) (h' : H b = some u) (d : o ≠ u) : a ≠ b := by
  intro e; subst e; rw [h] at h'; exact d (Option.some.inj h')
theorem ne_of_none {H : Hp} {a b : Addr} {o : HO} (h : H a = some o) (h' : H b = none) : a ≠ b := by
  intro e; subst e; rw [h] at h'; cases h'
section
variable (P : Program) (w : World)
def ObjOk (H : Hp) (h : Heap) (a : Addr) : HO → Prop
  | .lst xs => xs.length ≤ sizeLine ∧ ∃ (its : List Value) (n : Nat), Vals xs its ∧ h.get? a = some { cls := .type "list", data := .seq its.toArray n }
  | .tup xs => xs.length ≤ sizeLine ∧ ∃ its : List Value, Vals xs its ∧ IsTup h a its.toArray
  | .dK kvs => kvs.length ≤ sizeLine ∧ (a == sysModules) = false ∧ ∃ vs, KV kvs vs ∧ h.DictOf (mixKind P w) a vs
  | .dT kvs => kvs.length ≤ sizeLine ∧ (a == sysModules) = false ∧ ∃ xs : List (List Key × Addr × Value),
      Paired (fun (p : List Key × V) (q : List Key × Addr × Value) => p.1 = q.1 ∧ H q.2.1 = some (.tup (p.1.map kV)) ∧ RelV p.2 q.2.2) kvs xs ∧
      ∃ o es ep, h.get? a = some o ∧ o.ExactDict ∧ o.data = .dict es ep ∧ es.toList = xs.map (entryOfKey (tupleKind (mixKind P w))) ∧ (xs.map (·.1)).Nodup
  | .set S n => h.SetOf (intKind P w) a S n
  | .ins C dx fs => H dx = some (.own a) ∧ fs.length ≤ 1000 ∧ dx ≠ a ∧ h.get? a = some (PySem.W.instObj C dx) ∧
      ∃ mA, h.Ns1 dx mA ∧ (∀ f, RelO (fs.lookup f) (mA f)) ∧ PySem.Within mA (fs.map (·.1))
  | .own _ => ∃ o, h.get? a = some o
  | .xd fs => ∃ mA, h.Ns1 a mA ∧ ∀ f, RelO (fs.lookup f) (mA f)
  | .rng lo hi => ∃ t u v, h.get? a = some { cls := .type "range", data := .fields #[.int lo t, .int hi u, .int 1 v] }
  | .frz o u => h.get? a = some o ∧ ObjOk H h a u
  | .tbl ps => h.get? a = some { cls := .none, data := .fields ps }
  | .met f x => h.get? a = some (PySem.W.methodObj (.ref f) (.ref x))
  | .ext φ => φ h ∧ (∃ o, h.get? a = some o) ∧ ∀ h1 h2 : Heap, φ h1 → (∀ o, h1.get? a = some o → h2.get? a = some o) → φ h2
def HOk (H : Hp) (h : Heap) : Prop := ∀ a o, H a = some o → ObjOk P w H h a o
end
section
variable {P : Program} {w : World} {H H' : Hp} {h h' : Heap} {a : Addr} {o : HO}
theorem ObjOk.lt (x : ObjOk P w H h a o) : a < h.objs.size := by
  cases o with
  | lst xs => obtain ⟨_, _, _, _, e⟩ := x; exact Heap.lt_size e
  | tup xs => obtain ⟨_, _, _, p⟩ := x; exact p.lt
  | dK kvs => obtain ⟨_, _, _, _, o, _, _, e, _⟩ := x; exact Heap.lt_size e
  | dT kvs => obtain ⟨_, _, _, _, o, _, _, e, _⟩ := x; exact Heap.lt_size e
  | set S n => obtain ⟨o, _, _, _, e, _⟩ := x; exact Heap.lt_size e
  | ins C dx fs => obtain ⟨_, _, _, e, _⟩ := x; exact Heap.lt_size e
  | own y => obtain ⟨_, e⟩ := x; exact Heap.lt_size e
  | xd fs => obtain ⟨_, ⟨_, _, _, e, _⟩, _⟩ := x; exact Heap.lt_size e
  | rng lo hi => obtain ⟨_, _, _, e⟩ := x; exact Heap.lt_size e
  | frz ob u => obtain ⟨e, _⟩ := x; exact Heap.lt_size e
  | tbl ps => exact Heap.lt_size (show h.get? a = some _ from x)
  | met f y => exact Heap.lt_size (show h.get? a = some _ from x)
  | ext φ => obtain ⟨_, ⟨_, e⟩, _⟩ := x; exact Heap.lt_size e
theorem Paired.mapP {α β : Type} {F G : α → β → Prop} : ∀ {l₁ : List α} {l₂ : List β}, Paired F l₁ l₂ → (∀ a b, F a b → G a b) → Paired G l₁ l₂
  | _, _, .nil, _ => .nil
  | _, _, .cons r t, f => .cons (f _ _ r) (Paired.mapP t f)
theorem ObjOk.stay (x : ObjOk P w H h a o) (k : ∀ b u, (b = a ∨ H b = some (.own a)) → h.get? b = some u → h'.get? b = some u)
    (ho : ∀ b, H b = some (.own a) → H' b = some (.own a)) (ht : ∀ b xs, H b = some (.tup xs) → H' b = some (.tup xs)) : ObjOk P w H' h' a o := by
  induction o with
  | lst xs => obtain ⟨z, its, n, r, e⟩ := x; exact ⟨z, its, n, r, k _ _ (.inl rfl) e⟩
  | tup xs => obtain ⟨z, its, r, ob, e, c⟩ := x; exact ⟨z, its, r, ob, k _ _ (.inl rfl) e, c⟩
  | dK kvs => obtain ⟨z, y, vs, r, ob, es, ep, e, c⟩ := x; exact ⟨z, y, vs, r, ob, es, ep, k _ _ (.inl rfl) e, c⟩
  | dT kvs =>
    obtain ⟨z, y, xs, r, ob, es, ep, e, c⟩ := x
    exact ⟨z, y, xs, Paired.mapP r fun p q z => ⟨z.1, ht _ _ z.2.1, z.2.2⟩, ob, es, ep, k _ _ (.inl rfl) e, c⟩
  | set S n => obtain ⟨ob, es, ep, t, e, c⟩ := x; exact ⟨ob, es, ep, t, k _ _ (.inl rfl) e, c⟩
  | ins C dx fs =>
    obtain ⟨d, z, ne, e, mA, ⟨od, es, ep, e2, c⟩, r⟩ := x
    exact ⟨ho _ d, z, ne, k _ _ (.inl rfl) e, mA, ⟨od, es, ep, k _ _ (.inr d) e2, c⟩, r⟩
  | own y => obtain ⟨ob, e⟩ := x; exact ⟨ob, k _ _ (.inl rfl) e⟩
  | xd fs => obtain ⟨mA, ⟨od, es, ep, e, c⟩, r⟩ := x; exact ⟨mA, ⟨od, es, ep, k _ _ (.inl rfl) e, c⟩, r⟩
  | rng lo hi => obtain ⟨t, u, v, e⟩ := x; exact ⟨t, u, v, k _ _ (.inl rfl) e⟩
  | frz ob u ih => obtain ⟨e, q⟩ := x; exact ⟨k _ _ (.inl rfl) e, ih q⟩
  | tbl ps =>
    have e : h.get? a = some { cls := .none, data := .fields ps } := x
    show h'.get? a = some { cls := .none, data := .fields ps }
    exact k a _ (.inl rfl) e
  | met f y =>
    have e : h.get? a = some (PySem.W.methodObj (.ref f) (.ref y)) := x
    show h'.get? a = some (PySem.W.methodObj (.ref f) (.ref y))
    exact k a _ (.inl rfl) e
  | ext φ => obtain ⟨p, ⟨o, e⟩, st⟩ := x; exact ⟨st _ _ p fun o q => k _ _ (.inl rfl) q, ⟨o, k _ _ (.inl rfl) e⟩, st⟩
theorem HOk.lt (x : HOk P w H h) (e : H a = some o) : a < h.objs.size := (x a o e).lt
theorem HOk.fresh (x : HOk P w H h) (e : h.objs.size ≤ a) : H a = none := by
  cases q : H a with
  | none => rfl
  | some u => exact absurd (Nat.lt_of_lt_of_le (x.lt q) e) (Nat.lt_irrefl _)
theorem HOk.kept (x : HOk P w H h) (k : ∀ b u, h.get? b = some u → h'.get? b = some u) : HOk P w H h' := fun a o e =>
  (x a o e).stay (fun b u _ q => k b u q) (fun _ q => q) fun _ _ q => q
theorem HOk.laid (x : HOk P w H h) (k : ∀ b u, h.get? b = some u → h'.get? b = some u) (hp : h.objs.size ≤ a) (new : ObjOk P w (upd H a o) h' a o) : HOk P w (upd H a o) h' := fun b u e => by
  have hn := x.fresh hp
  by_cases hb : b = a
  · subst hb; rw [upd_same] at e; cases e; exact new
  · rw [upd_ne hb] at e
    exact (x b u e).stay (fun c v _ q => k c v q) (fun c q => by rw [upd_ne (ne_of_none q hn)]; exact q) fun c xs q => by rw [upd_ne (ne_of_none q hn)]; exact q
end
def Rd (H : Hp) (a : Addr) (u : HO) : Prop := H a = some u ∨ ∃ o, H a = some (.frz o u)
theorem Rd.of {H : Hp} {a : Addr} {u : HO} (h : H a = some u) : Rd H a u := .inl h
theorem Rd.ok {P : Program} {w : World} {H : Hp} {h : Heap} {a : Addr} {u : HO} (r : Rd H a u) (x : HOk P w H h) : ObjOk P w H h a u := by
  rcases r with r | ⟨o, r⟩
  · exact x a u r
  · obtain ⟨_, q⟩ := x a _ r
    exact q
def Mut : Option HO → Prop
  | some (.lst _) => True
  | some (.dK _) => True
  | some (.dT _) => True
  | some (.set _ _) => True
  | some (.ins _ _ _) => True
  | some (.ext _) => True
  | _ => False
section
variable {P : Program} {w : World} {H : Hp} {h h' : Heap} {x e : Addr} {o' : HO}
theorem HOk.write (ok : HOk P w H h) (mu : Mut (H x)) (he : e = x ∨ H e = some (.own x)) (k : ∀ b u, b ≠ e → h.get? b = some u → h'.get? b = some u) (heo : ∃ u, h'.get? e = some u)
    (new : ObjOk P w (upd H x o') h' x o') : HOk P w (upd H x o') h' := fun b u q => by
  have nown : ∀ c y, H c = some (.own y) → c ≠ x := fun c y r z => by subst z; rw [r] at mu; exact mu
  have ntup : ∀ c xs, H c = some (.tup xs) → c ≠ x := fun c xs r z => by subst z; rw [r] at mu; exact mu
  by_cases hb : b = x
  · subst hb; rw [upd_same] at q; cases q; exact new
  · rw [upd_ne hb] at q
    by_cases hbe : b = e
    · have q' : H b = some (.own x) := by
        rcases he with z | z
        · exact absurd (hbe.trans z) hb
        · rw [hbe]; exact z
      rw [q] at q'; cases q'
      obtain ⟨v, hv⟩ := heo
      exact ⟨v, by rw [hbe]; exact hv⟩
    · refine (ok b u q).stay (fun c v hc r => k c v ?_ r) (fun c r => by rw [upd_ne (nown c b r)]; exact r) fun c xs r => by rw [upd_ne (ntup c xs r)]; exact r
      rcases hc with rfl | hc
      · exact hbe
      · rintro rfl
        rcases he with z | z
        · exact nown c b hc z
        · rw [hc] at z; cases z; exact hb rfl
end
structure Un (fs ex : List Addr) (H H' : Hp) (h h' : Heap) : Prop where
  keep : ∀ b o, h.get? b = some o → H b = none → b ∉ fs → b ∉ ex → h'.get? b = some o
  slot : ∀ b o, h.get? b = some o → H b = none → b ∈ fs → b ∉ ex → ∃ sl, h'.get? b = some { o with slots := sl }
  free : ∀ b o, h.get? b = some o → H b = none → b ∉ ex → H' b = none
  there : ∀ b o, h.get? b = some o → b ∉ ex → ∃ o', h'.get? b = some o'
  tups : ∀ b xs, H b = some (.tup xs) → H' b = some (.tup xs)
  frzs : ∀ b o u, H b = some (.frz o u) → H' b = some (.frz o u)
  tbls : ∀ b ps, H b = some (.tbl ps) → ∃ more, H' b = some (.tbl (ps ++ more))
section
variable {fs fs' ex ex' : List Addr} {H H1 H2 : Hp} {h h1 h2 h' : Heap} {a x e : Addr} {o : HO}
theorem Un.any (u : Un fs ex H H1 h h1) {b : Addr} {ob : Obj} (q : h.get? b = some ob) (n : H b = none) (hx : b ∉ ex) : ∃ sl, h1.get? b = some { ob with slots := sl } := by
  by_cases hb : b ∈ fs
  · exact u.slot b ob q n hb hx
  · exact ⟨ob.slots, u.keep b ob q n hb hx⟩
theorem Un.trans (a : Un fs ex H H1 h h1) (b : Un fs ex H1 H2 h1 h2) : Un fs ex H H2 h h2 where
  keep := fun c ob q n hc hx => b.keep c ob (a.keep c ob q n hc hx) (a.free c ob q n hx) hc hx
  slot := fun c ob q n hc hx => by
    obtain ⟨sl, e1⟩ := a.slot c ob q n hc hx
    obtain ⟨sl', e2⟩ := b.slot c _ e1 (a.free c ob q n hx) hc hx
    exact ⟨sl', e2⟩
  free := fun c ob q n hx => by
    obtain ⟨o', e1⟩ := a.there c ob q hx
    exact b.free c o' e1 (a.free c ob q n hx) hx
  there := fun c ob q hx => by
    obtain ⟨o', e1⟩ := a.there c ob q hx
    exact b.there c o' e1 hx
  tups := fun c xs q => b.tups c xs (a.tups c xs q)
  frzs := fun c ob xs q => b.frzs c ob xs (a.frzs c ob xs q)
  tbls := fun c ps q => by
    obtain ⟨m1, e1⟩ := a.tbls c ps q
    obtain ⟨m2, e2⟩ := b.tbls c _ e1
    exact ⟨m1 ++ m2, by rw [e2, Array.append_assoc]⟩
theorem Un.kept (k : ∀ b u, h.get? b = some u → h'.get? b = some u) : Un fs ex H H h h' :=
  ⟨fun b ob q _ _ _ => k b ob q, fun b ob q _ _ _ => ⟨ob.slots, k b ob q⟩, fun _ _ _ n _ => n, fun b ob q _ => ⟨ob, k b ob q⟩, fun _ _ q => q, fun _ _ _ q => q, fun _ ps q => ⟨#[], by rw [q]; simp⟩⟩
theorem Un.refl : Un fs ex H H h h := Un.kept fun _ _ q => q
theorem Un.laid (k : ∀ b u, h.get? b = some u → h'.get? b = some u) (hp : h.objs.size ≤ a) (hn : H a = none) : Un fs ex H (upd H a o) h h' where
  keep := fun b u q _ _ _ => k b u q
  slot := fun b u q _ _ _ => ⟨u.slots, k b u q⟩
  free := fun b u q n _ => by rw [upd_ne (Nat.ne_of_lt (Nat.lt_of_lt_of_le (Heap.lt_size q) hp))]; exact n
  there := fun b u q _ => ⟨u, k b u q⟩
  tups := fun b xs q => by rw [upd_ne (ne_of_none q hn)]; exact q
  frzs := fun b u xs q => by rw [upd_ne (ne_of_none q hn)]; exact q
  tbls := fun b ps q => ⟨#[], by rw [upd_ne (ne_of_none q hn), q]; simp⟩
theorem Un.write (mu : Mut (H x)) (he : e = x ∨ H e = some (.own x)) (k : ∀ b u, b ≠ e → h.get? b = some u → h'.get? b = some u) (heo : ∃ u, h'.get? e = some u) : Un fs ex H (upd H x o) h h' := by
  have hx : ∀ b, H b = none → b ≠ x := fun b n z => by subst z; rw [n] at mu; exact mu
  have hb : ∀ b, H b = none → b ≠ e := fun b n z => by
    subst z
    rcases he with r | r
    · exact hx b n r
    · rw [n] at r; cases r
  have hm : ∀ b u, H b = some u → ¬ Mut (some u) → b ≠ x := fun b u q nm z => by subst z; rw [q] at mu; exact nm mu
  refine ⟨fun b u q n _ _ => k b u (hb b n) q, fun b u q n _ _ => ⟨u.slots, k b u (hb b n) q⟩, fun b u q n _ => by rw [upd_ne (hx b n)]; exact n, fun b u q _ => ?_,
    fun b xs q => by rw [upd_ne (hm b _ q fun z => z)]; exact q, fun b u xs q => by rw [upd_ne (hm b _ q fun z => z)]; exact q, fun b ps q => ⟨#[], by rw [upd_ne (hm b _ q fun z => z), q]; simp⟩⟩
  by_cases hbe : b = e
  · subst hbe; exact heo
  · exact ⟨u, k b u hbe q⟩
theorem Un.mono (u : Un fs ex H H1 h h1) (hs : ∀ b ∈ fs, b ∈ fs') (hx : ∀ b ∈ ex, b ∈ ex') : Un fs' ex' H H1 h h1 :=
  ⟨fun b ob q n hb he => u.keep b ob q n (fun z => hb (hs b z)) fun z => he (hx b z), fun _ _ q n _ he => u.any q n fun z => he (hx _ z), fun b ob q n he => u.free b ob q n fun z => he (hx b z), fun b ob q he => u.there b ob q fun z => he (hx b z), u.tups, u.frzs, u.tbls⟩
end
def trk (h : Heap) (H : Hp) : List Addr := (List.range h.objs.size).filter fun a => (H a).isSome
def hidT (h : Heap) (H : Hp) : Heap := PySem.W.hideAll h (trk h H)
theorem hidT_size (h : Heap) (H : Hp) : (hidT h H).objs.size = h.objs.size := PySem.W.hideAll_size _ _
theorem hidT_get {h : Heap} {H : Hp} {b : Addr} {o : Obj} (e : h.get? b = some o) (n : H b = none) : (hidT h H).get? b = some o :=
  PySem.W.hideAll_get _ e fun hm => by
    have q : (H b).isSome = true := (List.mem_filter.mp hm).2
    rw [n] at q; simp at q
theorem of_hidT {h : Heap} {H : Hp} {b : Addr} {o : Obj} (e : (hidT h H).get? b = some o) : h.get? b = some o ∧ H b = none := by
  have e' : h.get? b = some o := PySem.W.of_hideAll (trk h H) e
  refine ⟨e', ?_⟩
  cases q : H b with
  | none => rfl
  | some x =>
    have hm : b ∈ trk h H := List.mem_filter.mpr ⟨List.mem_range.mpr (Heap.lt_size e'), by simp [q]⟩
    have z : (hidT h H).get? b = none := PySem.W.hideAll_none (trk h H) hm
    rw [z] at e; cases e
def allNews (g h : Heap) (L : Addr) : List (Addr × Obj) := (List.range h.objs.size).filterMap fun a => if a = L ∨ (g.get? a).isSome = true then none else (h.get? a).map fun o => (a, o)
def rest (g h : Heap) (L d : Addr) : List (Addr × Obj) := (allNews g h L).filter fun p => decide (p.1 ≠ d)
end L2
namespace L2
open PySem PySem.Spec PyProof.Rows
structure Mod (K : PySem.W.Frag) (mg : Str → Option Value) (base : Heap) : Prop where
  kin : K.In base
  glob : base.Ns mainGlobals mg
  blt : ∃ mb, base.Ns builtinsNs mb ∧ ∀ x : Str, x ≠ "__name__" → mb x = bootBuiltins x
  nolimit : base.NoLimit
structure Cx where
  prog : Program
  w : World
  K : PySem.W.Frag
  mg : Str → Option Value
  base : Heap
  A : Around
  N : List Str
  s₀ : Shared
  H₀ : Hp
  env : Env
  outer : List Env
  stack : List Env
  ex : List Addr
  fn : Str → Bool
  calm : Bool
  pn : List (Addr × Obj)
  xe : Value → Shared → Prop
def frs (l : List Env) : List Addr := l.filterMap (·.frame)
abbrev Cx.fs (X : Cx) : List Addr := frs X.outer
def Vis (sc : Scope) (x : Str) : Prop := sc.names.lookup x = some .local ∨ sc.names.lookup x = some .cell ∨ sc.names.lookup x = some .free
def Loc (sc : Scope) (x : Str) : Prop := sc.names.lookup x = some .local ∨ sc.names.lookup x = some .cell
def Look (env : Env) (h : Heap) (m : Str → Option Value) (x : Str) (u : Value) : Prop :=
  (env.kindOf x = some .local ∧ m x = some u) ∨ ((env.kindOf x = some .cell ∨ env.kindOf x = some .free) ∧ ∃ c, env.cells.lookup x = some c ∧ h.IsCell c (some u))
structure Cx.Ok (X : Cx) : Prop where
  mod : Mod X.K X.mg X.base
  kind : X.env.scope.kind = .function
  glob : X.env.globals = mainGlobals
  blt : X.env.builtins = builtinsNs
  above : X.s₀.heap.objs.size ≤ X.env.locals
  inj : ∀ x y c, X.env.cells.lookup x = some c → X.env.cells.lookup y = some c → x = y
  has : ∀ x, (X.env.kindOf x = some .cell ∨ X.env.kindOf x = some .free) → ∃ c, X.env.cells.lookup x = some c
  cab : ∀ x c, X.fn x = true → X.env.cells.lookup x = some c → X.s₀.heap.objs.size ≤ c
  hd : X.calm = true → X.A.handled = none
  frames : X.A.frames = some X.stack
  stk : X.stack = X.outer ∨ (X.stack = X.env :: X.outer ∧ X.env.frame = some X.env.locals)
  exf : ∀ b ∈ X.ex, b ≠ X.env.locals ∧ ∀ x c, X.env.cells.lookup x = some c → c ≠ b
  bs : ∀ b o, X.base.get? b = some o → X.s₀.heap.get? b = some o ∧ X.H₀ b = none
  bsz : X.base.objs.size ≤ X.s₀.heap.objs.size
  noex : ∀ b o, X.base.get? b = some o → b ∉ X.ex
  exfs : ∀ b ∈ X.ex, b ∉ X.fs
  funs : X.s₀.heap.FunFrames X.base X.outer
  frf : ∀ b ∈ X.fs, X.H₀ b = none
structure Inv (X : Cx) (pins : List (Addr × Obj)) (σ : List (Option V)) (H : Hp) (s : Shared) : Prop where
  ok : X.Ok
  os : s.os = X.s₀.os
  bare : AllBare s.gens
  base : Un X.fs X.ex X.H₀ H X.s₀.heap s.heap
  loc : ∃ m, s.heap.Ns X.env.locals m ∧ ∀ (i : Nat) (x : Str) (v : V), X.N[i]? = some x → σ[i]? = some (some v) → Vis X.env.scope x → ∃ u, RelV v u ∧ Look X.env s.heap m x u
  cell : ∀ x c, X.env.cells.lookup x = some c → ∃ v, s.heap.IsCell c v
  free : H X.env.locals = none
  freeC : ∀ x c, X.env.cells.lookup x = some c → H c = none
  pin : ∀ p ∈ X.pn ++ pins, s.heap.get? p.1 = some p.2 ∧ H p.1 = none ∧ p.1 ≠ X.env.locals ∧ p.1 ∉ X.fs ∧ ∀ v, p.2.data ≠ .cell v
  hok : HOk X.prog X.w H s.heap
  len : σ.length = X.N.length
section
variable {X : Cx} {pins : List (Addr × Obj)} {σ : List (Option V)} {H H' : Hp} {s : Shared} {h' : Heap}
theorem Cx.Ok.nofr (ok : X.Ok) {b : Addr} {o : Obj} (e : X.base.get? b = some o) : b ∉ X.fs := fun hb => by
  have := (ok.funs.mem hb).1
  rw [e] at this; cases this
theorem Inv.bs (I : Inv X pins σ H s) : ∀ b o, X.base.get? b = some o → s.heap.get? b = some o ∧ H b = none := fun b o e =>
  ⟨I.base.keep b o (I.ok.bs b o e).1 (I.ok.bs b o e).2 (I.ok.nofr e) (I.ok.noex b o e), I.base.free b o (I.ok.bs b o e).1 (I.ok.bs b o e).2 (I.ok.noex b o e)⟩
theorem Inv.bk (I : Inv X pins σ H s) : ∀ b o, X.base.get? b = some o → s.heap.get? b = some o := fun b o e => (I.bs b o e).1
theorem Inv.mod (I : Inv X pins σ H s) : Mod X.K X.mg X.base := I.ok.mod
theorem Inv.kIn (I : Inv X pins σ H s) : X.K.In s.heap := I.ok.mod.kin.keeps I.bk
theorem Inv.nolimit (I : Inv X pins σ H s) : s.heap.NoLimit := I.ok.mod.nolimit.keeps I.bk
theorem Inv.lt (I : Inv X pins σ H s) : X.env.locals < s.heap.objs.size := let ⟨_, hn, _⟩ := I.loc; hn.lt
theorem Inv.sz (I : Inv X pins σ H s) : X.s₀.heap.objs.size ≤ s.heap.objs.size := Nat.le_trans I.ok.above (Nat.le_of_lt I.lt)
theorem Inv.nofs (I : Inv X pins σ H s) {a : Addr} (h : s.heap.objs.size ≤ a) : a ∉ X.fs := fun hb => by
  obtain ⟨_, o, ho, _⟩ := I.ok.funs.mem hb
  exact absurd (Nat.lt_of_lt_of_le (Heap.lt_size ho) (Nat.le_trans I.sz h)) (Nat.lt_irrefl _)
theorem Inv.cne (I : Inv X pins σ H s) : ∀ x c, X.env.cells.lookup x = some c → c ≠ X.env.locals := fun x c e z => by
  obtain ⟨v, o, ho, hd⟩ := I.cell x c e
  obtain ⟨m, ⟨o', es, ep, ho', hd', _⟩, _⟩ := I.loc
  rw [z, ho'] at ho; cases ho; rw [hd'] at hd; cases hd
theorem Inv.funs (I : Inv X pins σ H s) : s.heap.FunFrames X.base X.outer := by
  have all : ∀ (l : List Env), (∀ b ∈ frs l, b ∈ X.fs) → X.s₀.heap.FunFrames X.base l → s.heap.FunFrames X.base l := by
    intro l
    induction l with
    | nil => intro _ _; trivial
    | cons env r ih =>
      intro hs hl
      obtain ⟨hk, ⟨L, o, hf, hn, ho, hd⟩, hr⟩ := hl
      have hL : L ∈ X.fs := hs L (by unfold frs; rw [List.filterMap_cons, hf]; exact List.mem_cons_self)
      obtain ⟨sl, e⟩ := I.base.slot L o ho (I.ok.frf L hL) hL fun z => I.ok.exfs L z hL
      exact ⟨hk, ⟨L, _, hf, hn, e, hd⟩, ih (fun b hb => hs b (by unfold frs; rw [List.filterMap_cons, hf]; exact List.mem_cons_of_mem _ hb)) hr⟩
  exact all X.outer (fun _ hb => hb) I.ok.funs
theorem Inv.stack (I : Inv X pins σ H s) : s.heap.FunFrames X.base X.stack := by
  rcases I.ok.stk with e | ⟨e, hf⟩
  · rw [e]; exact I.funs
  · rw [e]
    obtain ⟨m, hn, _⟩ := I.loc
    refine .cons (by rw [I.ok.kind]; decide) hf hn ?_ I.funs
    exact Heap.get?_none_of_le (Nat.le_trans I.ok.bsz I.ok.above)
theorem Inv.stkSub (I : Inv X pins σ H s) : ∀ b ∈ frs X.stack, b ∈ X.env.locals :: X.fs := fun b hb => by
  rcases I.ok.stk with e | ⟨e, hf⟩
  · rw [e] at hb; exact List.mem_cons_of_mem _ hb
  · rw [e] at hb
    unfold frs at hb
    rw [List.filterMap_cons, hf] at hb
    exact hb
theorem Inv.stkFree (I : Inv X pins σ H s) : ∀ b ∈ frs X.stack, H b = none := fun b hb => by
  rcases List.mem_cons.mp (I.stkSub b hb) with e | hb
  · rw [e]; exact I.free
  · obtain ⟨_, o, ho, _⟩ := I.ok.funs.mem hb
    exact I.base.free b o ho (I.ok.frf b hb) fun z => I.ok.exfs b z hb
theorem Inv.step {g' : Array GenState} {t' : Nat} {d' : Drawn} {ch : List Addr} (I : Inv X pins σ H s)
    (hch : ∀ b ∈ ch, (b ∈ X.ex ∨ X.s₀.heap.objs.size ≤ b) ∧ b ≠ X.env.locals ∧ (∀ x c, X.env.cells.lookup x = some c → c ≠ b) ∧ ∀ p ∈ X.pn ++ pins, p.1 ≠ b)
    (keep : ∀ b o, b ≠ X.env.locals → b ∉ X.fs → b ∉ ch → s.heap.get? b = some o → H b = none → h'.get? b = some o)
    (slot : ∀ b o, b ≠ X.env.locals → b ∈ X.fs → b ∉ ch → s.heap.get? b = some o → H b = none → ∃ sl, h'.get? b = some { o with slots := sl }) (free : ∀ b o, b ∉ ch → s.heap.get? b = some o → H b = none → H' b = none)
    (there : ∀ b o, b ∉ ch → s.heap.get? b = some o → ∃ o', h'.get? b = some o')
    (tups : ∀ b xs, H b = some (.tup xs) → H' b = some (.tup xs)) (frzs : ∀ b o u, H b = some (.frz o u) → H' b = some (.frz o u)) (tbls : ∀ b ps, H b = some (.tbl ps) → ∃ more, H' b = some (.tbl (ps ++ more)))
    (ns : ∀ m, s.heap.Ns X.env.locals m → h'.Ns X.env.locals m) (hok : HOk X.prog X.w H' h') (hg : AllBare g') :
    Inv X pins σ H' { s with heap := h', gens := g', drawn := d', toks := t' } := by
  have neL : ∀ b o, X.s₀.heap.get? b = some o → b ≠ X.env.locals := fun b o e => Nat.ne_of_lt (Nat.lt_of_lt_of_le (Heap.lt_size e) I.ok.above)
  have neC : ∀ b o, X.s₀.heap.get? b = some o → b ∉ X.ex → b ∉ ch := fun b o e hx hb => by
    rcases (hch b hb).1 with z | z
    · exact hx z
    · exact absurd (Nat.lt_of_lt_of_le (Heap.lt_size e) z) (Nat.lt_irrefl _)
  have cellK : ∀ x c, X.env.cells.lookup x = some c → ∀ v, s.heap.IsCell c v → h'.IsCell c v := fun x c e v ⟨o, ho, hd⟩ => by
    have nch : c ∉ ch := fun z => (hch c z).2.2.1 x c e rfl
    by_cases hc : c ∈ X.fs
    · obtain ⟨sl, q⟩ := slot c o (I.cne x c e) hc nch ho (I.freeC x c e)
      exact ⟨_, q, hd⟩
    · exact ⟨o, keep c o (I.cne x c e) hc nch ho (I.freeC x c e), hd⟩
  refine ⟨I.ok, I.os, hg, ⟨fun b o e n hb hx => ?_, fun b o e n hb hx => ?_, fun b o e n hx => ?_, fun b o e hx => ?_, fun b xs e => tups b xs (I.base.tups b xs e), fun b o xs e => frzs b o xs (I.base.frzs b o xs e), fun b ps e => ?_⟩, ?_, fun x c e => ?_, ?_, fun x c e => ?_, fun p hp => ?_, hok, I.len⟩
  · exact keep b o (neL b o e) hb (neC b o e hx) (I.base.keep b o e n hb hx) (I.base.free b o e n hx)
  · obtain ⟨sl, e1⟩ := I.base.slot b o e n hb hx
    obtain ⟨sl', e2⟩ := slot b _ (neL b o e) hb (neC b o e hx) e1 (I.base.free b o e n hx)
    exact ⟨sl', e2⟩
  · obtain ⟨o', e1⟩ := I.base.there b o e hx
    exact free b o' (neC b o e hx) e1 (I.base.free b o e n hx)
  · obtain ⟨o', e1⟩ := I.base.there b o e hx
    exact there b o' (neC b o e hx) e1
  · obtain ⟨m1, e1⟩ := I.base.tbls b ps e
    obtain ⟨m2, e2⟩ := tbls b _ e1
    exact ⟨m1 ++ m2, by rw [e2, Array.append_assoc]⟩
  · obtain ⟨m, hn, hl⟩ := I.loc
    refine ⟨m, ns m hn, fun i x v e1 e2 e3 => ?_⟩
    obtain ⟨u, r, l⟩ := hl i x v e1 e2 e3
    refine ⟨u, r, ?_⟩
    rcases l with l | ⟨k, c, e, z⟩
    · exact .inl l
    · exact .inr ⟨k, c, e, cellK x c e _ z⟩
  · obtain ⟨v, z⟩ := I.cell x c e
    exact ⟨v, cellK x c e v z⟩
  · obtain ⟨m, ⟨o, _, _, ho, _⟩, _⟩ := I.loc
    exact free _ o (fun z => (hch _ z).2.1 rfl) ho I.free
  · obtain ⟨v, o, ho, hd⟩ := I.cell x c e
    exact free c o (fun z => (hch c z).2.2.1 x c e rfl) ho (I.freeC x c e)
  · obtain ⟨e, n, ne, nf, d⟩ := I.pin p hp
    have nch : p.1 ∉ ch := fun z => (hch p.1 z).2.2.2 p hp rfl
    exact ⟨keep p.1 p.2 ne nf nch e n, free p.1 p.2 nch e n, ne, nf, d⟩
theorem Inv.un {t' : Nat} (I : Inv X pins σ H s) (u : Un X.fs [] H H' s.heap h') (hok : HOk X.prog X.w H' h') : Inv X pins σ H' { s with heap := h', toks := t' } := by
  obtain ⟨m, ⟨o, es, ep, ho, r⟩, _⟩ := id I.loc
  obtain ⟨sl, hL⟩ := u.any ho I.free (by simp)
  exact I.step (g' := s.gens) (d' := s.drawn) (ch := []) (fun _ z => nomatch z) (fun b o _ hb _ e n => u.keep b o e n hb (by simp)) (fun b o _ hb _ e n => u.slot b o e n hb (by simp)) (fun b o _ e n => u.free b o e n (by simp)) (fun b o _ e => u.there b o e (by simp)) u.tups u.frzs u.tbls (fun m' hm => by
    obtain ⟨o', es', ep', ho', r'⟩ := hm
    rw [ho] at ho'; cases ho'
    exact ⟨_, es', ep', hL, r'⟩) hok I.bare
theorem Inv.call {g' : Array GenState} {t' : Nat} {d' : Drawn} {ch : List Addr} (I : Inv X pins σ H s) (u : Un (frs X.stack) ch H H' s.heap h') (hok : HOk X.prog X.w H' h') (hg : AllBare g')
    (hch : ∀ b ∈ ch, (b ∈ X.ex ∨ X.s₀.heap.objs.size ≤ b) ∧ b ≠ X.env.locals ∧ (∀ x c, X.env.cells.lookup x = some c → c ≠ b) ∧ ∀ p ∈ X.pn ++ pins, p.1 ≠ b) :
    Inv X pins σ H' { s with heap := h', gens := g', drawn := d', toks := t' } := by
  obtain ⟨m, ⟨o, es, ep, ho, r⟩, _⟩ := id I.loc
  obtain ⟨sl, hL⟩ := u.any ho I.free fun z => (hch _ z).2.1 rfl
  exact I.step (ch := ch) hch (fun b o hL hb hc e n => u.keep b o e n (fun z => (List.mem_cons.mp (I.stkSub b z)).elim hL hb) hc) (fun b o _ _ hc e n => u.any e n hc) (fun b o hc e n => u.free b o e n hc) (fun b o hc e => u.there b o e hc) u.tups u.frzs u.tbls (fun m' hm => by
    obtain ⟨o', es', ep', ho', r'⟩ := hm
    rw [ho] at ho'; cases ho'
    exact ⟨_, es', ep', hL, r'⟩) hok hg
theorem Inv.turned {t' : Nat} {it : Addr} (I : Inv X pins σ H s) (k : ∀ b o, b ≠ it → s.heap.get? b = some o → h'.get? b = some o) (hn : H it = none) (hL : it ≠ X.env.locals)
    (h1 : it ∈ X.ex ∨ X.s₀.heap.objs.size ≤ it) (h2 : ∀ x c, X.env.cells.lookup x = some c → c ≠ it) (h3 : ∀ p ∈ X.pn ++ pins, p.1 ≠ it) : Inv X pins σ H { s with heap := h', toks := t' } := by
  have nit : ∀ b u, H b = some u → b ≠ it := fun b u e z => by rw [z, hn] at e; cases e
  refine I.step (g' := s.gens) (d' := s.drawn) (ch := [it]) (fun b hb => ?_) (fun b o _ _ hc e _ => k b o (fun z => hc (by simp [z])) e) (fun b o _ _ hc e _ => ⟨o.slots, k b o (fun z => hc (by simp [z])) e⟩) (fun _ _ _ _ n => n)
    (fun b o hc e => ⟨o, k b o (fun z => hc (by simp [z])) e⟩) (fun _ _ e => e) (fun _ _ _ e => e) (fun b ps e => ⟨#[], by rw [e]; simp⟩) (fun m hm => ?_) (fun b u e => ?_) I.bare
  · have e : b = it := by simpa using hb
    subst e
    exact ⟨h1, hL, h2, h3⟩
  · obtain ⟨o, es, ep, ho, r⟩ := hm
    exact ⟨o, es, ep, k _ o (Ne.symm hL) ho, r⟩
  · refine (I.hok b u e).stay (fun c v hc q => k c v ?_ q) (fun _ q => q) fun _ _ q => q
    rcases hc with z | z
    · rw [z]; exact nit b u e
    · exact nit c _ z
theorem Inv.tok (I : Inv X pins σ H s) (t : Nat) : Inv X pins σ H { s with toks := t } := I.un (h' := s.heap) (t' := t) Un.refl I.hok
theorem Inv.kept {t' : Nat} (I : Inv X pins σ H s) (k : ∀ b u, s.heap.get? b = some u → h'.get? b = some u) : Inv X pins σ H { s with heap := h', toks := t' } := I.un (Un.kept k) (I.hok.kept k)
theorem Inv.laid {a : Addr} {o : HO} {t' : Nat} (I : Inv X pins σ H s) (k : ∀ b u, s.heap.get? b = some u → h'.get? b = some u) (hp : s.heap.objs.size ≤ a) (new : ObjOk X.prog X.w (upd H a o) h' a o) :
    Inv X pins σ (upd H a o) { s with heap := h', toks := t' } := I.un (Un.laid k hp (I.hok.fresh hp)) (I.hok.laid k hp new)
theorem Inv.write {x e : Addr} {o : HO} {t' : Nat} (I : Inv X pins σ H s) (mu : Mut (H x)) (he : e = x ∨ H e = some (.own x)) (k : ∀ b u, b ≠ e → s.heap.get? b = some u → h'.get? b = some u) (heo : ∃ u, h'.get? e = some u)
    (new : ObjOk X.prog X.w (upd H x o) h' x o) : Inv X pins σ (upd H x o) { s with heap := h', toks := t' } := I.un (Un.write mu he k heo) (I.hok.write mu he k heo new)
theorem Inv.pins_of {pins' : List (Addr × Obj)} (I : Inv X pins σ H s) (h : ∀ p ∈ pins', s.heap.get? p.1 = some p.2 ∧ H p.1 = none ∧ p.1 ≠ X.env.locals ∧ p.1 ∉ X.fs ∧ ∀ v, p.2.data ≠ .cell v) : Inv X pins' σ H s :=
  ⟨I.ok, I.os, I.bare, I.base, I.loc, I.cell, I.free, I.freeC, fun p hp => (List.mem_append.mp hp).elim (fun z => I.pin p (List.mem_append_left _ z)) (h p), I.hok, I.len⟩
theorem nodup_ix {N : List Str} (hN : N.Nodup) {i j : Nat} {x : Str} (a : N[i]? = some x) (b : N[j]? = some x) : i = j := by
  obtain ⟨h1, e1⟩ := List.getElem?_eq_some_iff.mp a
  obtain ⟨h2, e2⟩ := List.getElem?_eq_some_iff.mp b
  exact (List.getElem_inj hN).mp (e1.trans e2.symm)
theorem store_ok2 {M : Model} {A : Around} {E : Value → Shared → Prop} {i : Nat} {x : Str} {v : V} {u : Value} {Q : Unit → Shared → Prop} (I : Inv X pins σ H s) (hN : X.N.Nodup) (hi : X.N[i]? = some x) (hx : Loc X.env.scope x) (r : RelV v u)
    (h : ∀ s', Inv X pins (σ.set i (some v)) H s' → (∃ a, Heap.SameBut a s.heap s'.heap ∧ (a = X.env.locals ∨ X.env.cells.lookup x = some a)) → Q () s') (hf : X.fn x = true ∨ X.env.scope.names.lookup x = some .local := by first | exact .inl rfl | exact .inr rfl | assumption) : wpAny M A (storeName X.env x u) Q E s := by
  obtain ⟨m, hn, hl⟩ := id I.loc
  have hcls : (X.env.scope.kind == .class || (X.env.scope.kind == .module && X.env.locals != X.env.globals)) = false := by rw [I.ok.kind]; rfl
  have hiσ : i < σ.length := by rw [I.len]; exact (List.getElem?_eq_some_iff.mp hi).1
  have cne := I.cne
  have tracked : ∀ {a : Addr} {h' : Heap}, (∃ o, s.heap.get? a = some o ∧ H a = none) → Heap.SameBut a s.heap h' → HOk X.prog X.w H h' := fun {a h'} ha hs b ob e => by
    obtain ⟨_, _, hfree⟩ := ha
    refine (I.hok b ob e).stay (fun c w' hc q => (hs.2 c ?_).trans q) (fun _ q => q) fun _ _ q => q
    rintro rfl
    rcases hc with rfl | hc
    · rw [hfree] at e; cases e
    · rw [hfree] at hc; cases hc
  rcases hx with hk | hk
  · refine wpAny_storeName_local hk hn (fun h' hn' hs => ?_) hcls
    obtain ⟨oL, _, _, hoL, _⟩ := id hn
    refine h _ ⟨I.ok, I.os, I.bare, ⟨fun b o e n hb hx => ?_, fun b o e n hb hx => ?_, I.base.free, fun b o e hx => ?_, I.base.tups, I.base.frzs, I.base.tbls⟩, ⟨_, hn', fun j y v' e1 e2 e3 => ?_⟩, fun y c e => ?_, I.free, I.freeC, fun p hp => ?_, tracked ⟨oL, hoL, I.free⟩ hs, by simpa using I.len⟩ ⟨_, hs, .inl rfl⟩
    · exact (hs.2 b (Nat.ne_of_lt (Nat.lt_of_lt_of_le (Heap.lt_size e) I.ok.above))).trans (I.base.keep b o e n hb hx)
    · obtain ⟨sl, e1⟩ := I.base.slot b o e n hb hx
      exact ⟨sl, (hs.2 b (Nat.ne_of_lt (Nat.lt_of_lt_of_le (Heap.lt_size e) I.ok.above))).trans e1⟩
    · obtain ⟨o', e1⟩ := I.base.there b o e hx
      exact ⟨o', (hs.2 b (Nat.ne_of_lt (Nat.lt_of_lt_of_le (Heap.lt_size e) I.ok.above))).trans e1⟩
    · by_cases hj : j = i
      · subst hj
        rw [hi] at e1; cases e1
        rw [List.getElem?_set_self hiσ] at e2
        cases e2
        exact ⟨u, r, .inl ⟨hk, by simp⟩⟩
      · rw [List.getElem?_set_ne (Ne.symm hj)] at e2
        obtain ⟨u', r', q⟩ := hl j y v' e1 e2 e3
        refine ⟨u', r', ?_⟩
        rcases q with ⟨k, e⟩ | ⟨k, c, e, z⟩
        · refine .inl ⟨k, ?_⟩
          have : y ≠ x := fun e => hj (nodup_ix hN e1 (e ▸ hi))
          simp [this, e]
        · exact .inr ⟨k, c, e, z.sameBut hs (cne y c e)⟩
    · obtain ⟨w', z⟩ := I.cell y c e
      exact ⟨w', z.sameBut hs (cne y c e)⟩
    · obtain ⟨e, n, ne, nf, d⟩ := I.pin p hp
      exact ⟨(hs.2 p.1 ne).trans e, n, ne, nf, d⟩
  · have hfn : X.fn x = true := by
      rcases hf with z | z
      · exact z
      · rw [z] at hk; cases hk
    obtain ⟨c, hc⟩ := I.ok.has x (.inl hk)
    obtain ⟨w', z⟩ := I.cell x c hc
    refine wpAny_storeName_cell I.ok.kind hk hc z (fun h' hc' hs => ?_)
    obtain ⟨oc, hoc, hocd⟩ := id z
    refine h { s with heap := h' } ⟨I.ok, I.os, I.bare, ⟨fun b o e n hb hx => ?_, fun b o e n hb hx => ?_, I.base.free, fun b o e hx => ?_, I.base.tups, I.base.frzs, I.base.tbls⟩, ⟨m, hn.sameBut hs (Ne.symm (cne x c hc)), fun j y v' e1 e2 e3 => ?_⟩, fun y c' e => ?_, I.free, I.freeC, fun p hp => ?_, tracked ⟨oc, hoc, I.freeC x c hc⟩ hs, by simpa using I.len⟩ ⟨c, hs, .inr hc⟩
    · exact (hs.2 b (Nat.ne_of_lt (Nat.lt_of_lt_of_le (Heap.lt_size e) (I.ok.cab x c hfn hc)))).trans (I.base.keep b o e n hb hx)
    · obtain ⟨sl, e1⟩ := I.base.slot b o e n hb hx
      exact ⟨sl, (hs.2 b (Nat.ne_of_lt (Nat.lt_of_lt_of_le (Heap.lt_size e) (I.ok.cab x c hfn hc)))).trans e1⟩
    · obtain ⟨o', e1⟩ := I.base.there b o e hx
      exact ⟨o', (hs.2 b (Nat.ne_of_lt (Nat.lt_of_lt_of_le (Heap.lt_size e) (I.ok.cab x c hfn hc)))).trans e1⟩
    · by_cases hj : j = i
      · subst hj
        rw [hi] at e1; cases e1
        rw [List.getElem?_set_self hiσ] at e2
        cases e2
        exact ⟨u, r, .inr ⟨.inl hk, c, hc, hc'⟩⟩
      · rw [List.getElem?_set_ne (Ne.symm hj)] at e2
        obtain ⟨u', r', q⟩ := hl j y v' e1 e2 e3
        refine ⟨u', r', ?_⟩
        rcases q with q | ⟨k, c', e, z'⟩
        · exact .inl q
        · refine .inr ⟨k, c', e, z'.sameBut hs ?_⟩
          rintro rfl
          exact hj (nodup_ix hN e1 (I.ok.inj _ _ _ e hc ▸ hi))
    · by_cases hcc : c' = c
      · subst hcc; exact ⟨_, hc'⟩
      · obtain ⟨w2, z2⟩ := I.cell y c' e
        exact ⟨w2, z2.sameBut hs hcc⟩
    · obtain ⟨e, n, ne, nf, d⟩ := I.pin p hp
      refine ⟨(hs.2 p.1 ?_).trans e, n, ne, nf, d⟩
      intro q
      rw [q, hoc] at e
      have q' : oc = p.2 := Option.some.inj e
      exact d w' (by rw [← q']; exact hocd)
theorem store_ok {M : Model} {A : Around} {E : Value → Shared → Prop} {i : Nat} {x : Str} {v : V} {u : Value} {Q : Unit → Shared → Prop} (I : Inv X pins σ H s) (hN : X.N.Nodup) (hi : X.N[i]? = some x) (hx : Loc X.env.scope x) (r : RelV v u)
    (h : ∀ s', Inv X pins (σ.set i (some v)) H s' → Q () s') (hf : X.fn x = true ∨ X.env.scope.names.lookup x = some .local := by first | exact .inl rfl | exact .inr rfl | assumption) : wpAny M A (storeName X.env x u) Q E s :=
  store_ok2 I hN hi hx r (fun s' I' _ => h s' I') hf
theorem Inv.call' {s' : Shared} {ch : List Addr} (I : Inv X pins σ H s) (ho : s'.os = s.os) (u : Un (frs X.stack) ch H H' s.heap s'.heap) (hok : HOk X.prog X.w H' s'.heap) (hg : AllBare s'.gens)
    (hch : ∀ b ∈ ch, (b ∈ X.ex ∨ X.s₀.heap.objs.size ≤ b) ∧ b ≠ X.env.locals ∧ (∀ x c, X.env.cells.lookup x = some c → c ≠ b) ∧ ∀ p ∈ X.pn ++ pins, p.1 ≠ b) : Inv X pins σ H' s' := by
  obtain ⟨h', g', d', t', o'⟩ := s'
  have e : o' = s.os := ho
  subst e
  exact I.call (g' := g') (t' := t') (d' := d') u hok hg hch
end
abbrev XK := Value → Option Addr → Hp → Prop
abbrev St := List (Option V)
abbrev VK := V → Hp → Prop
abbrev TE := St → Hp → VK → Prop
abbrev TT := St → Hp → (Bool → Hp → Prop) → Prop
abbrev TA := St → Hp → (List V → Hp → Prop) → Prop
structure Ends where
  nx : St → Hp → Prop
  rt : VK
  bk : St → Hp → Prop := fun _ _ => False
  ct : St → Hp → Prop := fun _ _ => False
abbrev TS := Ends → St → Hp → Prop
def EP (X : Cx) (pins : List (Addr × Obj)) (σ : St) (Q : VK) (u : Value) (s' : Shared) : Prop := ∃ v H', Inv X pins σ H' s' ∧ RelV v u ∧ Q v H'
def TP (X : Cx) (pins : List (Addr × Obj)) (σ : St) (Q : Bool → Hp → Prop) (b : Bool) (s' : Shared) : Prop := ∃ H', Inv X pins σ H' s' ∧ Q b H'
def AP (X : Cx) (pins : List (Addr × Obj)) (σ : St) (Q : List V → Hp → Prop) (us : List Value) (s' : Shared) : Prop := ∃ vs H', Inv X pins σ H' s' ∧ Vals vs us ∧ Q vs H'
def SP (X : Cx) (pins : List (Addr × Obj)) (D : Ends) (f : Flow) (s' : Shared) : Prop :=
  match f with
  | .next => ∃ σ' H', Inv X pins σ' H' s' ∧ D.nx σ' H'
  | .brk => ∃ σ' H', Inv X pins σ' H' s' ∧ D.bk σ' H'
  | .cont => ∃ σ' H', Inv X pins σ' H' s' ∧ D.ct σ' H'
  | .ret u => ∃ v σ' H', Inv X pins σ' H' s' ∧ RelV v u ∧ D.rt v H'
def PE (X : Cx) (e : Expr) (t : TE) : Prop :=
  ∀ (pins : List (Addr × Obj)) (s : Shared) (σ : St) (H : Hp) (Q : VK), Inv X pins σ H s → t σ H Q → wpAny (model X.prog X.w) X.A (eval e X.env) (EP X pins σ Q) X.xe s
def PT (X : Cx) (e : Expr) (t : TT) : Prop :=
  ∀ (pins : List (Addr × Obj)) (s : Shared) (σ : St) (H : Hp) (Q : Bool → Hp → Prop), Inv X pins σ H s → t σ H Q → wpAny (model X.prog X.w) X.A (isTrue e X.env (eval e X.env)) (TP X pins σ Q) X.xe s
def PW (X : Cx) (e : Expr) (t : TT) : Prop :=
  ∀ (whole : Sem Value) (pins : List (Addr × Obj)) (s : Shared) (σ : St) (H : Hp) (Q : Bool → Hp → Prop), Inv X pins σ H s → t σ H Q → wpAny (model X.prog X.w) X.A (isTrue e X.env whole) (TP X pins σ Q) X.xe s
theorem PW.pt {X : Cx} {e : Expr} {t : TT} (h : PW X e t) : PT X e t := h _
def PA (X : Cx) (es : List Expr) (t : TA) : Prop :=
  ∀ (pos : Pos) (pins : List (Addr × Obj)) (s : Shared) (σ : St) (H : Hp) (Q : List V → Hp → Prop), Inv X pins σ H s → t σ H Q → wpAny (model X.prog X.w) X.A (spliced (backTo pos (starEach es X.env))) (AP X pins σ Q) X.xe s
def PS (X : Cx) (st : Stmt) (t : TS) : Prop :=
  ∀ (pins : List (Addr × Obj)) (s : Shared) (σ : St) (H : Hp) (D : Ends), Inv X pins σ H s → t D σ H → wpAny (model X.prog X.w) X.A (exec st X.env) (SP X pins D) X.xe s
def PSs (X : Cx) (st : List Stmt) (t : TS) : Prop :=
  ∀ (pins : List (Addr × Obj)) (s : Shared) (σ : St) (H : Hp) (D : Ends), Inv X pins σ H s → t D σ H → wpAny (model X.prog X.w) X.A (execs st X.env) (SP X pins D) X.xe s
theorem thn {α : Type} {t : Sem α} {Q Q' : α → Shared → Prop} {M : Model} {A : Around} {E : Value → Shared → Prop} {s : Shared} (h : wpAny M A t Q E s) (hQ : ∀ a s, Q a s → Q' a s) : wpAny M A t Q' E s := wpAny_mono h hQ fun _ _ x => x
end L2
namespace L2
open PySem PySem.Spec PyProof.Rows
section
variable {X : Cx}
def tVar (i : Nat) : TE := fun σ H Q => ∃ v, σ[i]? = some (some v) ∧ Q v H
def tC (v : V) : TE := fun _ H Q => Q v H
theorem pe_var {i : Nat} {x : Str} {pos : Pos} (hN : X.N[i]? = some x) (hv : Vis X.env.scope x) (hd : (x == ("__debug__" : Str)) = false := by decide) (hcd : (x == ("__classdict__" : Str)) = false := by decide) : PE X (.Name x pos) (tVar i) := by
  intro pins s σ H Q I h
  obtain ⟨v, e, h⟩ := h
  obtain ⟨m, hn, hl⟩ := I.loc
  obtain ⟨u, r, l⟩ := hl i x v hN e hv
  have fin : EP X pins σ Q u s := ⟨v, H, I, r, h⟩
  rcases l with ⟨hk, hm⟩ | ⟨hk, c, hc, hcell⟩
  · exact wpAny_Name (wpAny_loadName_local I.ok.kind hk hn hm fin) hd
  · rcases hk with hk | hk
    · exact wpAny_Name (wpAny_loadName_cell I.ok.kind hk hc hcell fin) hd
    · exact wpAny_Name (wpAny_loadName_free I.ok.kind hk hc hcell fin hcd) hd
theorem pe_int {i j pos} : PE X (.Constant (.int i) j pos) (tC (.int i)) := fun _ _ _ H _ I h => wpAny_Constant_int ⟨.int i, H, I.tok _, ⟨_, rfl⟩, h⟩
theorem pe_bl {b j pos} : PE X (.Constant (.bool b) j pos) (tC (.bl b)) := fun _ _ _ H _ I h => Constant_bool ⟨.bl b, H, I, rfl, h⟩
theorem pe_str {x j pos} : PE X (.Constant (.str x) j pos) (tC (.str x)) := fun _ _ _ H _ I h => Calls.Constant_str ⟨.str x, H, I.tok _, ⟨_, rfl⟩, h⟩
def Gl (X : Cx) (x : Str) : Prop := X.env.kindOf x = some .globalImplicit
theorem ld_glob {E : Value → Shared → Prop} {pins : List (Addr × Obj)} {s : Shared} {σ : St} {H : Hp} {x : Str} {u : Value} {pos : Pos} {Q : Value → Shared → Prop} (I : Inv X pins σ H s) (hg : Gl X x) (hm : X.mg x = some u) (h : Q u s)
    (hd : (x == ("__debug__" : Str)) = false := by decide) : wpAny (model X.prog X.w) X.A (eval (.Name x pos) X.env) Q E s :=
  Calls.Name_function_global I.ok.kind hg (Calls.loadGlobal_global (by rw [I.ok.glob]; exact I.mod.glob.keeps I.bk) hm h) hd
theorem ld_blt {E : Value → Shared → Prop} {pins : List (Addr × Obj)} {s : Shared} {σ : St} {H : Hp} {x : Str} {u : Value} {pos : Pos} {Q : Value → Shared → Prop} (I : Inv X pins σ H s) (hg : Gl X x) (hm : X.mg x = none) (hv : bootBuiltins x = some u) (h : Q u s)
    (hn : x ≠ "__name__" := by decide) (hd : (x == ("__debug__" : Str)) = false := by decide) : wpAny (model X.prog X.w) X.A (eval (.Name x pos) X.env) Q E s := by
  obtain ⟨mb, h1, h2⟩ := I.mod.blt
  exact Calls.Name_function_global I.ok.kind hg (Calls.loadGlobal_builtin (by rw [I.ok.glob]; exact I.mod.glob.keeps I.bk) hm (by rw [I.ok.blt]; exact h1.keeps I.bk) ((h2 x hn).trans hv) h) hd
theorem pe_bltn {x : Str} {v : V} {u : Value} {pos : Pos} (hg : Gl X x) (hm : X.mg x = none) (hv : bootBuiltins x = some u) (r : RelV v u) (hn : x ≠ "__name__" := by decide) (hd : (x == ("__debug__" : Str)) = false := by decide) : PE X (.Name x pos) (tC v) :=
  fun _ _ _ H _ I h => ld_blt I hg hm hv ⟨v, H, I, r, h⟩ hn hd
variable {a b : Expr} {ta tb : TE} {pos : Pos}
def PC (X : Cx) (op : CmpOp) (a b : Expr) (t : TE) : Prop :=
  ∀ (pins : List (Addr × Obj)) (s : Shared) (σ : St) (H : Hp) (Q : VK), Inv X pins σ H s → t σ H Q →
    wpAny (model X.prog X.w) X.A (eval a X.env) (fun v s₁ => wpAny (model X.prog X.w) X.A (eval b X.env) (fun u s₂ => wpAny (model X.prog X.w) X.A (compareOp op v u) (EP X pins σ Q) X.xe s₂) X.xe s₁) X.xe s
theorem nobehind (b : Expr) {op : CmpOp} (h : op ≠ .In) (h2 : op ≠ .NotIn) : behindInMarks op b = false := by
  have e1 : (op == CmpOp.In) = false := by cases op <;> first | rfl | exact absurd rfl h
  have e2 : (op == CmpOp.NotIn) = false := by cases op <;> first | rfl | exact absurd rfl h2
  cases b <;> simp [behindInMarks, e1, e2]
def tB (t : TE) : TT := fun σ H Q => t σ H fun x H1 => ∃ c, x = .bl c ∧ Q c H1
theorem pt_cmp {op : CmpOp} {t : TE} (h : PC X op a b t) (h1 : behindInMarks op b = false := by first | exact nobehind _ (by decide) (by decide) | rfl) : PT X (.Compare a [op] [b] pos) (tB t) := by
  intro pins s σ H Q I hw
  refine wpAny_isTrue_Compare1 (thn (h pins s σ H _ I hw) fun v s1 h1 => thn h1 fun u s2 h2 => thn h2 fun c s3 ⟨x, H1, I1, r1, q1⟩ => ?_) h1
  obtain ⟨d, rfl, q⟩ := q1
  cases r1
  exact wpAny_truthy_bool ⟨H1, I1, q⟩
variable {tA tB' : TT} {rest : List Expr}
def tAnd (t u : TT) : TT := fun σ H Q => t σ H fun c H1 => if c = true then u σ H1 Q else Q false H1
def tOr (t u : TT) : TT := fun σ H Q => t σ H fun c H1 => if c = true then Q true H1 else u σ H1 Q
def tNot (t : TT) : TT := fun σ H Q => t σ H fun c H1 => Q (!c) H1
theorem pw_and1 (ha : PT X a tA) : PW X (.BoolOp .And [a] pos) tA := by
  intro wh pins s σ H Q I h
  refine isTrue_and (thn (ha pins s σ H Q I h) fun c s1 e => ?_)
  cases c with
  | true => exact isTrue_and_nil e
  | false => exact e
theorem pw_or1 (ha : PT X a tA) : PW X (.BoolOp .Or [a] pos) tA := by
  intro wh pins s σ H Q I h
  refine isTrue_or (thn (ha pins s σ H Q I h) fun c s1 e => ?_)
  cases c with
  | false => exact isTrue_or_nil e
  | true => exact e
theorem pw_and (ha : PT X a tA) (hb : PW X (.BoolOp .And (b :: rest) pos) tB') : PW X (.BoolOp .And (a :: b :: rest) pos) (tAnd tA tB') := by
  intro wh pins s σ H Q I h
  refine isTrue_and (thn (ha pins s σ H _ I h) fun c s1 ⟨H1, I1, q1⟩ => ?_)
  cases c with
  | true => exact hb wh pins s1 σ H1 Q I1 q1
  | false => exact ⟨H1, I1, q1⟩
theorem pw_or (ha : PT X a tA) (hb : PW X (.BoolOp .Or (b :: rest) pos) tB') : PW X (.BoolOp .Or (a :: b :: rest) pos) (tOr tA tB') := by
  intro wh pins s σ H Q I h
  refine isTrue_or (thn (ha pins s σ H _ I h) fun c s1 ⟨H1, I1, q1⟩ => ?_)
  cases c with
  | true => exact ⟨H1, I1, q1⟩
  | false => exact hb wh pins s1 σ H1 Q I1 q1
theorem pt_not (ha : PT X a tA) : PT X (.UnaryOp .Not a pos) (tNot tA) := by
  intro pins s σ H Q I h
  exact isTrue_not (ha pins s σ H (fun c H1 => Q (!c) H1) I h)
def tAndV (ta tb : TE) : TE := fun σ H Q => ta σ H fun x H1 => ∃ c, x = .bl c ∧ if c = true then tb σ H1 Q else Q (.bl false) H1
def tOrV (ta tb : TE) : TE := fun σ H Q => ta σ H fun x H1 => ∃ c, x = .bl c ∧ if c = true then Q (.bl true) H1 else tb σ H1 Q
def tNotV (ta : TE) : TE := fun σ H Q => ta σ H fun x H1 => ∃ c, x = .bl c ∧ Q (.bl (!c)) H1
theorem pe_one {op} {t : TE} (h : PE X a t) : PE X (.BoolOp op [a] pos) t := fun pins s σ H Q I hw => BoolOp_one (h pins s σ H Q I hw)
theorem pe_and (ha : PE X a ta) (hb : PE X (.BoolOp .And (b :: rest) pos) tb) : PE X (.BoolOp .And (a :: b :: rest) pos) (tAndV ta tb) := by
  intro pins s σ H Q I h
  refine BoolOp_and (thn (ha pins s σ H _ I h) fun v s1 ⟨x, H1, I1, r1, q1⟩ => ?_)
  obtain ⟨c, rfl, q1⟩ := q1
  cases r1
  refine wpAny_truthy_bool ?_
  cases c with
  | true => exact hb pins s1 σ H1 Q I1 q1
  | false => exact ⟨.bl false, H1, I1, rfl, q1⟩
theorem pe_or (ha : PE X a ta) (hb : PE X (.BoolOp .Or (b :: rest) pos) tb) : PE X (.BoolOp .Or (a :: b :: rest) pos) (tOrV ta tb) := by
  intro pins s σ H Q I h
  refine BoolOp_or (thn (ha pins s σ H _ I h) fun v s1 ⟨x, H1, I1, r1, q1⟩ => ?_)
  obtain ⟨c, rfl, q1⟩ := q1
  cases r1
  refine wpAny_truthy_bool ?_
  cases c with
  | false => exact hb pins s1 σ H1 Q I1 q1
  | true => exact ⟨.bl true, H1, I1, rfl, q1⟩
theorem pe_not (ha : PE X a ta) : PE X (.UnaryOp .Not a pos) (tNotV ta) := by
  intro pins s σ H Q I h
  refine UnaryOp_ (thn (ha pins s σ H _ I h) fun v s1 ⟨x, H1, I1, r1, q1⟩ => ?_)
  obtain ⟨c, rfl, q1⟩ := q1
  cases r1
  exact not_of (wpAny_truthy_bool ⟨.bl (!c), H1, I1, rfl, q1⟩)
end
end L2
namespace L2
open PySem PySem.Spec PyProof.Rows
def SqL (K : PySem.W.Frag) (H : Hp) (a : Addr) (xs : List V) : Prop :=
  Rd H a (.lst xs) ∨
    ∃ (o : Obj) (its : Array Value) (n : Nat), K.lookup a = some o ∧ o.cls = .type "list" ∧ o.dict = none ∧ o.data = .seq its n ∧ its.size ≤ sizeLine ∧ Vals xs its.toList
def SqT (K : PySem.W.Frag) (H : Hp) (a : Addr) (xs : List V) : Prop :=
  Rd H a (.tup xs) ∨
    ∃ (o : Obj) (its : Array Value) (n : Nat), K.lookup a = some o ∧ o.cls = .type "tuple" ∧ o.data = .seq its n ∧ its.size ≤ sizeLine ∧ Vals xs its.toList
def absV : Value → Option V
  | .none => some .non
  | .bool b => some (.bl b)
  | .int i _ => some (.int i)
  | .str x _ => some (.str x)
  | .bytes b _ => some (.byt b)
  | .float b _ => some (.flt b)
  | .ref a => some (.ref a)
  | .type n => some (.ty n)
  | _ => none
theorem RelV.abs {x : V} {u : Value} (r : RelV x u) : absV u = some x := by
  cases x with
  | non => cases r; rfl
  | bl _ => cases r; rfl
  | int _ => obtain ⟨t, rfl⟩ := r; rfl
  | str _ => obtain ⟨t, rfl⟩ := r; rfl
  | byt _ => obtain ⟨t, rfl⟩ := r; rfl
  | flt _ => obtain ⟨t, rfl⟩ := r; rfl
  | ref _ => cases r; rfl
  | ty _ => cases r; rfl
theorem RelV.inj {x y : V} {u : Value} (r : RelV x u) (q : RelV y u) : x = y := Option.some.inj (r.abs.symm.trans q.abs)
theorem Vals.inj : ∀ {xs ys : List V} {us : List Value}, Vals xs us → Vals ys us → xs = ys
  | _, _, _, .nil, .nil => rfl
  | _, _, _, .cons r t, .cons r' t' => by rw [r.inj r', Vals.inj t t']
section
variable {X : Cx} {pins : List (Addr × Obj)} {σ : St} {H : Hp} {s : Shared} {a : Addr} {xs ys : List V}
theorem SqL.of {K : PySem.W.Frag} (h : H a = some (.lst xs)) : SqL K H a xs := .inl (.inl h)
theorem SqT.of {K : PySem.W.Frag} (h : H a = some (.tup xs)) : SqT K H a xs := .inl (.inl h)
theorem Inv.list (I : Inv X pins σ H s) (h : SqL X.K H a xs) : ∃ its : List Value, Vals xs its ∧ PlainL s.heap a its.toArray ∧ xs.length ≤ sizeLine := by
  rcases h with h | ⟨o, its, n, hk, hc, hd, hs, hz, r⟩
  · obtain ⟨z, its, n, r, e⟩ := h.ok I.hok
    exact ⟨its, r, ⟨_, n, e, rfl, rfl, rfl⟩, z⟩
  · refine ⟨its.toList, r, ⟨o, n, I.kIn a o hk, hc, hd, by simpa using hs⟩, ?_⟩
    have e := r.length
    simp only [Array.length_toList] at e
    omega
theorem Inv.tuple (I : Inv X pins σ H s) (h : SqT X.K H a xs) : ∃ its : List Value, Vals xs its ∧ IsTup s.heap a its.toArray ∧ xs.length ≤ sizeLine := by
  rcases h with h | ⟨o, its, n, hk, hc, hs, hz, r⟩
  · obtain ⟨z, its, r, p⟩ := h.ok I.hok
    exact ⟨its, r, p, z⟩
  · refine ⟨its.toList, r, ⟨o, I.kIn a o hk, hc, n, by simpa using hs⟩, ?_⟩
    have e := r.length
    simp only [Array.length_toList] at e
    omega
theorem Inv.list_inj (I : Inv X pins σ H s) (h : SqL X.K H a xs) (h' : SqL X.K H a ys) : xs = ys := by
  obtain ⟨its, r, ⟨o, n, e, _, _, d⟩, _⟩ := I.list h
  obtain ⟨its', r', ⟨o', n', e', _, _, d'⟩, _⟩ := I.list h'
  rw [e] at e'; cases e'
  rw [d] at d'
  injection d' with d1 _
  have : its = its' := by simpa using congrArg Array.toList d1
  subst this
  exact r.inj r'
theorem Inv.tuple_inj (I : Inv X pins σ H s) (h : SqT X.K H a xs) (h' : SqT X.K H a ys) : xs = ys := by
  obtain ⟨its, r, ⟨o, e, _, n, d⟩, _⟩ := I.tuple h
  obtain ⟨its', r', ⟨o', e', _, n', d'⟩, _⟩ := I.tuple h'
  rw [e] at e'; cases e'
  rw [d] at d'
  injection d' with d1 _
  have : its = its' := by simpa using congrArg Array.toList d1
  subst this
  exact r.inj r'
end
abbrev Cx.wish (X : Cx) (E : Value → Shared → Prop) : Cx := { X with xe := E }
abbrev Cx.nox (X : Cx) : Cx := X.wish fun _ _ => False
theorem Cx.Ok.wish {X : Cx} (ok : X.Ok) (E : Value → Shared → Prop) : (X.wish E).Ok :=
  ⟨ok.mod, ok.kind, ok.glob, ok.blt, ok.above, ok.inj, ok.has, ok.cab, ok.hd, ok.frames, ok.stk, ok.exf, ok.bs, ok.bsz, ok.noex, ok.exfs, ok.funs, ok.frf⟩
theorem Cx.Ok.unwish {X : Cx} {E : Value → Shared → Prop} (ok : (X.wish E).Ok) : X.Ok :=
  ⟨ok.mod, ok.kind, ok.glob, ok.blt, ok.above, ok.inj, ok.has, ok.cab, ok.hd, ok.frames, ok.stk, ok.exf, ok.bs, ok.bsz, ok.noex, ok.exfs, ok.funs, ok.frf⟩
section
variable {X : Cx} {pins : List (Addr × Obj)} {σ : St} {H : Hp} {s : Shared} {E : Value → Shared → Prop}
theorem Inv.wish (I : Inv X pins σ H s) (E : Value → Shared → Prop) : Inv (X.wish E) pins σ H s := ⟨I.ok.wish E, I.os, I.bare, I.base, I.loc, I.cell, I.free, I.freeC, I.pin, I.hok, I.len⟩
theorem Inv.unwish (I : Inv (X.wish E) pins σ H s) : Inv X pins σ H s := ⟨I.ok.unwish, I.os, I.bare, I.base, I.loc, I.cell, I.free, I.freeC, I.pin, I.hok, I.len⟩
theorem SP.unwish {D : Ends} {f : Flow} {s' : Shared} (h : SP (X.wish E) pins D f s') : SP X pins D f s' := by
  cases f with
  | next => obtain ⟨σ', H', I, q⟩ := h; exact ⟨σ', H', I.unwish, q⟩
  | brk => obtain ⟨σ', H', I, q⟩ := h; exact ⟨σ', H', I.unwish, q⟩
  | cont => obtain ⟨σ', H', I, q⟩ := h; exact ⟨σ', H', I.unwish, q⟩
  | ret u => obtain ⟨v, σ', H', I, r, q⟩ := h; exact ⟨v, σ', H', I.unwish, r, q⟩
theorem PE.nox {e : Expr} {t : TE} (h : PE X.nox e t) : PE X e t := fun pins s σ H Q I hw =>
  wpAny_mono (h pins s σ H Q (I.wish _) hw) (fun _ _ ⟨v, H', I', r, q⟩ => ⟨v, H', I'.unwish, r, q⟩) fun _ _ z => False.elim z
theorem PT.nox {e : Expr} {t : TT} (h : PT X.nox e t) : PT X e t := fun pins s σ H Q I hw =>
  wpAny_mono (h pins s σ H Q (I.wish _) hw) (fun _ _ ⟨H', I', q⟩ => ⟨H', I'.unwish, q⟩) fun _ _ z => False.elim z
theorem PSs.nox {st : List Stmt} {t : TS} (h : PSs X.nox st t) : PSs X st t := fun pins s σ H D I hw =>
  wpAny_mono (h pins s σ H D (I.wish _) hw) (fun _ _ q => q.unwish) fun _ _ z => False.elim z
end
section
variable {X : Cx} {st : Stmt} {rest : List Stmt} {t u : TS} {e : Expr} {te : TE} {pos : Pos}
def tNext : TS := fun D σ H => D.nx σ H
def tSeq (t u : TS) : TS := fun D σ H => t { D with nx := u D } σ H
theorem pss_nil : PSs X [] tNext := fun _ _ σ H _ I h => wpAny_execs_nil ⟨σ, H, I, h⟩
theorem pss_cons (h1 : PS X st t) (h2 : PSs X rest u) : PSs X (st :: rest) (tSeq t u) := by
  intro pins s σ H D I h
  refine wpAny_execs_cons (thn (h1 pins s σ H { D with nx := u D } I h) fun f s1 q => ?_)
  cases f with
  | next =>
    obtain ⟨σ', H', I', q⟩ := q
    exact h2 pins s1 σ' H' D I' q
  | ret v => exact q
  | brk => exact q
  | cont => exact q
theorem pss_one (h1 : PS X st t) : PSs X [st] t := by
  intro pins s σ H D I h
  refine wpAny_execs_cons (thn (h1 pins s σ H D I h) fun f s1 q => ?_)
  cases f with
  | next => exact wpAny_execs_nil q
  | ret v => exact q
  | brk => exact q
  | cont => exact q
theorem Inv.quiet {pins : List (Addr × Obj)} {σ : St} {H : Hp} {s : Shared} (I : Inv X pins σ H s) : interactive X.env = false := by simp [interactive, I.ok.kind]
def tDrop (te : TE) : TS := fun D σ H => te σ H fun _ H1 => D.nx σ H1
theorem ps_expr (he : PE X e te) (hs : swapsWith e none pos.line X.env = pure false := by rfl) : PS X (.Expr e pos) (tDrop te) := by
  intro pins s σ H D I h
  exact wpAny_Expr_any (thn (he pins s σ H _ I h) fun v s1 ⟨x, H1, I1, r1, q1⟩ => ⟨σ, H1, I1, q1⟩) I.quiet hs
def tRet (te : TE) : TS := fun D σ H => te σ H D.rt
theorem ps_ret (he : PE X e te) : PS X (.Return (some e) pos) (tRet te) := by
  intro pins s σ H D I h
  exact wpAny_Return_some (thn (he pins s σ H _ I h) fun v s1 ⟨x, H1, I1, r1, q1⟩ => ⟨x, σ, H1, I1, r1, q1⟩)
def tIfS (c : TT) (t u : TS) : TS := fun D σ H => c σ H fun b H1 => if b = true then t D σ H1 else u D σ H1
theorem ps_if {c : Expr} {a b : List Stmt} {tc : TT} (hc : PT X c tc) (ha : PSs X a t) (hb : PSs X b u) : PS X (.If c a b pos) (tIfS tc t u) := by
  intro pins s σ H D I h
  refine wpAny_If (thn (hc pins s σ H _ I h) fun d s1 ⟨H1, I1, q1⟩ => ?_)
  cases d with
  | true => exact ha pins s1 σ H1 D I1 q1
  | false => exact hb pins s1 σ H1 D I1 q1
end
abbrev TG := V → St → Hp → (St → Hp → Prop) → Prop
abbrev TGs := List V → St → Hp → (St → Hp → Prop) → Prop
def PG (X : Cx) (target : Expr) (t : TG) : Prop :=
  ∀ (pins : List (Addr × Obj)) (s : Shared) (σ : St) (H : Hp) (v : V) (u : Value) (Q : St → Hp → Prop), Inv X pins σ H s → RelV v u → t v σ H Q →
    wpAny (model X.prog X.w) X.A (assign target X.env u) (fun _ s' => ∃ σ' H', Inv X pins σ' H' s' ∧ Q σ' H') X.xe s
def PGs (X : Cx) (ts : List Expr) (t : TGs) : Prop :=
  ∀ (pins : List (Addr × Obj)) (s : Shared) (σ : St) (H : Hp) (vs : List V) (us : List Value) (Q : St → Hp → Prop), Inv X pins σ H s → Vals vs us → t vs σ H Q →
    wpAny (model X.prog X.w) X.A (assignInOrder ((assignEach ts X.env).map (·.2)) us) (fun _ s' => ∃ σ' H', Inv X pins σ' H' s' ∧ Q σ' H') X.xe s
abbrev TSet := V → V → V → Hp → (Hp → Prop) → Prop
def PSet (X : Cx) (t : TSet) : Prop :=
  ∀ (pins : List (Addr × Obj)) (s : Shared) (σ : St) (H : Hp) (o i v : V) (ov iv u : Value) (Q : Hp → Prop), Inv X pins σ H s → RelV o ov → RelV i iv → RelV v u → t o i v H Q →
    wpAny (model X.prog X.w) X.A (setItem ov iv u) (fun _ s' => ∃ H', Inv X pins σ H' s' ∧ Q H') X.xe s
section
variable {X : Cx} {pos : Pos}
def gName (i : Nat) : TG := fun v σ H Q => Q (σ.set i (some v)) H
theorem pg_name {i : Nat} {x : Str} (hN : X.N.Nodup) (hi : X.N[i]? = some x) (hx : Loc X.env.scope x) (hf : X.fn x = true ∨ X.env.scope.names.lookup x = some .local := by first | exact .inl rfl | exact .inr rfl | assumption) : PG X (.Name x pos) (gName i) := by
  intro pins s σ H v u Q I r h
  exact wpAny_assign_Name (store_ok I hN hi hx r (fun s' I' => ⟨_, H, I', h⟩) hf)
def gNil : TGs := fun vs σ H Q => vs = [] ∧ Q σ H
def gCons (t : TG) (u : TGs) : TGs := fun vs σ H Q => ∃ v r, vs = v :: r ∧ t v σ H fun σ' H' => u r σ' H' Q
theorem pgs_nil : PGs X [] gNil := by
  intro pins s σ H vs us Q I r h
  obtain ⟨e, h⟩ := h
  subst e
  cases r
  exact assignInOrder_nil ⟨σ, H, I, h⟩
theorem pgs_cons {e : Expr} {es : List Expr} {t : TG} {u : TGs} (h1 : PG X e t) (h2 : PGs X es u)
    (hs : (assignEach (e :: es) X.env).map (·.2) = assign e X.env :: (assignEach es X.env).map (·.2) := by rfl) : PGs X (e :: es) (gCons t u) := by
  intro pins s σ H vs us Q I r h
  obtain ⟨v, vr, e1, h⟩ := h
  subst e1
  cases r with
  | cons r rr =>
    rw [hs]
    refine assignInOrder_cons (thn (h1 pins s σ H _ _ _ I r h) fun _ s1 ⟨σ1, H1, I1, q1⟩ => ?_)
    exact h2 pins s1 σ1 H1 _ _ Q I1 rr q1
def gTup (K : PySem.W.Frag) (n : Nat) (t : TGs) : TG := fun v σ H Q => ∃ a xs, v = .ref a ∧ SqT K H a xs ∧ xs.length = n ∧ t xs σ H Q
theorem pg_tup {es : List Expr} {k : Nat} {t : TGs} {n : Nat} (hc : X.calm = true) (h : PGs X es t)
    (hn : (assignEach es X.env).length = n := by rfl) (hst : (assignEach es X.env).findIdx? (·.1) = none := by rfl) : PG X (.Tuple es k pos) (gTup X.K n t) := by
  intro pins s σ H v u Q I r hw
  obtain ⟨a, xs, e1, hq, hl, hw⟩ := hw
  subst e1
  cases r
  obtain ⟨its, rv, ht, hz⟩ := I.tuple hq
  refine assign_Tuple_tuple (I.ok.hd hc) ht (by simp [hn, ← hl, rv.length]) hst fun h' hx => ?_
  have I1 : Inv X pins σ H { s with heap := h' } := I.kept (t' := s.toks) fun b o e => hx b o (Nat.ne_of_lt (Heap.lt_size e)) e
  exact h pins _ σ H xs _ Q I1 (by simpa using rv) hw
def gSub (to ti : TE) (t : TSet) : TG := fun v σ H Q => to σ H fun o H1 => ti σ H1 fun i H2 => t o i v H2 fun H3 => Q σ H3
theorem pg_sub {o i : Expr} {to ti : TE} {t : TSet} (ho : PE X o to) (hi : PE X i ti) (hs : PSet X t)
    (ha : ∀ v, assign (.Subscript o i pos) X.env v = (do
      let ov ← holding [v] (eval o X.env)
      let iv ← holding [v, ov] (eval i X.env)
      standAt pos
      holding [v, ov, iv] (setItem ov iv v)
      release [v, ov, iv] []) := by intro _; rfl) : PG X (.Subscript o i pos) (gSub to ti t) := by
  intro pins s σ H v u Q I r h
  rw [ha]
  refine wpAny_bind (wpAny_holding (thn (ho pins s σ H _ I h) fun ov s1 ⟨x, H1, I1, r1, q1⟩ => ?_))
  refine wpAny_bind (wpAny_holding (thn (hi pins s1 σ H1 _ I1 q1) fun iv s2 ⟨y, H2, I2, r2, q2⟩ => ?_))
  refine wpAny_bind (wpAny_standAt (wpAny_bind (wpAny_holding (thn (hs pins s2 σ H2 x y v ov iv u _ I2 r1 r2 r q2) fun _ s3 ⟨H3, I3, q3⟩ => ?_))))
  exact wpAny_release ⟨σ, H3, I3, q3⟩
def tAsg (te : TE) (g : TG) : TS := fun D σ H => te σ H fun x H1 => g x σ H1 D.nx
theorem ps_asg {tg e : Expr} {te : TE} {g : TG} (he : PE X e te) (hg : PG X tg g) (hs : swapsWithSole [tg] e pos.line X.env = pure false := by rfl) (hw : swappedStores [tg] e X.env = pure none := by rfl)
    (h1 : (assignEach [tg] X.env).map (·.2) = [assign tg X.env] := by rfl) : PS X (.Assign [tg] e pos) (tAsg te g) := by
  intro pins s σ H D I h
  refine wpAny_Assign_stores (thn (he pins s σ H _ I h) fun v s1 ⟨x, H1, I1, r1, q1⟩ => ?_) hs hw
  rw [h1]
  exact thn (hg pins s1 σ H1 x v _ I1 r1 q1) fun _ s2 q => q
theorem ps_set {i : Nat} {x : Str} {e : Expr} {te : TE} {pos' : Pos} (hN : X.N.Nodup) (hi : X.N[i]? = some x) (hx : Loc X.env.scope x) (he : PE X e te) (hs : swapsWith e (some (.Name x pos')) pos.line X.env = pure false := by rfl) (hf : X.fn x = true ∨ X.env.scope.names.lookup x = some .local := by first | exact .inl rfl | exact .inr rfl | assumption) :
    PS X (.Assign [.Name x pos'] e pos) (tAsg te (gName i)) := by
  intro pins s σ H D I h
  refine wpAny_Assign_Name (thn (he pins s σ H _ I h) fun v s1 ⟨y, H1, I1, r1, q1⟩ => ?_) hs
  exact store_ok I1 hN hi hx r1 (fun s2 I2 => ⟨_, H1, I2, q1⟩) hf
end
section
variable {X : Cx} {pos : Pos}
def tWhile (c : TT) (tb : TS) : TS := fun D σ H => ∃ W : Nat → St → Hp → Prop, (∃ m, W m σ H) ∧ ∀ m σ H, W m σ H →
  c σ H fun b H1 => if b = true then ∃ N : St → Hp → Prop, (∀ σ' H', N σ' H' → ∃ m', m' < m ∧ W m' σ' H') ∧ tb { D with nx := N, ct := N, bk := D.nx } σ H1 else D.nx σ H1
theorem ps_while {c : Expr} {body : List Stmt} {tc : TT} {tb : TS} (hp : PassesOwn (model X.prog X.w) X.A X.env X.xe) (hc : PT X c tc) (hb : PSs X body tb) : PS X (.While c body [] pos) (tWhile tc tb) := by
  intro pins s σ H D I h
  obtain ⟨W, ⟨m0, w0⟩, turn⟩ := h
  refine wpAny_While (codeAny_whileLoop (fun n s' => ∃ σ' H', Inv X pins σ' H' s' ∧ W n σ' H') ?_ m0 ⟨σ, H, I, w0⟩)
  rintro n s1 ⟨σ1, H1, I1, w1⟩
  refine wpAny_passesOwn hp (thn (hc pins s1 σ1 H1 _ I1 (turn n σ1 H1 w1)) fun b s2 ⟨H2, I2, q2⟩ => ?_)
  cases b with
  | true =>
    obtain ⟨N, hN, q2⟩ := q2
    rw [if_pos rfl]
    refine wpAny_passesOwn hp (thn (hb pins s2 σ1 H2 _ I2 q2) fun f s3 q3 => ?_)
    cases f with
    | next =>
      obtain ⟨σ3, H3, I3, n3⟩ := q3
      obtain ⟨m', hm, w3⟩ := hN σ3 H3 n3
      exact ⟨m', hm, σ3, H3, I3, w3⟩
    | cont =>
      obtain ⟨σ3, H3, I3, n3⟩ := q3
      obtain ⟨m', hm, w3⟩ := hN σ3 H3 n3
      exact ⟨m', hm, σ3, H3, I3, w3⟩
    | brk => exact q3
    | ret v => exact q3
  | false =>
    rw [if_neg Bool.false_ne_true]
    exact wpAny_execs_nil ⟨σ1, H2, I2, q2⟩
end
structure It where
  go : Nat → Hp → Prop
  yld : Nat → Hp → V → Hp → Prop
  stop : Nat → Hp → Prop
def FpOk (X : Cx) (pins : List (Addr × Obj)) (H : Hp) (b : Addr) : Prop :=
  H b = none ∧ b ≠ X.env.locals ∧ b ∉ X.fs ∧ (b ∈ X.ex ∨ X.s₀.heap.objs.size ≤ b) ∧ (∀ x c, X.env.cells.lookup x = some c → c ≠ b) ∧ ∀ p ∈ X.pn ++ pins, p.1 ≠ b
theorem Inv.fpOk {X : Cx} {pins : List (Addr × Obj)} {σ : St} {H H' : Hp} {s : Shared} {b : Addr} (I : Inv X pins σ H s) (hb : s.heap.objs.size ≤ b) (hn : H' b = none) : FpOk X pins H' b := by
  refine ⟨hn, Nat.ne_of_gt (Nat.lt_of_lt_of_le I.lt hb), I.nofs hb, .inr (Nat.le_trans I.sz hb), fun x c e z => ?_, fun p hp z => ?_⟩
  · obtain ⟨v, q⟩ := I.cell x c e
    exact absurd (Nat.lt_of_lt_of_le q.lt (by rw [z]; exact hb)) (Nat.lt_irrefl _)
  · exact absurd (Nat.lt_of_lt_of_le (Heap.lt_size (I.pin p hp).1) (by rw [z]; exact hb)) (Nat.lt_irrefl _)
structure Turn (P : Program) (w : World) (K : PySem.W.Frag) (tg : Expr) (J : It) (fp : List Addr) (it : Addr) (tn : Nat → Heap → Prop) : Prop where
  mem : it ∈ fp
  obj : ∀ i h, tn i h → ∀ b ∈ fp, ∃ o, h.get? b = some o ∧ ∀ v, o.data ≠ .cell v
  keep : ∀ i h h', tn i h → (∀ b ∈ fp, ∀ o, h.get? b = some o → h'.get? b = some o) → tn i h'
  item : ∀ (X : Cx), X.prog = P → X.w = w → X.K = K → X.calm = true → ∀ (i : Nat) (pins : List (Addr × Obj)) (s : Shared) (σ : St) (H : Hp) (E : Value → Shared → Prop), Inv X pins σ H s → (∀ b ∈ fp, FpOk X pins H b) → tn i s.heap → J.go i H →
    wpAny (model P w) X.A (pyNext (.ref it)) (fun r s1 => ∃ u, r = some u ∧
      wpAny (model P w) X.A (letOwnedTupleGo tg (.ref it) u) (fun _ s2 => ∃ x H', Inv X pins σ H' s2 ∧ RelV x u ∧ J.yld i H x H' ∧ tn (i + 1) s2.heap ∧ ∀ b ∈ fp, H' b = none) E s1) E s
  done : ∀ (X : Cx), X.prog = P → X.w = w → X.K = K → X.calm = true → ∀ (i : Nat) (pins : List (Addr × Obj)) (s : Shared) (σ : St) (H : Hp) (E : Value → Shared → Prop), Inv X pins σ H s → (∀ b ∈ fp, FpOk X pins H b) → tn i s.heap → J.stop i H →
    wpAny (model P w) X.A (pyNext (.ref it)) (fun r s1 => r = none ∧ Inv X pins σ H s1) E s
  self : ∀ (A : Around) (i : Nat) (s : Shared) (Q : Value → Shared → Prop) (E : Value → Shared → Prop), tn i s.heap → Q (.ref it) s → wpAny (model P w) A (pyIter (.ref it)) Q E s
abbrev TI := St → Hp → (It → Hp → Prop) → Prop
def PIE (X : Cx) (pins : List (Addr × Obj)) (σ : St) (tg : Expr) (R : It → Hp → Prop) (itv : Value) (s2 : Shared) : Prop :=
  ∃ (it : Addr) (fp : List Addr) (tn : Nat → Heap → Prop) (J : It) (H' : Hp), itv = .ref it ∧ Inv X pins σ H' s2 ∧ Turn X.prog X.w X.K tg J fp it tn ∧ tn 0 s2.heap ∧ (∀ b ∈ fp, FpOk X pins H' b) ∧ R J H'
def PI (X : Cx) (tg iter : Expr) (wi : TI) : Prop :=
  ∀ (pins : List (Addr × Obj)) (s : Shared) (σ : St) (H : Hp) (R : It → Hp → Prop), Inv X pins σ H s → wi σ H R →
    wpAny (model X.prog X.w) X.A (eval iter X.env) (fun v s1 => wpAny (model X.prog X.w) X.A (pyIter v) (PIE X pins σ tg R) X.xe s1) X.xe s
theorem go_of {M : Model} {A : Around} {E : Value → Shared → Prop} {s : Shared} {tg : Expr} {it : Addr} {u : Value} {o : Obj} {n : String} {vs : Array Value} {Q : Unit → Shared → Prop} (ho : s.heap.get? it = some o) (hc : o.cls = .type n) (hd : o.data = .fields vs)
    (hn : ["enumerate", "zip", "dict_itemiterator", "dict_reverseitemiterator", "odict_iterator", "itertools.zip_longest", "itertools.pairwise"].contains n = false) (hQ : Q () s) : wpAny M A (letOwnedTupleGo tg (.ref it) u) Q E s := by
  unfold letOwnedTupleGo
  cases tg <;> first
    | exact wpAny_pure hQ
    | (cases u <;> first
        | exact wpAny_pure hQ
        | (refine wpAny_bind (wpAny_load ho ?_)
           rw [hc, hd]
           show wpAny M A (if (["enumerate", "zip", "dict_itemiterator", "dict_reverseitemiterator", "odict_iterator", "itertools.zip_longest", "itertools.pairwise"].contains n && vs[0]? == some (rawInt _)) = true then _ else _) Q E s
           rw [if_neg (by intro h; rw [hn, Bool.false_and] at h; cases h)]
           exact wpAny_pure hQ))
def Itl (K : PySem.W.Frag) (a : Addr) : It :=
  ⟨fun i H => ∃ xs x, SqL K H a xs ∧ xs[i]? = some x, fun i H x H' => H' = H ∧ ∀ xs, SqL K H a xs → xs[i]? = some x, fun i H => ∃ xs, SqL K H a xs ∧ xs.length ≤ i⟩
def Itt (K : PySem.W.Frag) (a : Addr) : It :=
  ⟨fun i H => ∃ xs x, SqT K H a xs ∧ xs[i]? = some x, fun i H x H' => H' = H ∧ ∀ xs, SqT K H a xs → xs[i]? = some x, fun i H => ∃ xs, SqT K H a xs ∧ xs.length ≤ i⟩
def Itr (lo : Int) (n : Nat) : It := ⟨fun i _ => i < n, fun i H x H' => H' = H ∧ x = .int (lo + i), fun i _ => n ≤ i⟩
theorem turn_list {P : Program} {w : World} {K : PySem.W.Frag} {tg : Expr} (a it : Addr) : Turn P w K tg (Itl K a) [it] it (fun i h => h.IsListIter it a i) where
  mem := by simp
  obj := fun i h st b hb => by
    have e : b = it := by simpa using hb
    subst e
    obtain ⟨o, e, c, d⟩ := st
    exact ⟨o, e, fun v z => by rw [d] at z; cases z⟩
  keep := fun i h h' st k => st.at fun o e => k it (by simp) o e
  item := by
    intro X hP hw hK hc i pins s σ H E I hf st hg
    subst hP hw hK
    obtain ⟨xs, x, hq, hx⟩ := hg
    obtain ⟨its, rv, p, hz⟩ := I.list hq
    obtain ⟨u, hu, ru⟩ := rv.get hx
    obtain ⟨f0, f1, f2, f3, f4, f5⟩ := hf it (by simp)
    refine wpAny_pyNext_list_item st p.isList (x := u) (by simpa using hu) fun h' st' sb => ?_
    have I1 : Inv X pins σ H { s with heap := h' } := I.turned (t' := s.toks) (fun b o hb e => (sb.2 b hb).trans e) f0 f1 f3 f4 f5
    obtain ⟨o, e, c, d⟩ := id st'
    exact ⟨u, rfl, go_of (s := { s with heap := h' }) e c d (by decide) ⟨x, H, I1, ru, ⟨rfl, fun ys hy => by rw [I.list_inj hy hq]; exact hx⟩, st', fun b hb => (hf b hb).1⟩⟩
  done := by
    intro X hP hw hK hc i pins s σ H E I hf st hg
    subst hP hw hK
    obtain ⟨xs, hq, hx⟩ := hg
    obtain ⟨its, rv, p, hz⟩ := I.list hq
    obtain ⟨f0, f1, f2, f3, f4, f5⟩ := hf it (by simp)
    have hl := rv.length
    exact wpAny_pyNext_list_end (I.ok.hd hc) st p.isList (by simp; omega) fun h' eb => ⟨rfl, I.turned (t' := s.toks) (fun b o hb e => eb b o hb e) f0 f1 f3 f4 f5⟩
  self := fun _ _ _ _ _ st h => wpAny_pyIter_listiter st h
theorem turn_tuple {P : Program} {w : World} {K : PySem.W.Frag} {tg : Expr} (a it : Addr) : Turn P w K tg (Itt K a) [it] it (fun i h => h.IsTupleIter it a i) where
  mem := by simp
  obj := fun i h st b hb => by
    have e : b = it := by simpa using hb
    subst e
    obtain ⟨o, e, c, d⟩ := st
    exact ⟨o, e, fun v z => by rw [d] at z; cases z⟩
  keep := fun i h h' st k => st.at fun o e => k it (by simp) o e
  item := by
    intro X hP hw hK hc i pins s σ H E I hf st hg
    subst hP hw hK
    obtain ⟨xs, x, hq, hx⟩ := hg
    obtain ⟨its, rv, p, hz⟩ := I.tuple hq
    obtain ⟨u, hu, ru⟩ := rv.get hx
    obtain ⟨f0, f1, f2, f3, f4, f5⟩ := hf it (by simp)
    refine wpAny_pyNext_tuple_item st (show s.heap.IsTuple a its.toArray from p) (x := u) (by simpa using hu) fun h' st' sb => ?_
    have I1 : Inv X pins σ H { s with heap := h' } := I.turned (t' := s.toks) (fun b o hb e => (sb.2 b hb).trans e) f0 f1 f3 f4 f5
    obtain ⟨o, e, c, d⟩ := id st'
    exact ⟨u, rfl, go_of (s := { s with heap := h' }) e c d (by decide) ⟨x, H, I1, ru, ⟨rfl, fun ys hy => by rw [I.tuple_inj hy hq]; exact hx⟩, st', fun b hb => (hf b hb).1⟩⟩
  done := by
    intro X hP hw hK hc i pins s σ H E I hf st hg
    subst hP hw hK
    obtain ⟨xs, hq, hx⟩ := hg
    obtain ⟨its, rv, p, hz⟩ := I.tuple hq
    obtain ⟨f0, f1, f2, f3, f4, f5⟩ := hf it (by simp)
    have hl := rv.length
    exact wpAny_pyNext_tuple_end (I.ok.hd hc) st (show s.heap.IsTuple a its.toArray from p) (by simp; omega) fun h' eb => ⟨rfl, I.turned (t' := s.toks) (fun b o hb e => eb b o hb e) f0 f1 f3 f4 f5⟩
  self := fun _ _ _ _ _ st h => wpAny_pyIter_tupleiter st h
theorem turn_range {P : Program} {w : World} {K : PySem.W.Frag} {tg : Expr} (it : Addr) (lo : Int) (n : Nat) : Turn P w K tg (Itr lo n) [it] it (fun i h => IsRangeIter h it (lo + (i : Nat) * 1) ((n : Int) - (i : Nat)) 1) where
  mem := by simp
  obj := fun i h st b hb => by
    have e : b = it := by simpa using hb
    subst e
    exact ⟨_, st, fun v z => by
      have z' : Data.fields _ = Data.cell v := z
      cases z'⟩
  keep := fun i h h' st k => k it (by simp) _ st
  item := by
    intro X hP hw hK hc i pins s σ H E I hf st hg
    subst hP hw hK
    obtain ⟨f0, f1, f2, f3, f4, f5⟩ := hf it (by simp)
    have W := Walks.range (prog := X.prog) (w := X.w) (I.ok.hd hc) it lo 1 n
    refine W.item i s _ _ hg st fun v h' tk hv st' kk => ?_
    obtain ⟨t, rfl⟩ := hv
    have I1 : Inv X pins σ H { s with heap := h', toks := tk } := I.turned (fun b o hb e => kk b o (by simpa using hb) e) f0 f1 f3 f4 f5
    refine ⟨_, rfl, go_of (s := { s with heap := h', toks := tk }) (n := "range_iterator") st' rfl rfl (by decide) ⟨.int (lo + i), H, I1, ⟨t, ?_⟩, ⟨rfl, rfl⟩, st', fun b hb => (hf b hb).1⟩⟩
    rw [Int.mul_one]
  done := by
    intro X hP hw hK hc i pins s σ H E I hf st hg
    subst hP hw hK
    obtain ⟨f0, f1, f2, f3, f4, f5⟩ := hf it (by simp)
    exact wpAny_pyNext_range_end (I.ok.hd hc) st (by have : n ≤ i := hg; omega) fun h' eb => ⟨rfl, I.turned (t' := s.toks) (fun b o hb e => eb b o hb e) f0 f1 f3 f4 f5⟩
  self := fun _ _ _ _ _ st h => wpAny_pyIter_rangeiter st h
end L2
namespace L2
open PySem PySem.Spec PyProof.Rows
section
variable {X : Cx} {tg : Expr}
def iList (K : PySem.W.Frag) (tl : TE) : TI := fun σ H R => tl σ H fun x H1 => ∃ a, x = .ref a ∧ (∃ xs, SqL K H1 a xs) ∧ R (Itl K a) H1
def iTup (K : PySem.W.Frag) (tl : TE) : TI := fun σ H R => tl σ H fun x H1 => ∃ a, x = .ref a ∧ (∃ xs, SqT K H1 a xs) ∧ R (Itt K a) H1
theorem pi_list {l : Expr} {tl : TE} (hl : PE X l tl) : PI X tg l (iList X.K tl) := by
  intro pins s σ H R I h
  refine thn (hl pins s σ H _ I h) fun v s1 ⟨x, H1, I1, r1, q1⟩ => ?_
  obtain ⟨a, e, ⟨xs, hq⟩, q⟩ := q1
  subst e
  cases r1
  obtain ⟨its, rv, p, hz⟩ := I1.list hq
  refine wpAny_pyIter_list p.isList ?_
  refine ⟨s1.heap.objs.size, [s1.heap.objs.size], _, _, H1, rfl, I1.kept (t' := s1.toks) fun b o e => Heap.get?_push_of_some _ e, turn_list a _, ⟨_, Heap.get?_push_size _ rfl, rfl, rfl⟩, fun b hb => ?_, q⟩
  have e : b = s1.heap.objs.size := by simpa using hb
  subst e
  exact I1.fpOk (Nat.le_refl _) (I1.hok.fresh (Nat.le_refl _))
theorem pi_tup {l : Expr} {tl : TE} (hl : PE X l tl) : PI X tg l (iTup X.K tl) := by
  intro pins s σ H R I h
  refine thn (hl pins s σ H _ I h) fun v s1 ⟨x, H1, I1, r1, q1⟩ => ?_
  obtain ⟨a, e, ⟨xs, hq⟩, q⟩ := q1
  subst e
  cases r1
  obtain ⟨its, rv, p, hz⟩ := I1.tuple hq
  refine wpAny_pyIter_tuple (show s1.heap.IsTuple a its.toArray from p) ?_
  refine ⟨s1.heap.objs.size, [s1.heap.objs.size], _, _, H1, rfl, I1.kept (t' := s1.toks) fun b o e => Heap.get?_push_of_some _ e, turn_tuple a _, ⟨_, Heap.get?_push_size _ rfl, rfl, rfl⟩, fun b hb => ?_, q⟩
  have e : b = s1.heap.objs.size := by simpa using hb
  subst e
  exact I1.fpOk (Nat.le_refl _) (I1.hok.fresh (Nat.le_refl _))
theorem range_it {pins : List (Addr × Obj)} {σ : St} {H : Hp} {s : Shared} {R : It → Hp → Prop} {E : Value → Shared → Prop} {lo hi : Int} {t u v : Tok} {tk : Nat} (I : Inv X pins σ H s) (h1 : -(2 ^ 62) ≤ lo) (h2 : lo < 2 ^ 62) (h3 : -(2 ^ 62) ≤ hi) (h4 : hi < 2 ^ 62)
    (q : R (Itr lo (hi - lo).toNat) H) : wpAny (model X.prog X.w) X.A (pyIter (.ref s.heap.objs.size)) (PIE X pins σ tg R) E { s with heap := s.heap.push { cls := .type "range", data := .fields #[.int lo t, .int hi u, .int 1 v] }, toks := tk } := by
  refine wpAny_pyIter_range (IsRange.new ..) (small_one h1 h2 h3 h4) ?_
  have I1 : Inv X pins σ H { s with heap := s.heap.push { cls := .type "range", data := .fields #[.int lo t, .int hi u, .int 1 v] }, toks := tk } := I.kept fun b o e => Heap.get?_push_of_some _ e
  refine ⟨(s.heap.push { cls := .type "range", data := .fields #[.int lo t, .int hi u, .int 1 v] }).objs.size, [(s.heap.push { cls := .type "range", data := .fields #[.int lo t, .int hi u, .int 1 v] }).objs.size], _, _, H, rfl,
    I1.kept (t' := tk) fun b o e => Heap.get?_push_of_some _ e, turn_range _ lo (hi - lo).toNat, ?_, fun b hb => ?_, q⟩
  · have e1 : lo + ((0 : Nat) : Int) * 1 = lo := by simp
    have e2 : (((hi - lo).toNat : Nat) : Int) - ((0 : Nat) : Int) = Builtin.Range.rangeSize lo hi 1 := by rw [rangeSize_one]; split <;> omega
    show IsRangeIter _ _ (lo + ((0 : Nat) : Int) * 1) ((((hi - lo).toNat : Nat) : Int) - ((0 : Nat) : Int)) 1
    rw [e1, e2]
    exact Heap.get?_push_size _ rfl
  · have e : b = (s.heap.push { cls := .type "range", data := .fields #[.int lo t, .int hi u, .int 1 v] }).objs.size := by simpa using hb
    subst e
    exact I1.fpOk (Nat.le_refl _) (I1.hok.fresh (Nat.le_refl _))
def iRng1 (ta : TA) : TI := fun σ H R => ta σ H fun vs H1 => ∃ j : Int, vs = [.int j] ∧ -(2 ^ 62) ≤ j ∧ j < 2 ^ 62 ∧ R (Itr 0 j.toNat) H1
def iRng2 (ta : TA) : TI := fun σ H R => ta σ H fun vs H1 => ∃ i j : Int, vs = [.int i, .int j] ∧ (-(2 ^ 62) ≤ i ∧ i < 2 ^ 62 ∧ -(2 ^ 62) ≤ j ∧ j < 2 ^ 62) ∧ R (Itr i (j - i).toNat) H1
theorem pi_range1 {a : Expr} {ta : TA} {p pos : Pos} (hg : Gl X "range") (hm : X.mg "range" = none) (ha : PA X [a] ta) (hs : starEach [a] X.env = [(false, eval a X.env)] := by rfl) : PI X tg (.Call (.Name "range" p) [a] [] pos) (iRng1 ta) := by
  intro pins s σ H R I h
  refine Call_ (ld_blt I hg hm boot_range (PyProof.Rows.callWith_type1 (thn (ha pos pins s σ H _ I h) fun us s1 ⟨vs, H1, I1, r1, q1⟩ => ?_) hs rfl))
  obtain ⟨j, e, q1, q2, q⟩ := q1
  subst e
  cases r1 with
  | cons r rr =>
    cases rr
    obtain ⟨t, rfl⟩ := r
    exact call_range_1 (range_it I1 (by omega) (by omega) q1 q2 (by simpa using q))
theorem pi_range2 {a b : Expr} {ta : TA} {p pos : Pos} (hg : Gl X "range") (hm : X.mg "range" = none) (ha : PA X [a, b] ta) (hs : starEach [a, b] X.env = [(false, eval a X.env), (false, eval b X.env)] := by rfl) (hs2 : starEach [b] X.env = [(false, eval b X.env)] := by rfl) :
    PI X tg (.Call (.Name "range" p) [a, b] [] pos) (iRng2 ta) := by
  intro pins s σ H R I h
  refine Call_ (ld_blt I hg hm boot_range (PyProof.Rows.callWith_type1 (thn (ha pos pins s σ H _ I h) fun us s1 ⟨vs, H1, I1, r1, q1⟩ => ?_) (by rw [hs, hs2]) (by rw [hs2]; rfl)))
  obtain ⟨i, j, e, ⟨q1, q2, q3, q4⟩, q⟩ := q1
  subst e
  cases r1 with
  | cons r rr =>
    cases rr with
    | cons r' rr =>
      cases rr
      obtain ⟨t, rfl⟩ := r
      obtain ⟨t', rfl⟩ := r'
      exact call_range_2 (range_it I1 q1 q2 q3 q4 q)
def tFor (wi : TI) (g : TG) (tb : TS) : TS := fun D σ H => wi σ H fun J H1 => ∃ W : Nat → Nat → St → Hp → Prop, (∃ m, W 0 m σ H1) ∧ ∀ i m σ H, W i m σ H →
  (J.stop i H ∧ D.nx σ H) ∨ (J.go i H ∧ ∃ N : St → Hp → Prop, (∀ σ' H', N σ' H' → ∃ m', m' < m ∧ W (i + 1) m' σ' H') ∧ ∀ x H', J.yld i H x H' → g x σ H' fun σ2 H2 => tb { D with nx := N, ct := N, bk := D.nx } σ2 H2)
def pinsAt (fp : List Addr) (h : Heap) : List (Addr × Obj) := fp.filterMap fun b => (h.get? b).map fun o => (b, o)
theorem mem_pinsAt {fp : List Addr} {h : Heap} {b : Addr} {o : Obj} (hb : b ∈ fp) (e : h.get? b = some o) : (b, o) ∈ pinsAt fp h := List.mem_filterMap.mpr ⟨b, hb, by rw [e]; rfl⟩
theorem of_pinsAt {fp : List Addr} {h : Heap} {p : Addr × Obj} (hp : p ∈ pinsAt fp h) : p.1 ∈ fp ∧ h.get? p.1 = some p.2 := by
  obtain ⟨b, hb, e⟩ := List.mem_filterMap.mp hp
  cases q : h.get? b with
  | none => rw [q] at e; cases e
  | some o =>
    rw [q] at e
    have e' : (b, o) = p := Option.some.inj e
    subst e'
    exact ⟨hb, q⟩
theorem Inv.pinned {pins : List (Addr × Obj)} {σ : St} {H : Hp} {s : Shared} {fp : List Addr} (I : Inv X pins σ H s) (hf : ∀ b ∈ fp, FpOk X pins H b) (ho : ∀ b ∈ fp, ∃ o, s.heap.get? b = some o ∧ ∀ v, o.data ≠ .cell v) : Inv X (pins ++ pinsAt fp s.heap) σ H s :=
  I.pins_of fun p hp => (List.mem_append.mp hp).elim (fun z => I.pin p (List.mem_append_right _ z)) fun z => by
    obtain ⟨hb, e⟩ := of_pinsAt z
    obtain ⟨f0, f1, f2, _⟩ := hf p.1 hb
    obtain ⟨o, e', d⟩ := ho p.1 hb
    rw [e] at e'; cases e'
    exact ⟨e, f0, f1, f2, d⟩
theorem Inv.unpinned {pins pl : List (Addr × Obj)} {σ : St} {H : Hp} {s : Shared} (I : Inv X (pins ++ pl) σ H s) : Inv X pins σ H s := I.pins_of fun p hp => I.pin p (List.mem_append_right _ (List.mem_append_left _ hp))
theorem ps_for {iter : Expr} {body : List Stmt} {wi : TI} {g : TG} {tb : TS} {pos : Pos} (hp : PassesOwn (model X.prog X.w) X.A X.env X.xe) (hc : X.calm = true) (hi : PI X tg iter wi) (hg : PG X tg g) (hb : PSs X body tb)
    (hs : ∀ x, foldedSetIterable iter X.env x = pure x := by intro _; rfl) : PS X (.For tg iter body [] pos) (tFor wi g tb) := by
  intro pins s σ H D I h
  refine wpAny_For (thn (hi pins s σ H _ I h) fun v s1 h1 => thn h1 fun itv s2 h2 => ?_) hs
  obtain ⟨it, fp, tn, J, H2, e, I2, T, st2, f2, W, ⟨m0, w0⟩, turn⟩ := h2
  subst e
  have stat : ∀ {H' : Hp}, (∀ b ∈ fp, H' b = none) → ∀ b ∈ fp, FpOk X pins H' b := fun hn b hb => ⟨hn b hb, (f2 b hb).2⟩
  refine codeAny_forLoop_any (fun n s' => ∃ i σ' H', Inv X pins σ' H' s' ∧ tn i s'.heap ∧ (∀ b ∈ fp, H' b = none) ∧ W i n σ' H') ?_ m0 ⟨0, σ, H2, I2, st2, fun b hb => (f2 b hb).1, w0⟩
  rintro n s3 ⟨i, σ3, H3, I3, st3, fr3, w3⟩
  rcases turn i n σ3 H3 w3 with ⟨stop, qn⟩ | ⟨go, N, hN, step⟩
  · refine wpAny_passesOwn hp (thn (T.done X rfl rfl rfl hc i pins s3 σ3 H3 X.xe I3 (stat fr3) st3 stop) fun r s4 ⟨hr, I4⟩ => ?_)
    subst hr
    exact wpAny_execs_nil ⟨σ3, H3, I4, qn⟩
  · refine wpAny_passesOwn hp (thn (T.item X rfl rfl rfl hc i pins s3 σ3 H3 X.xe I3 (stat fr3) st3 go) fun r s4 ⟨u, hr, h4⟩ => ?_)
    subst hr
    refine wpAny_passesOwn hp (thn h4 fun _ s5 ⟨x, H5, I5, r5, y5, st5, fr5⟩ => ?_)
    have I5' := I5.pinned (stat fr5) (T.obj _ _ st5)
    refine wpAny_passesOwn hp (thn (hg _ s5 σ3 H5 x u _ I5' r5 (step x H5 y5)) fun _ s6 ⟨σ6, H6, I6, q6⟩ => ?_)
    refine wpAny_passesOwn hp (thn (hb _ s6 σ6 H6 _ I6 q6) fun f s7 q7 => ?_)
    have again : ∀ {σ7 : St} {H7 : Hp}, Inv X (pins ++ pinsAt fp s5.heap) σ7 H7 s7 → N σ7 H7 → ∃ m, m < n ∧ ∃ i σ' H', Inv X pins σ' H' s7 ∧ tn i s7.heap ∧ (∀ b ∈ fp, H' b = none) ∧ W i m σ' H' := fun {σ7 H7} I7 n7 => by
      obtain ⟨m', hm, w7⟩ := hN σ7 H7 n7
      refine ⟨m', hm, i + 1, σ7, H7, I7.unpinned, T.keep _ _ _ st5 fun b hb o e => (I7.pin (b, o) (List.mem_append_right _ (List.mem_append_right _ (mem_pinsAt hb e)))).1, fun b hb => ?_, w7⟩
      obtain ⟨o, e, d⟩ := T.obj _ _ st5 b hb
      exact (I7.pin (b, o) (List.mem_append_right _ (List.mem_append_right _ (mem_pinsAt hb e)))).2.1
    cases f with
    | next => obtain ⟨σ7, H7, I7, n7⟩ := q7; exact again I7 n7
    | cont => obtain ⟨σ7, H7, I7, n7⟩ := q7; exact again I7 n7
    | brk => obtain ⟨σ7, H7, I7, q7⟩ := q7; exact ⟨σ7, H7, I7.unpinned, q7⟩
    | ret v => obtain ⟨x7, σ7, H7, I7, r7, q7⟩ := q7; exact ⟨x7, σ7, H7, I7.unpinned, r7, q7⟩
end
theorem for_list {K : PySem.W.Frag} {a : Addr} {xs : List V} {g : TG} {tb : TS} {D : Ends} {σ : St} {H : Hp} (Pv : Nat → St → Hp → Prop) (h0 : Pv 0 σ H) (hl : ∀ i σ H, i ≤ xs.length → Pv i σ H → SqL K H a xs)
    (hs : ∀ i x σ H, xs[i]? = some x → Pv i σ H → g x σ H fun σ2 H2 => tb { D with nx := Pv (i + 1), ct := Pv (i + 1), bk := D.nx } σ2 H2) (hd : ∀ σ H, Pv xs.length σ H → D.nx σ H) :
    ∃ W : Nat → Nat → St → Hp → Prop, (∃ m, W 0 m σ H) ∧ ∀ i m σ H, W i m σ H →
      ((Itl K a).stop i H ∧ D.nx σ H) ∨ ((Itl K a).go i H ∧ ∃ N : St → Hp → Prop, (∀ σ' H', N σ' H' → ∃ m', m' < m ∧ W (i + 1) m' σ' H') ∧ ∀ x H', (Itl K a).yld i H x H' → g x σ H' fun σ2 H2 => tb { D with nx := N, ct := N, bk := D.nx } σ2 H2) := by
  refine ⟨fun i m σ H => m = xs.length - i ∧ i ≤ xs.length ∧ Pv i σ H, ⟨xs.length, by simp, Nat.zero_le _, h0⟩, ?_⟩
  rintro i m σ H ⟨rfl, hi, p⟩
  have q := hl i σ H hi p
  by_cases hlt : i < xs.length
  · refine .inr ⟨⟨xs, xs[i], q, by simp [hlt]⟩, Pv (i + 1), fun σ' H' p' => ⟨xs.length - (i + 1), by omega, rfl, hlt, p'⟩, fun x H' y => ?_⟩
    obtain ⟨e, y⟩ := y
    subst e
    exact hs i x σ _ (y xs q) p
  · have e : i = xs.length := by omega
    subst e
    exact .inl ⟨⟨xs, q, Nat.le_refl _⟩, hd σ H p⟩
theorem for_tup {K : PySem.W.Frag} {a : Addr} {xs : List V} {g : TG} {tb : TS} {D : Ends} {σ : St} {H : Hp} (Pv : Nat → St → Hp → Prop) (h0 : Pv 0 σ H) (hl : ∀ i σ H, i ≤ xs.length → Pv i σ H → SqT K H a xs)
    (hs : ∀ i x σ H, xs[i]? = some x → Pv i σ H → g x σ H fun σ2 H2 => tb { D with nx := Pv (i + 1), ct := Pv (i + 1), bk := D.nx } σ2 H2) (hd : ∀ σ H, Pv xs.length σ H → D.nx σ H) :
    ∃ W : Nat → Nat → St → Hp → Prop, (∃ m, W 0 m σ H) ∧ ∀ i m σ H, W i m σ H →
      ((Itt K a).stop i H ∧ D.nx σ H) ∨ ((Itt K a).go i H ∧ ∃ N : St → Hp → Prop, (∀ σ' H', N σ' H' → ∃ m', m' < m ∧ W (i + 1) m' σ' H') ∧ ∀ x H', (Itt K a).yld i H x H' → g x σ H' fun σ2 H2 => tb { D with nx := N, ct := N, bk := D.nx } σ2 H2) := by
  refine ⟨fun i m σ H => m = xs.length - i ∧ i ≤ xs.length ∧ Pv i σ H, ⟨xs.length, by simp, Nat.zero_le _, h0⟩, ?_⟩
  rintro i m σ H ⟨rfl, hi, p⟩
  have q := hl i σ H hi p
  by_cases hlt : i < xs.length
  · refine .inr ⟨⟨xs, xs[i], q, by simp [hlt]⟩, Pv (i + 1), fun σ' H' p' => ⟨xs.length - (i + 1), by omega, rfl, hlt, p'⟩, fun x H' y => ?_⟩
    obtain ⟨e, y⟩ := y
    subst e
    exact hs i x σ _ (y xs q) p
  · have e : i = xs.length := by omega
    subst e
    exact .inl ⟨⟨xs, q, Nat.le_refl _⟩, hd σ H p⟩
theorem for_range {lo : Int} {n : Nat} {g : TG} {tb : TS} {D : Ends} {σ : St} {H : Hp} (Pv : Nat → St → Hp → Prop) (h0 : Pv 0 σ H)
    (hs : ∀ i σ H, i < n → Pv i σ H → g (.int (lo + i)) σ H fun σ2 H2 => tb { D with nx := Pv (i + 1), ct := Pv (i + 1), bk := D.nx } σ2 H2) (hd : ∀ σ H, Pv n σ H → D.nx σ H) :
    ∃ W : Nat → Nat → St → Hp → Prop, (∃ m, W 0 m σ H) ∧ ∀ i m σ H, W i m σ H →
      ((Itr lo n).stop i H ∧ D.nx σ H) ∨ ((Itr lo n).go i H ∧ ∃ N : St → Hp → Prop, (∀ σ' H', N σ' H' → ∃ m', m' < m ∧ W (i + 1) m' σ' H') ∧ ∀ x H', (Itr lo n).yld i H x H' → g x σ H' fun σ2 H2 => tb { D with nx := N, ct := N, bk := D.nx } σ2 H2) := by
  refine ⟨fun i m σ H => m = n - i ∧ i ≤ n ∧ Pv i σ H, ⟨n, by simp, Nat.zero_le _, h0⟩, ?_⟩
  rintro i m σ H ⟨rfl, hi, p⟩
  by_cases hlt : i < n
  · refine .inr ⟨hlt, Pv (i + 1), fun σ' H' p' => ⟨n - (i + 1), by omega, rfl, hlt, p'⟩, fun x H' y => ?_⟩
    obtain ⟨e, y⟩ := y
    subst e y
    exact hs i σ _ hlt p
  · have e : i = n := by omega
    subst e
    exact .inl ⟨Nat.le_refl _, hd σ H p⟩
theorem while_by {c : TT} {tb : TS} {D : Ends} {σ : St} {H : Hp} (Pv : St → Hp → Prop) (μ : St → Hp → Nat) (h0 : Pv σ H)
    (hs : ∀ σ H, Pv σ H → c σ H fun b H1 => if b = true then tb { D with nx := fun σ' H' => Pv σ' H' ∧ μ σ' H' < μ σ H, ct := fun σ' H' => Pv σ' H' ∧ μ σ' H' < μ σ H, bk := D.nx } σ H1 else D.nx σ H1)
    (mono : ∀ σ H Q Q', (∀ b H1, Q b H1 → Q' b H1) → c σ H Q → c σ H Q') : tWhile c tb D σ H := by
  refine ⟨fun m σ H => m = μ σ H ∧ Pv σ H, ⟨_, rfl, h0⟩, ?_⟩
  rintro m σ H ⟨rfl, p⟩
  refine mono σ H _ _ (fun b H1 q => ?_) (hs σ H p)
  cases b with
  | true => exact ⟨_, fun σ' H' ⟨p', l⟩ => ⟨_, l, rfl, p'⟩, q⟩
  | false => exact q
end L2
namespace L2
open PySem PySem.Spec PyProof.Rows
abbrev R2 := V → V → Hp → VK → Prop
def OpR (X : Cx) (f : Value → Value → Sem Value) (r : R2) : Prop :=
  ∀ (pins : List (Addr × Obj)) (s : Shared) (σ : St) (H : Hp) (x y : V) (v u : Value) (Q : VK), Inv X pins σ H s → RelV x v → RelV y u → r x y H Q →
    wpAny (model X.prog X.w) X.A (f v u) (EP X pins σ Q) X.xe s
def UnR (X : Cx) (f : Value → Sem Value) (r : V → Hp → VK → Prop) : Prop :=
  ∀ (pins : List (Addr × Obj)) (s : Shared) (σ : St) (H : Hp) (x : V) (v : Value) (Q : VK), Inv X pins σ H s → RelV x v → r x H Q →
    wpAny (model X.prog X.w) X.A (f v) (EP X pins σ Q) X.xe s
def CallR (X : Cx) (f : Value) (r : List V → Hp → VK → Prop) : Prop :=
  ∀ (pins : List (Addr × Obj)) (s : Shared) (σ : St) (H : Hp) (xs : List V) (us : List Value) (Q : VK), Inv X pins σ H s → Vals xs us → r xs H Q →
    wpAny (model X.prog X.w) X.A (call f us) (EP X pins σ Q) X.xe s
def TruR (X : Cx) (r : V → Hp → (Bool → Hp → Prop) → Prop) : Prop :=
  ∀ (pins : List (Addr × Obj)) (s : Shared) (σ : St) (H : Hp) (x : V) (v : Value) (Q : Bool → Hp → Prop), Inv X pins σ H s → RelV x v → r x H Q →
    wpAny (model X.prog X.w) X.A (truthy v) (TP X pins σ Q) X.xe s
def tOp (r : R2) (ta tb : TE) : TE := fun σ H Q => ta σ H fun x H1 => tb σ H1 fun y H2 => r x y H2 Q
def tUn (r : V → Hp → VK → Prop) (ta : TE) : TE := fun σ H Q => ta σ H fun x H1 => r x H1 Q
def rI (C : Int → Int → Prop) (g : Int → Int → V) : R2 := fun x y H Q => ∃ i j, x = .int i ∧ y = .int j ∧ C i j ∧ Q (g i j) H
def rI0 (g : Int → Int → V) : R2 := fun x y H Q => ∃ i j, x = .int i ∧ y = .int j ∧ Q (g i j) H
def rU (g : Int → V) : V → Hp → VK → Prop := fun x H Q => ∃ i, x = .int i ∧ Q (g i) H
section
variable {X : Cx} {a b c : Expr} {ta tb tc : TE} {pos : Pos}
theorem binT (ha : PE X a ta) (hb : PE X b tb) {pins : List (Addr × Obj)} {s : Shared} {σ : St} {H : Hp} {R : V → V → Hp → Prop} (I : Inv X pins σ H s)
    (h : ta σ H fun x H1 => tb σ H1 fun y H2 => R x y H2) {Q : Value → Shared → Prop} {f : Value → Value → Sem Value}
    (hf : ∀ v u s2 x y H2, Inv X pins σ H2 s2 → RelV x v → RelV y u → R x y H2 → wpAny (model X.prog X.w) X.A (f v u) Q X.xe s2) :
    wpAny (model X.prog X.w) X.A (eval a X.env) (fun v s₁ => wpAny (model X.prog X.w) X.A (eval b X.env) (fun u s₂ => wpAny (model X.prog X.w) X.A (f v u) Q X.xe s₂) X.xe s₁) X.xe s := by
  refine thn (ha pins s σ H _ I h) fun v s1 ⟨x, H1, I1, r1, q1⟩ => ?_
  refine thn (hb pins s1 σ H1 _ I1 q1) fun u s2 ⟨y, H2, I2, r2, q2⟩ => ?_
  exact hf v u s2 x y H2 I2 r1 r2 q2
theorem pe_op {op : Operator} {r : R2} (ho : OpR X (binaryOp op) r) (ha : PE X a ta) (hb : PE X b tb) : PE X (.BinOp a op b pos) (tOp r ta tb) := by
  intro pins s σ H Q I h
  exact wpAny_BinOp (binT ha hb I h fun v u s2 x y H2 I2 rx ry q => ho pins s2 σ H2 x y v u Q I2 rx ry q)
theorem pe_un {op : UnaryOp} {r : V → Hp → VK → Prop} (ho : UnR X (unaryOp op) r) (ha : PE X a ta) : PE X (.UnaryOp op a pos) (tUn r ta) := by
  intro pins s σ H Q I h
  exact UnaryOp_ (thn (ha pins s σ H _ I h) fun v s1 ⟨x, H1, I1, r1, q1⟩ => ho pins s1 σ H1 x v Q I1 r1 q1)
theorem opI {f : Value → Value → Sem Value} {C : Int → Int → Prop} {g : Int → Int → Int}
    (rule : ∀ (i j : Int) (t u : Tok) (s : Shared) (Q : Value → Shared → Prop) (E : Value → Shared → Prop), C i j → Q (.int (g i j) s.toks) { s with toks := s.toks + 1 } → wpAny (model X.prog X.w) X.A (f (.int i t) (.int j u)) Q E s) :
    OpR X f (rI C fun i j => .int (g i j)) := by
  intro pins s σ H x y v u Q I rx ry h
  obtain ⟨i, j, rfl, rfl, hc, q⟩ := h
  obtain ⟨t, rfl⟩ := rx
  obtain ⟨t', rfl⟩ := ry
  exact rule i j t t' s _ _ hc ⟨.int (g i j), H, I.tok _, ⟨_, rfl⟩, q⟩
theorem opI0 {f : Value → Value → Sem Value} {g : Int → Int → Int}
    (rule : ∀ (i j : Int) (t u : Tok) (s : Shared) (Q : Value → Shared → Prop) (E : Value → Shared → Prop), Q (.int (g i j) s.toks) { s with toks := s.toks + 1 } → wpAny (model X.prog X.w) X.A (f (.int i t) (.int j u)) Q E s) :
    OpR X f (rI0 fun i j => .int (g i j)) := by
  intro pins s σ H x y v u Q I rx ry h
  obtain ⟨i, j, rfl, rfl, q⟩ := h
  obtain ⟨t, rfl⟩ := rx
  obtain ⟨t', rfl⟩ := ry
  exact rule i j t t' s _ _ ⟨.int (g i j), H, I.tok _, ⟨_, rfl⟩, q⟩
theorem opB0 {f : Value → Value → Sem Value} {g : Int → Int → Bool}
    (rule : ∀ (i j : Int) (t u : Tok) (s : Shared) (Q : Value → Shared → Prop) (E : Value → Shared → Prop), Q (.bool (g i j)) s → wpAny (model X.prog X.w) X.A (f (.int i t) (.int j u)) Q E s) :
    OpR X f (rI0 fun i j => .bl (g i j)) := by
  intro pins s σ H x y v u Q I rx ry h
  obtain ⟨i, j, rfl, rfl, q⟩ := h
  obtain ⟨t, rfl⟩ := rx
  obtain ⟨t', rfl⟩ := ry
  exact rule i j t t' s _ _ ⟨.bl (g i j), H, I, rfl, q⟩
def CPow (i j : Int) : Prop := 0 ≤ j ∧ j ≤ 1000000 ∧ i.natAbs < 2 ^ 64
def CMul (i j : Int) : Prop := (-(2 ^ 64) < i ∧ i < 2 ^ 64) ∨ (-(2 ^ 64) < j ∧ j < 2 ^ 64)
theorem CMul.ok {i j : Int} (h : CMul i j) : IntMulOk i j := by
  rcases h with ⟨h1, h2⟩ | ⟨h1, h2⟩
  · exact .of_left (intBits_le_64 h1 h2)
  · exact .of_right (intBits_le_64 h1 h2)
theorem op_add : OpR X (binaryOp .Add) (rI0 fun i j => .int (i + j)) := opI0 fun _ _ _ _ _ _ _ q => add_int q
theorem op_sub : OpR X (binaryOp .Sub) (rI0 fun i j => .int (i - j)) := opI0 fun _ _ _ _ _ _ _ q => sub_int q
theorem op_mul : OpR X (binaryOp .Mult) (rI CMul fun i j => .int (i * j)) := opI fun _ _ _ _ _ _ _ hc q => mul_int q hc.ok
theorem op_mod : OpR X (binaryOp .Mod) (rI (fun _ j => 0 < j) fun i j => .int (i % j)) := opI fun i j _ _ _ _ _ hc q => by
  have h1 : (0 : Int) < j := hc
  exact mod_int' (by omega) (by rw [Int.fmod_eq_emod_of_nonneg i (by omega)]; exact q)
theorem op_pow : OpR X (binaryOp .Pow) (rI CPow fun i j => .int (i ^ j.toNat)) := opI fun _ _ _ _ _ _ _ hc q => pow_int_small hc.1 hc.2.1 hc.2.2 q
theorem unI {f : Value → Sem Value} {g : Int → Int}
    (rule : ∀ (i : Int) (t : Tok) (s : Shared) (Q : Value → Shared → Prop) (E : Value → Shared → Prop), Q (.int (g i) s.toks) { s with toks := s.toks + 1 } → wpAny (model X.prog X.w) X.A (f (.int i t)) Q E s) :
    UnR X f (rU fun i => .int (g i)) := by
  intro pins s σ H x v Q I rx h
  obtain ⟨i, rfl, q⟩ := h
  obtain ⟨t, rfl⟩ := rx
  exact rule i t s _ _ ⟨.int (g i), H, I.tok _, ⟨_, rfl⟩, q⟩
theorem un_neg : UnR X (unaryOp .USub) (rU fun i => .int (-i)) := unI fun _ _ _ _ _ q => neg_int q
end
def scal : V → V → Bool
  | .non, .non => true | .non, .int _ => true | .int _, .non => true | .non, .bl _ => true | .bl _, .non => true | .non, .str _ => true | .str _, .non => true
  | .int _, .int _ => true | .bl _, .bl _ => true | .str _, .str _ => true | .byt _, .byt _ => true
  | .int _, .str _ => true | .str _, .int _ => true | .bl _, .str _ => true | .str _, .bl _ => true
  | _, _ => false
def rEq : R2 := fun x y H Q => scal x y = true ∧ Q (.bl (decide (x = y))) H
def rNe : R2 := fun x y H Q => scal x y = true ∧ Q (.bl (!decide (x = y))) H
theorem dec_int {i j : Int} : decide (V.int i = V.int j) = (i == j) := by
  rw [Bool.eq_iff_iff]
  simp
theorem dec_bl {i j : Bool} : decide (V.bl i = V.bl j) = (i == j) := by
  rw [Bool.eq_iff_iff]
  simp
theorem dec_str {i j : Str} : decide (V.str i = V.str j) = (i == j) := by
  rw [Bool.eq_iff_iff]
  simp
theorem dec_byt {i j : Array UInt8} : decide (V.byt i = V.byt j) = (i.toList == j.toList) := by
  rw [Bool.eq_iff_iff]
  cases i
  cases j
  simp
section
variable {X : Cx} {a b c : Expr} {ta tb tc : TE} {pos : Pos}
theorem fin_bl {pins : List (Addr × Obj)} {σ : St} {H : Hp} {s : Shared} {Q : VK} {k k' : Bool} (I : Inv X pins σ H s) (q : Q (.bl k) H) (e : k = k') : EP X pins σ Q (.bool k') s := by
  subst e
  exact ⟨.bl k, H, I, rfl, q⟩
theorem op_eq : OpR X (compareOp .Eq) rEq := by
  intro pins s σ H x y v u Q I rx ry h
  obtain ⟨hs, q⟩ := h
  cases x with
  | non =>
    cases rx
    cases y with
    | non => cases ry; exact PySem.EqNone.eq_none_none (fin_bl I q (by simp))
    | bl j => cases ry; exact PySem.EqNone.eq_none_bool (fin_bl I q (by simp))
    | int j => obtain ⟨t', rfl⟩ := ry; exact PySem.EqNone.eq_none_int (fin_bl I q (by simp))
    | str j => obtain ⟨t', rfl⟩ := ry; exact PySem.EqNone.eq_none_str (fin_bl I q (by simp))
    | _ => exact absurd (show false = true from hs) Bool.false_ne_true
  | bl i =>
    cases rx
    cases y with
    | non => cases ry; exact PySem.EqNone.eq_bool_none (fin_bl I q (by simp))
    | bl j => cases ry; exact eq_bool (fin_bl I q dec_bl)
    | str j => obtain ⟨t', rfl⟩ := ry; exact PySem.EqMixed.eq_bool_str (fin_bl I q (by simp))
    | _ => exact absurd (show false = true from hs) Bool.false_ne_true
  | int i =>
    obtain ⟨t, rfl⟩ := rx
    cases y with
    | non => cases ry; exact PySem.EqNone.eq_int_none (fin_bl I q (by simp))
    | int j => obtain ⟨t', rfl⟩ := ry; exact eq_int (fin_bl I q dec_int)
    | str j => obtain ⟨t', rfl⟩ := ry; exact PySem.EqMixed.eq_int_str (fin_bl I q (by simp))
    | _ => exact absurd (show false = true from hs) Bool.false_ne_true
  | str i =>
    obtain ⟨t, rfl⟩ := rx
    cases y with
    | non => cases ry; exact PySem.EqNone.eq_str_none (fin_bl I q (by simp))
    | bl j => cases ry; exact PySem.EqMixed.eq_str_bool (fin_bl I q (by simp))
    | int j => obtain ⟨t', rfl⟩ := ry; exact PySem.EqMixed.eq_str_int (fin_bl I q (by simp))
    | str j => obtain ⟨t', rfl⟩ := ry; exact eq_str (fin_bl I q dec_str)
    | _ => exact absurd (show false = true from hs) Bool.false_ne_true
  | byt i =>
    obtain ⟨t, rfl⟩ := rx
    cases y with
    | byt j => obtain ⟨t', rfl⟩ := ry; exact PySem.W.eq_bytes (fin_bl I q dec_byt)
    | _ => exact absurd (show false = true from hs) Bool.false_ne_true
  | _ => cases y <;> exact absurd (show false = true from hs) Bool.false_ne_true
theorem op_ne : OpR X (compareOp .NotEq) rNe := by
  intro pins s σ H x y v u Q I rx ry h
  obtain ⟨hs, q⟩ := h
  cases x with
  | non =>
    cases rx
    cases y with
    | non => cases ry; exact PySem.EqNone.ne_none_none (fin_bl I q (by simp))
    | bl j => cases ry; exact PySem.EqNone.ne_none_bool (fin_bl I q (by simp))
    | int j => obtain ⟨t', rfl⟩ := ry; exact PySem.EqNone.ne_none_int (fin_bl I q (by simp))
    | str j => obtain ⟨t', rfl⟩ := ry; exact PySem.EqNone.ne_none_str (fin_bl I q (by simp))
    | _ => exact absurd (show false = true from hs) Bool.false_ne_true
  | bl i =>
    cases rx
    cases y with
    | non => cases ry; exact PySem.EqNone.ne_bool_none (fin_bl I q (by simp))
    | bl j => cases ry; exact ne_bool (fin_bl I q (congrArg not dec_bl))
    | str j => obtain ⟨t', rfl⟩ := ry; exact PySem.EqMixed.ne_bool_str (fin_bl I q (by simp))
    | _ => exact absurd (show false = true from hs) Bool.false_ne_true
  | int i =>
    obtain ⟨t, rfl⟩ := rx
    cases y with
    | non => cases ry; exact PySem.EqNone.ne_int_none (fin_bl I q (by simp))
    | int j => obtain ⟨t', rfl⟩ := ry; exact ne_int (fin_bl I q (congrArg not dec_int))
    | str j => obtain ⟨t', rfl⟩ := ry; exact PySem.EqMixed.ne_int_str (fin_bl I q (by simp))
    | _ => exact absurd (show false = true from hs) Bool.false_ne_true
  | str i =>
    obtain ⟨t, rfl⟩ := rx
    cases y with
    | non => cases ry; exact PySem.EqNone.ne_str_none (fin_bl I q (by simp))
    | bl j => cases ry; exact PySem.EqMixed.ne_str_bool (fin_bl I q (by simp))
    | int j => obtain ⟨t', rfl⟩ := ry; exact PySem.EqMixed.ne_str_int (fin_bl I q (by simp))
    | str j => obtain ⟨t', rfl⟩ := ry; exact ne_str (fin_bl I q (congrArg not dec_str))
    | _ => exact absurd (show false = true from hs) Bool.false_ne_true
  | byt i =>
    obtain ⟨t, rfl⟩ := rx
    cases y with
    | byt j => obtain ⟨t', rfl⟩ := ry; exact PySem.W.ne_bytes (fin_bl I q (congrArg not dec_byt))
    | _ => exact absurd (show false = true from hs) Bool.false_ne_true
  | _ => cases y <;> exact absurd (show false = true from hs) Bool.false_ne_true
theorem op_lt : OpR X (compareOp .Lt) (rI0 fun i j => .bl (decide (i < j))) := opB0 fun _ _ _ _ _ _ _ q => lt_int q
theorem op_gt : OpR X (compareOp .Gt) (rI0 fun i j => .bl (decide (j < i))) := opB0 fun _ _ _ _ _ _ _ q => gt_int q
theorem op_ge : OpR X (compareOp .GtE) (rI0 fun i j => .bl (decide (j ≤ i))) := opB0 fun _ _ _ _ _ _ _ q => ge_int q
theorem OpR.or {f : Value → Value → Sem Value} {r r' : R2} (h : OpR X f r) (h' : OpR X f r') : OpR X f (fun x y H Q => r x y H Q ∨ r' x y H Q) := by
  intro pins s σ H x y v u Q I rx ry q
  rcases q with q | q
  · exact h pins s σ H x y v u Q I rx ry q
  · exact h' pins s σ H x y v u Q I rx ry q
theorem nomark (b : Expr) {op : CmpOp} (h : op ≠ .In := by decide) (h2 : op ≠ .NotIn := by decide) : behindInMarks op b = false := by
  have e1 : (op == CmpOp.In) = false := by cases op <;> first | rfl | exact absurd rfl h
  have e2 : (op == CmpOp.NotIn) = false := by cases op <;> first | rfl | exact absurd rfl h2
  cases b <;> simp [behindInMarks, e1, e2]
theorem pe_cmpR {op : CmpOp} {r : R2} (ho : OpR X (compareOp op) r) (ha : PE X a ta) (hb : PE X b tb) (hm : behindInMarks op b = false) : PE X (.Compare a [op] [b] pos) (tOp r ta tb) := by
  intro pins s σ H Q I h
  exact wpAny_Compare1 (binT ha hb I h fun v u s2 x y H2 I2 rx ry q => ho pins s2 σ H2 x y v u Q I2 rx ry q) hm
def tTest (t : TE) : TT := fun σ H Q => t σ H fun x H' => ∃ k, x = .bl k ∧ Q k H'
theorem pt_cmpR {op : CmpOp} {r : R2} (ho : OpR X (compareOp op) r) (ha : PE X a ta) (hb : PE X b tb) (hm : behindInMarks op b = false) : PT X (.Compare a [op] [b] pos) (tTest (tOp r ta tb)) := by
  intro pins s σ H Q I h
  refine wpAny_isTrue_Compare1 (thn (ha pins s σ H _ I h) fun v s1 ⟨x, H1, I1, r1, q1⟩ => thn (hb pins s1 σ H1 _ I1 q1) fun u s2 ⟨y, H2, I2, r2, q2⟩ =>
    thn (ho pins s2 σ H2 x y v u _ I2 r1 r2 q2) fun c s3 ⟨z, H3, I3, r3, k, e, q3⟩ => ?_) hm
  subst e
  cases r3
  exact wpAny_truthy_bool ⟨H3, I3, q3⟩
def TruV (K : PySem.W.Frag) (x : V) (H : Hp) (k : Bool) : Prop :=
  match x with
  | .non => k = false
  | .bl b => k = b
  | .int i => k = (i != 0)
  | .str y => y.length ≤ sizeLine ∧ k = ((y.length : Int) != 0)
  | .byt y => y.size ≤ sizeLine ∧ k = ((y.size : Int) != 0)
  | .ref p => (∃ xs, SqL K H p xs ∧ k = !xs.isEmpty) ∨ (∃ xs, SqT K H p xs ∧ k = !xs.isEmpty) ∨ ∃ kvs, H p = some (.dK kvs) ∧ k = !kvs.isEmpty
  | _ => False
theorem isEmpty_kv {κ : Type} {kvs : List (κ × V)} {vs : List (κ × Value)} (r : KV kvs vs) : (!vs.isEmpty) = !kvs.isEmpty := by
  cases r <;> rfl
theorem isEmpty_of {xs : List V} {its : List Value} (r : Vals xs its) : (!its.toArray.isEmpty) = !xs.isEmpty := by
  cases r <;> simp
theorem line63 : (sizeLine : Nat) < 2 ^ 63 := by rw [sizeLine_eq]; decide
theorem tru_ok : TruR X (fun x H Q => ∃ k, TruV X.K x H k ∧ Q k H) := by
  intro pins s σ H x v Q I rx h
  obtain ⟨k, e, q⟩ := h
  have hl := line63
  have hs : sizeLine = 16777216 := sizeLine_eq
  cases x with
  | non =>
    cases rx
    have e' : k = false := e
    subst e'
    exact truthy_none ⟨H, I, q⟩
  | bl b =>
    cases rx
    have e' : k = b := e
    subst e'
    exact wpAny_truthy_bool ⟨H, I, q⟩
  | int i =>
    obtain ⟨t, rfl⟩ := rx
    have e' : k = (i != 0) := e
    subst e'
    exact PySem.P.truthy_int ⟨H, I, q⟩
  | str y =>
    obtain ⟨t, rfl⟩ := rx
    obtain ⟨hy, e'⟩ : y.length ≤ sizeLine ∧ k = ((y.length : Int) != 0) := e
    subst e'
    exact PySem.P.truthy_str (by omega) ⟨H, I.tok _, q⟩
  | byt y =>
    obtain ⟨t, rfl⟩ := rx
    obtain ⟨hy, e'⟩ : y.size ≤ sizeLine ∧ k = ((y.size : Int) != 0) := e
    subst e'
    exact PySem.W.truthy_bytes (by omega) ⟨H, I.tok _, q⟩
  | ref p =>
    cases rx
    have e' : (∃ xs, SqL X.K H p xs ∧ k = !xs.isEmpty) ∨ (∃ xs, SqT X.K H p xs ∧ k = !xs.isEmpty) ∨ ∃ kvs, H p = some (.dK kvs) ∧ k = !kvs.isEmpty := e
    rcases e' with ⟨xs, hx, e'⟩ | ⟨xs, hx, e'⟩ | ⟨kvs, hx, e'⟩
    · subst e'
      obtain ⟨its, r, pl, hz⟩ := I.list hx
      have hlen := r.length
      exact wpAny_truthy_list pl.isList (by simp only [List.size_toArray]; omega) ⟨H, I.tok _, by rw [isEmpty_of r]; exact q⟩
    · subst e'
      obtain ⟨its, r, pl, hz⟩ := I.tuple hx
      have hlen := r.length
      exact truthy_tuple pl (by simp only [List.size_toArray]; omega) ⟨H, I.tok _, by rw [isEmpty_of r]; exact q⟩
    · subst e'
      obtain ⟨hz, hS, vs, r, m⟩ : kvs.length ≤ sizeLine ∧ (p == sysModules) = false ∧ ∃ vs, KV kvs vs ∧ s.heap.DictOf (mixKind X.prog X.w) p vs := I.hok p _ hx
      have hlen : kvs.length = vs.length := Paired.length r
      exact wpAny_truthy_dict hS m (by omega) ⟨H, I.tok _, by rw [isEmpty_kv r]; exact q⟩
  | _ => exact (show False from e).elim
theorem pt_truth (ha : PE X a ta) (he : ∀ whole, isTrue a X.env whole = (do let v ← whole; standAt a.pos; holding [v] (truthy v))) :
    PT X a (fun σ H Q => ta σ H fun x H' => ∃ k, TruV X.K x H' k ∧ Q k H') := by
  intro pins s σ H Q I h
  exact isTrue_plain (thn (ha pins s σ H _ I h) fun v s1 ⟨x, H1, I1, r1, q1⟩ => tru_ok pins s1 σ H1 x v Q I1 r1 q1) (he _)
theorem op_add_str : OpR X (binaryOp .Add) (fun x y H Q => ∃ i j, x = .str i ∧ y = .str j ∧ i.length + j.length ≤ sizeLine ∧ Q (.str (i ++ j)) H) := by
  intro pins s σ H x y v u Q I rx ry h
  obtain ⟨i, j, rfl, rfl, hz, q⟩ := h
  obtain ⟨t, rfl⟩ := rx
  obtain ⟨t', rfl⟩ := ry
  exact add_str (fun t' tk => ⟨.str (i ++ j), H, I.tok _, ⟨_, rfl⟩, q⟩) hz
theorem vals1 {x : V} {us : List Value} (r : Vals [x] us) : ∃ u, us = [u] ∧ RelV x u := by
  cases r with
  | cons r1 r2 => cases r2; exact ⟨_, rfl, r1⟩
theorem vals2 {x y : V} {us : List Value} (r : Vals [x, y] us) : ∃ u w', us = [u, w'] ∧ RelV x u ∧ RelV y w' := by
  cases r with
  | cons r1 r2 =>
    cases r2 with
    | cons r3 r4 => cases r4; exact ⟨_, _, rfl, r1, r3⟩
theorem call_max2 (hc : X.calm = true) : CallR X (.builtin "max") (fun xs H Q => ∃ i j, xs = [.int i, .int j] ∧ Q (.int (if j > i then j else i)) H) := by
  intro pins s σ H xs us Q I r h
  obtain ⟨i, j, rfl, q⟩ := h
  obtain ⟨u, w', rfl, ⟨t, rfl⟩, ⟨t', rfl⟩⟩ := vals2 r
  refine max_two_ints (I.ok.hd hc) fun h' tk k => ⟨_, H, I.kept k, ?_, q⟩
  by_cases hj : j > i
  · rw [if_pos hj, if_pos hj]; exact ⟨_, rfl⟩
  · rw [if_neg hj, if_neg hj]; exact ⟨_, rfl⟩
theorem call_min2 (hc : X.calm = true) : CallR X (.builtin "min") (fun xs H Q => ∃ i j, xs = [.int i, .int j] ∧ Q (.int (if j < i then j else i)) H) := by
  intro pins s σ H xs us Q I r h
  obtain ⟨i, j, rfl, q⟩ := h
  obtain ⟨u, w', rfl, ⟨t, rfl⟩, ⟨t', rfl⟩⟩ := vals2 r
  refine min_two_ints (I.ok.hd hc) fun h' tk k => ⟨_, H, I.kept k, ?_, q⟩
  by_cases hj : j < i
  · rw [if_pos hj, if_pos hj]; exact ⟨_, rfl⟩
  · rw [if_neg hj, if_neg hj]; exact ⟨_, rfl⟩
theorem call_int1 : CallR X (.type "int") (fun xs H Q => (∃ i, xs = [.int i] ∧ Q (.int i) H) ∨ ∃ k, xs = [.bl k] ∧ Q (.int (if k then 1 else 0)) H) := by
  intro pins s σ H xs us Q I r h
  rcases h with ⟨i, rfl, q⟩ | ⟨k, rfl, q⟩
  · obtain ⟨u, rfl, t, rfl⟩ := vals1 r
    exact call_int_int ⟨.int i, H, I, ⟨_, rfl⟩, q⟩
  · obtain ⟨u, rfl, r1⟩ := vals1 r
    cases r1
    exact call_int_bool ⟨.int (if k then 1 else 0), H, I.tok _, ⟨_, rfl⟩, q⟩
def LenV (K : PySem.W.Frag) (x : V) (H : Hp) (n : Nat) : Prop :=
  match x with
  | .str y => y.length ≤ sizeLine ∧ n = y.length
  | .byt y => y.size ≤ sizeLine ∧ n = y.size
  | .ref p => (∃ xs, SqL K H p xs ∧ n = xs.length) ∨ ∃ xs, SqT K H p xs ∧ n = xs.length
  | _ => False
theorem call_len : CallR X (.builtin "len") (fun xs H Q => ∃ x n, xs = [x] ∧ LenV X.K x H n ∧ Q (.int n) H) := by
  intro pins s σ H xs us Q I r h
  obtain ⟨x, n, rfl, e, q⟩ := h
  obtain ⟨u, rfl, rx⟩ := vals1 r
  have hl := line63
  have hs : sizeLine = 16777216 := sizeLine_eq
  cases x with
  | str y =>
    obtain ⟨t, rfl⟩ := rx
    obtain ⟨hy, e'⟩ : y.length ≤ sizeLine ∧ n = y.length := e
    subst e'
    exact len_str (by omega) ⟨.int _, H, I.tok _, ⟨_, rfl⟩, q⟩
  | byt y =>
    obtain ⟨t, rfl⟩ := rx
    obtain ⟨hy, e'⟩ : y.size ≤ sizeLine ∧ n = y.size := e
    subst e'
    exact PySem.W.len_bytes (by omega) ⟨.int _, H, I.tok _, ⟨_, rfl⟩, q⟩
  | ref p =>
    cases rx
    have e' : (∃ xs, SqL X.K H p xs ∧ n = xs.length) ∨ ∃ xs, SqT X.K H p xs ∧ n = xs.length := e
    rcases e' with ⟨xs, hx, e'⟩ | ⟨xs, hx, e'⟩
    · subst e'
      obtain ⟨its, r', pl, hz⟩ := I.list hx
      have hlen := r'.length
      exact Calls.call_len_list pl.isList (by simp only [List.size_toArray]; omega) ⟨.int xs.length, H, I.tok _, ⟨_, by simp only [List.size_toArray]; rw [hlen]⟩, q⟩
    · subst e'
      obtain ⟨its, r', pl, hz⟩ := I.tuple hx
      have hlen := r'.length
      exact len_tuple pl (by simp only [List.size_toArray]; omega) ⟨.int xs.length, H, I.tok _, ⟨_, by simp only [List.size_toArray]; rw [hlen]⟩, q⟩
  | _ => exact (show False from e).elim
end
end L2
namespace L2
open PySem PySem.Spec PyProof.Rows
structure ObjM (h : Heap) (x dx C : Addr) (mA : Str → Option Value) : Prop where
  obj : h.get? x = some (PySem.W.instObj C dx)
  ns : h.Ns1 dx mA
  ne : dx ≠ x
theorem lookIn_ns {h : Heap} {dx : Addr} {mA : Str → Option Value} (n : h.Ns1 dx mA) : ∃ od, h.get? dx = some od ∧ ∀ name, PySem.W.lookIn name od = some (mA name) := by
  obtain ⟨o, es, ep, ho, hd, hk, _, hm⟩ := n
  refine ⟨o, ho, fun name => ?_⟩
  have e := hm name
  unfold nsFind findBy at e
  rw [← Array.find?_toList] at e
  unfold PySem.W.lookIn
  rw [hd]
  dsimp only
  split
  · rename_i y q
    rw [q] at e
    exact congrArg some e
  · rename_i q
    rw [q] at e
    have a : es.toList.any (·.refKey) = false := by
      rw [List.any_eq_false]
      intro y hy
      obtain ⟨z, t, hkey⟩ := hk y (Array.mem_toList_iff.mp hy)
      simp [DictEntry.refKey, hkey]
    have a' : ¬ es.toList.any (·.refKey) = true := by rw [a]; exact Bool.false_ne_true
    rw [if_neg a']
    exact congrArg some e
theorem ObjM.look {h : Heap} {x dx C : Addr} {mA : Str → Option Value} (I : ObjM h x dx C mA) : ∃ od, PySem.W.InstAt h x (PySem.W.instObj C dx) C (some od) ∧ ∀ name, PySem.W.lookIn name od = some (mA name) :=
  let ⟨od, ho, hl⟩ := lookIn_ns I.ns
  ⟨od, ⟨I.obj, rfl, rfl, ho⟩, hl⟩
section
variable {prog : Program} {w : World} {A : Around} {E : Value → Shared → Prop} {s : Shared} {K : PySem.W.Frag} {x dx C f : Addr} {mA : Str → Option Value} {name : Str} {v : Value}
end
theorem RelO.some_of {v : V} {o : Option Value} (r : RelO (some v) o) : ∃ u, o = some u ∧ RelV v u := by
  cases o with
  | none => exact (show False from r).elim
  | some u => exact ⟨u, rfl, r⟩
theorem RelO.none_of {o : Option Value} (r : RelO none o) : o = none := by
  cases o with
  | none => rfl
  | some u => exact (show False from r).elim
section
variable {P : Program} {w : World} {H H' : Hp} {h h' : Heap} {a C dx : Addr} {fs fs' : List (Str × V)}
theorem ins_get (hok : HOk P w H h) (e : H a = some (.ins C dx fs)) : ∃ mA, ObjM h a dx C mA ∧ (∀ f, RelO (fs.lookup f) (mA f)) ∧ PySem.Within mA (fs.map (·.1)) ∧ fs.length ≤ 1000 ∧ H dx = some (.own a) := by
  obtain ⟨d, z, ne, ob, mA, n, r, q⟩ := (show ObjOk P w H h a (.ins C dx fs) from hok a _ e)
  exact ⟨mA, ⟨ob, n, ne⟩, r, q, z, d⟩
end
structure Cls (K : PySem.W.Frag) (C : Addr) : Prop where
  pg : PySem.W.plainGet K C Str.empty = true
  hd : PySem.W.hasDictIn K C = true
  po : PySem.W.plainOver K C = true
  sa : PySem.W.findIn K (.ref C) "__setattr__" = some (some (.builtin "object.__setattr__"))
theorem Cls.get {K : PySem.W.Frag} {C : Addr} (c : Cls K C) (f : Str) : PySem.W.plainGet K C f = true := c.pg
section
variable {X : Cx} {pins : List (Addr × Obj)} {σ : St} {H : Hp} {s : Shared} {a C dx : Addr} {fs : List (Str × V)} {f : Str} {v : V} {A : Around} {E : Value → Shared → Prop}
end
section
variable {X : Cx} {o e value : Expr} {f : Str} {pos pos' tpos : Pos} {ta tv : TE}
end
section
variable {X : Cx} {pins : List (Addr × Obj)} {σ : St} {H : Hp} {s : Shared} {A : Around} {E : Value → Shared → Prop} {Q : Value → Shared → Prop} {c : Value} {b : Bool}
inductive TyOf (K : PySem.W.Frag) (H : Hp) : V → Value → Prop where
  | non : TyOf K H .non (.type "NoneType")
  | bl (x : Bool) : TyOf K H (.bl x) (.type "bool")
  | int (i : Int) : TyOf K H (.int i) (.type "int")
  | str (x : Str) : TyOf K H (.str x) (.type "str")
  | flt (x : UInt64) : TyOf K H (.flt x) (.type "float")
  | lst {a : Addr} {xs : List V} (e : H a = some (.lst xs)) : TyOf K H (.ref a) (.type "list")
  | frz {a : Addr} {o : Obj} {xs : List V} (e : H a = some (.frz o (.lst xs))) : TyOf K H (.ref a) (.type "list")
  | tup {a : Addr} {xs : List V} (e : H a = some (.tup xs)) : TyOf K H (.ref a) (.type "tuple")
  | dK {a : Addr} {kvs : List (Key × V)} (e : H a = some (.dK kvs)) : TyOf K H (.ref a) (.type "dict")
  | dT {a : Addr} {kvs : List (List Key × V)} (e : H a = some (.dT kvs)) : TyOf K H (.ref a) (.type "dict")
  | ins {a C dx : Addr} {fs : List (Str × V)} (e : H a = some (.ins C dx fs)) (cl : Cls K C) (ha : PySem.W.findIn K (.ref C) "__class__" = some (some (.builtin "object.__class__")))
      (hn : PySem.W.specialIn K (.builtin "object.__class__") "__get__" = some (some (.builtin "getset_descriptor.__get__"))) (htk : PySem.W.takesIn K (.builtin "object.__class__") = some true)
      (hm : PySem.W.mroIn K C (.type "object") = some true) : TyOf K H (.ref a) (.ref C)
theorem isinst_ok {x : V} {u t : Value} (I : Inv X pins σ H s) (rx : RelV x u) (ty : TyOf X.K H x t) (e : PySem.W.kitOne X.K t c = some b) (h : ∀ tk, Q (.bool b) { s with toks := tk }) :
    wpAny (model X.prog X.w) A (call (.builtin "isinstance") [u, c]) Q E s := by
  cases ty with
  | non => cases (show u = Value.none from rx); exact PySem.W.kia_one PySem.W.kitx_none I.kIn True.intro e (fun z => nomatch z) h
  | bl y => cases (show u = Value.bool y from rx); exact PySem.W.kia_one PySem.W.kitx_bool I.kIn True.intro e (fun z => nomatch z) h
  | int i => obtain ⟨t, q⟩ := (show ∃ t, u = Value.int i t from rx); cases q; exact PySem.W.kia_one PySem.W.kitx_int I.kIn True.intro e (fun z => nomatch z) h
  | str y => obtain ⟨t, q⟩ := (show ∃ t, u = Value.str y t from rx); cases q; exact PySem.W.kia_one PySem.W.kitx_str I.kIn True.intro e (fun z => nomatch z) h
  | flt y => obtain ⟨t, q⟩ := (show ∃ t, u = Value.float y t from rx); cases q; exact PySem.W.kia_one PySem.W.kitx_float I.kIn True.intro e (fun z => nomatch z) h
  | @lst a xs ea =>
    cases (show u = Value.ref a from rx)
    obtain ⟨_, _, n, _, h1⟩ := (show ObjOk X.prog X.w H s.heap a (.lst xs) from I.hok a _ ea)
    exact PySem.W.kia_one PySem.W.kitx_list I.kIn ⟨_, h1, rfl⟩ e (fun z => nomatch z) h
  | @frz a ob xs ea =>
    cases (show u = Value.ref a from rx)
    obtain ⟨_, _, _, n, _, h1⟩ := (show ObjOk X.prog X.w H s.heap a (.frz ob (.lst xs)) from I.hok a _ ea)
    exact PySem.W.kia_one PySem.W.kitx_list I.kIn ⟨_, h1, rfl⟩ e (fun z => nomatch z) h
  | @tup a xs ea =>
    cases (show u = Value.ref a from rx)
    obtain ⟨_, _, _, p⟩ := (show ObjOk X.prog X.w H s.heap a (.tup xs) from I.hok a _ ea)
    obtain ⟨o, h1, h2, _⟩ := p
    exact PySem.W.kia_one PySem.W.kitx_tuple I.kIn ⟨o, h1, h2⟩ e (fun z => nomatch z) h
  | @dK a kvs ea =>
    cases (show u = Value.ref a from rx)
    obtain ⟨_, _, vs, _, p⟩ := (show ObjOk X.prog X.w H s.heap a (.dK kvs) from I.hok a _ ea)
    obtain ⟨o, es, ep, h1, h2, _⟩ := p
    exact PySem.W.kia_one PySem.W.kitx_dict I.kIn ⟨o, h1, h2.1⟩ e (fun z => nomatch z) h
  | @dT a kvs ea =>
    cases (show u = Value.ref a from rx)
    obtain ⟨_, _, xs, _, o, es, ep, h1, h2, _⟩ := (show ObjOk X.prog X.w H s.heap a (.dT kvs) from I.hok a _ ea)
    exact PySem.W.kia_one PySem.W.kitx_dict I.kIn ⟨o, h1, h2.1⟩ e (fun z => nomatch z) h
  | @ins a C dx fs ea cl ha hn htk hm =>
    cases (show u = Value.ref a from rx)
    obtain ⟨mA, O, _⟩ := ins_get I.hok ea
    obtain ⟨od, J, _⟩ := O.look
    exact PySem.W.kia_one (PySem.W.kitx_own (cl.get _) cl.hd ha hn htk hm) I.kIn J e (fun z => nomatch z) h
end
end L2
namespace L2
open PySem PySem.Spec PyProof.Rows
structure Room (k : Nat) (A : Around) : Prop where
  hd : A.handled = none
  dp : A.depth + 3 * k + 5 < recursionLimit
  un : A.units + 16 * k + 200 < cLine
  gd : A.guards = some []
theorem Room.mono {j k : Nat} {A : Around} (r : Room k A) (h : j ≤ k) : Room j A := ⟨r.hd, by have := r.dp; omega, by have := r.un; omega, r.gd⟩
theorem Room.deeper {k : Nat} {A : Around} (r : Room (k + 1) A) (env : Env) : Room k (A.deeper env) :=
  ⟨r.hd, by have := r.dp; show A.depth + 1 + 3 * k + 5 < _; omega, by have := r.un; show A.units + 3 + 16 * k + 200 < _; omega, r.gd⟩
theorem Room.in1 {k : Nat} {A : Around} (r : Room (k + 1) A) : Room k A.in1 :=
  ⟨r.hd, by have := r.dp; show A.depth + 3 * k + 5 < _; omega, by have := r.un; show A.units + 1 + 16 * k + 200 < _; omega, r.gd⟩
theorem Room.depth {k : Nat} {A : Around} (r : Room k A) : A.depth < recursionLimit := by have := r.dp; omega
theorem Room.units {k : Nat} {A : Around} (r : Room k A) : A.units + 64 < cLine := by have := r.un; omega
def tNil : TA := fun _ H Q => Q [] H
def tCons (ta : TE) (tr : TA) : TA := fun σ H Q => ta σ H fun x H1 => tr σ H1 fun xs H2 => Q (x :: xs) H2
section
variable {X : Cx} {e : Expr} {es : List Expr} {te : TE} {t : TA} {pos : Pos}
theorem pa_nil : PA X [] tNil := fun _ _ _ _ H Q I h => Calls.spliced_nil ⟨[], H, I, .nil, h⟩
theorem pa_cons (ha : PE X e te) (hr : PA X es t) (hs : starEach (e :: es) X.env = (false, eval e X.env) :: starEach es X.env := by rfl) : PA X (e :: es) (tCons te t) := by
  intro pos pins s σ H Q I h
  rw [hs]
  show wpAny _ _ (spliced ((false, eval e X.env) :: backTo pos (starEach es X.env))) _ _ s
  refine Calls.spliced_cons (thn (ha pins s σ H _ I h) fun u s1 ⟨x, H1, I1, r1, q1⟩ => ?_)
  exact thn (hr pos pins s1 σ H1 _ I1 q1) fun us s2 ⟨xs, H2, I2, r2, q2⟩ => ⟨x :: xs, H2, I2, .cons r1 r2, q2⟩
def tTup (t : TA) : TE := fun σ H Q => t σ H fun xs H1 => xs.length ≤ sizeLine ∧ ∀ p, H1 p = none → Q (.ref p) (upd H1 p (.tup xs))
def tLst (t : TA) : TE := fun σ H Q => t σ H fun xs H1 => xs.length ≤ sizeLine ∧ ∀ p, H1 p = none → Q (.ref p) (upd H1 p (.lst xs))
theorem pe_tup {x1} (h : PA X es t) : PE X (.Tuple es x1 pos) (tTup t) := by
  intro pins s σ H Q I hq
  refine wpAny_Tuple_spliced (thn (h pos pins s σ H _ I hq) fun us s1 ⟨xs, H1, I1, r, z, q⟩ => ⟨by rw [← r.length]; exact z, ?_⟩)
  have hf : H1 s1.heap.objs.size = none := I1.hok.fresh (Nat.le_refl _)
  refine ⟨.ref s1.heap.objs.size, upd H1 s1.heap.objs.size (.tup xs), I1.laid (t' := s1.toks) (fun b u e => Heap.get?_push_of_some _ e) (Nat.le_refl _) ?_, rfl, q _ hf⟩
  exact ⟨z, us, r, ⟨_, Heap.get?_push_size _ rfl, rfl, _, rfl⟩⟩
theorem pe_lst (h : PA X es t) : PE X (.List es pos) (tLst t) := by
  intro pins s σ H Q I hq
  refine wpAny_List_spliced (thn (h pos pins s σ H _ I hq) fun us s1 ⟨xs, H1, I1, r, z, q⟩ => ⟨by rw [← r.length]; exact z, ?_⟩)
  have hf : H1 s1.heap.objs.size = none := I1.hok.fresh (Nat.le_refl _)
  refine ⟨.ref s1.heap.objs.size, upd H1 s1.heap.objs.size (.lst xs), I1.laid (t' := s1.toks) (fun b u e => Heap.get?_push_of_some _ e) (Nat.le_refl _) ?_, rfl, q _ hf⟩
  exact ⟨z, us, 0, r, Heap.get?_push_size _ rfl⟩
end
abbrev Sp := List V → Hp → VK → XK → Prop
abbrev CXT := List Env → Hp → Shared → XK → Value → Shared → Prop
structure Env0 (P : Program) (w : World) (K : PySem.W.Frag) (mg : Str → Option Value) (base : Heap) (A : Around) (outer : List Env) (s : Shared) (H : Hp) : Prop where
  frames : A.frames = some outer
  mod : Mod K mg base
  bs : ∀ b o, base.get? b = some o → s.heap.get? b = some o ∧ H b = none
  bsz : base.objs.size ≤ s.heap.objs.size
  funs : s.heap.FunFrames base outer
  frf : ∀ b ∈ frs outer, H b = none
  hok : HOk P w H s.heap
  bare : AllBare s.gens
def CE (outer : List Env) (P : Program) (w : World) (H : Hp) (s : Shared) (Q : VK) (u : Value) (s' : Shared) : Prop :=
  ∃ v H', s'.os = s.os ∧ AllBare s'.gens ∧ Un (frs outer) [] H H' s.heap s'.heap ∧ HOk P w H' s'.heap ∧ RelV v u ∧ Q v H'
def CR (CX : CXT) (outer : List Env) (P : Program) (w : World) (H : Hp) (s : Shared) (Q : VK) (E : XK) (r : Result) (s' : Shared) : Prop :=
  match r with
  | .ok (.ret u) => CE outer P w H s Q u s'
  | .ok _ => False
  | .error e => CX outer H s E e s'
structure FnOk (P : Program) (w : World) (K : PySem.W.Frag) (mg : Str → Option Value) (base : Heap) (CX : CXT) (k : Nat) (f : Addr) (fd : FuncData) (ps : List Str) (sp : Sp) : Prop where
  len : ∀ vs H Q E, sp vs H Q E → vs.length = ps.length
  run : ∀ (A : Around) (outer : List Env) (s : Shared) (H : Hp) (args : Args) (us : List Value) (vs : List V) (Q : VK) (E : XK), Room k A → Env0 P w K mg base A outer s H → BindsTo s fd args (ps.zip us) → Vals vs us → sp vs H Q E →
    codeAny (model P w) A (.call (.ref f) args) (CR CX outer P w H s Q E) s
theorem FnOk.mono {P : Program} {w : World} {K : PySem.W.Frag} {mg : Str → Option Value} {base : Heap} {CX : CXT} {j k : Nat} {f : Addr} {fd : FuncData} {ps : List Str} {sp : Sp} (F : FnOk P w K mg base CX j f fd ps sp) (h : j ≤ k) :
    FnOk P w K mg base CX k f fd ps sp := ⟨F.len, fun A outer s H args us vs Q E hr => F.run A outer s H args us vs Q E (hr.mono h)⟩
theorem Env0.in1 {P : Program} {w : World} {K : PySem.W.Frag} {mg : Str → Option Value} {base : Heap} {A : Around} {outer : List Env} {s : Shared} {H : Hp} (e : Env0 P w K mg base A outer s H) :
    Env0 P w K mg base A.in1 outer s H := ⟨e.frames, e.mod, e.bs, e.bsz, e.funs, e.frf, e.hok, e.bare⟩
section
variable {X : Cx} {pins : List (Addr × Obj)} {σ : St} {H : Hp} {s s' : Shared}
theorem Inv.env0 (I : Inv X pins σ H s) : Env0 X.prog X.w X.K X.mg X.base X.A X.stack s H :=
  ⟨I.ok.frames, I.ok.mod, I.bs, Nat.le_trans I.ok.bsz I.sz, I.stack, I.stkFree, I.hok, I.bare⟩
theorem Inv.after {Q : VK} {u : Value} (I : Inv X pins σ H s) (h : CE X.stack X.prog X.w H s Q u s') : EP X pins σ Q u s' := by
  obtain ⟨v, H', os, bare, un, hok, r, q⟩ := h
  obtain ⟨hh, g, d, t, os'⟩ := s'
  obtain rfl : os' = s.os := os
  exact ⟨v, H', I.call (h' := hh) (g' := g) (d' := d) (t' := t) (ch := []) un hok bare (fun b z => absurd z (by simp)), r, q⟩
end
def tCall (sp : Sp) (dvs : List V) (E : XK) (t : TA) : TE := fun σ H Q => t σ H fun vs H1 => sp (vs ++ dvs) H1 Q E
def Binds (K : PySem.W.Frag) (fd : FuncData) (ps : List Str) (ds : List Value) : Prop :=
  ∀ (s : Shared) (us : List Value), K.In s.heap → (us ++ ds).length = ps.length → BindsTo s fd ⟨us, []⟩ (ps.zip (us ++ ds))
theorem Binds.all {K : PySem.W.Frag} {fd : FuncData} {ps : List Str} (h : ∀ us : List Value, us.length = ps.length → bindArgs fd ⟨us, []⟩ = pure (ps.zip us)) : Binds K fd ps [] := fun s us _ hl => by
  rw [List.append_nil] at hl ⊢
  exact .of_eq (h us hl)
def Passes (CX : CXT) (X : Cx) (E : XK) : Prop := ∀ (pins : List (Addr × Obj)) (σ : St) (H : Hp) (s : Shared) (e : Value) (s' : Shared), Inv X pins σ H s → CX X.stack H s E e s' → X.xe e s'
section
variable {X : Cx} {CX : CXT} {k : Nat} {f C : Addr} {fd : FuncData} {ps : List Str} {sp : Sp} {dvs : List V} {ds : List Value} {E : XK} {x m : Str} {p pos apos : Pos} {e o : Expr} {es : List Expr} {ta : TE} {t : TA}
theorem run_fn {pins : List (Addr × Obj)} {σ : St} {H : Hp} {s : Shared} {Q : VK} {us : List Value} {vs : List V} (F : FnOk X.prog X.w X.K X.mg X.base CX k f fd ps sp) (hr : Room k X.A) (hb : Binds X.K fd ps ds) (hd : Vals dvs ds) (hx : Passes CX X E)
    (I : Inv X pins σ H s) (r : Vals vs us) (h : sp (vs ++ dvs) H Q E) : wpAny (model X.prog X.w) X.A (call (.ref f) us) (EP X pins σ Q) X.xe s := by
  have r2 : Vals (vs ++ dvs) (us ++ ds) := r.append hd
  have hl : (us ++ ds).length = ps.length := by rw [← r2.length]; exact F.len _ _ _ _ h
  refine wpAny_call (codeAny_mono (F.run X.A X.stack s H ⟨us, []⟩ (us ++ ds) (vs ++ dvs) Q E hr I.env0 (hb s us I.kIn hl) r2 h) fun r s' hq => ?_)
  cases r with
  | error e => exact hx pins σ H s e s' I hq
  | ok fl =>
    cases fl with
    | ret u => exact I.after hq
    | next => exact False.elim hq
    | brk => exact False.elim hq
    | cont => exact False.elim hq
theorem pe_call (F : FnOk X.prog X.w X.K X.mg X.base CX k f fd ps sp) (hr : Room k X.A) (hg : Gl X x) (hm : X.mg x = some (.ref f)) (hk : PySem.W.keepIn X.K (.ref f) = true) (hb : Binds X.K fd ps ds) (hd : Vals dvs ds) (hx : Passes CX X E)
    (ha : PA X (e :: es) t) (hdb : (x == ("__debug__" : Str)) = false := by decide) (he : starEach (e :: es) X.env = (false, eval e X.env) :: starEach es X.env := by rfl) (hpl : (backTo pos (starEach es X.env)).any (·.1) = false := by rfl) :
    PE X (.Call (.Name x p) (e :: es) [] pos) (tCall sp dvs E t) := by
  intro pins s σ H Q I h
  refine wpAny_Call_Name_kw (ld_glob I hg hm ?_ hdb)
  refine PySem.W.callWith_K (h₀ := X.base) I.ok.mod.kin hk (thn (ha pos pins s σ H _ I h) fun us s1 ⟨vs, H1, I1, r, q⟩ => ⟨I1.kIn, ?_⟩) he hpl
  exact run_fn F hr hb hd hx I1 r q
end
section
variable {X : Cx} {CX : CXT} {k : Nat} {f C : Addr} {fd : FuncData} {ps ks : List Str} {sp : Sp} {E : XK} {x m : Str} {p pos apos kpos : Pos} {e o : Expr} {es : List Expr} {kws : List Keyword} {te ta : TE} {t tk : TA} {nm : Option Str}
variable {g : List Value → List Value → List Value} {gV : List V → List V → List V}
end
structure FnScope (N P : List Str) (sc : Scope) : Prop where
  kind : sc.kind = .function
  co : sc.isCoroutine = false
  gen : sc.isGenerator = false
  nd : N.Nodup
  pre : N.take P.length = P
  par : ∀ x ∈ P, sc.names.lookup x = some .local ∨ sc.names.lookup x = some .cell
  nofree : ∀ y ∈ sc.names, y.2 ≠ .free
theorem bindL_out {kindOf : Str → Option NameKind} {x : Str} : ∀ {binds : List (Str × Value)} {m : Str → Option Value}, (∀ v, (x, v) ∉ binds) → bindL kindOf binds m x = m x
  | [], _, _ => rfl
  | (n, v) :: r, m, h => by
    unfold bindL
    rw [bindL_out fun w hw => h w (List.mem_cons_of_mem _ hw)]
    split
    · have : x ≠ n := by rintro rfl; exact h v List.mem_cons_self
      simp [this]
    · rfl
theorem bindC_out {kindOf : Str → Option NameKind} {x : Str} : ∀ {binds : List (Str × Value)} {m : Str → Option Value}, (∀ v, (x, v) ∉ binds) → bindC kindOf binds m x = m x
  | [], _, _ => rfl
  | (n, v) :: r, m, h => by
    unfold bindC
    rw [bindC_out fun w hw => h w (List.mem_cons_of_mem _ hw)]
    split
    · rfl
    · have : x ≠ n := by rintro rfl; exact h v List.mem_cons_self
      simp [this]
theorem bindL_get {kindOf : Str → Option NameKind} {x : Str} {v : Value} : ∀ {P : List Str} {vs : List Value} {i : Nat} {m : Str → Option Value}, P.Nodup → P[i]? = some x → vs[i]? = some v → kindOf x = some .local →
    bindL kindOf (P.zip vs) m x = some v
  | [], _, _, _, _, h, _, _ => by simp at h
  | _ :: _, [], _, _, _, _, h, _ => by simp at h
  | p :: P, w :: vs, 0, m, nd, h1, h2, hk => by
    simp at h1 h2; subst h1; subst h2
    show bindL kindOf ((p, w) :: P.zip vs) m p = _
    unfold bindL
    rw [bindL_out fun v hv => (List.nodup_cons.mp nd).1 (List.of_mem_zip hv).1, if_pos hk]
    simp
  | p :: P, w :: vs, i + 1, m, nd, h1, h2, hk => by
    show bindL kindOf ((p, w) :: P.zip vs) m x = _
    unfold bindL
    exact bindL_get (i := i) (List.nodup_cons.mp nd).2 (by simpa using h1) (by simpa using h2) hk
theorem bindC_get {kindOf : Str → Option NameKind} {x : Str} {v : Value} : ∀ {P : List Str} {vs : List Value} {i : Nat} {m : Str → Option Value}, P.Nodup → P[i]? = some x → vs[i]? = some v → kindOf x ≠ some .local →
    bindC kindOf (P.zip vs) m x = some v
  | [], _, _, _, _, h, _, _ => by simp at h
  | _ :: _, [], _, _, _, _, h, _ => by simp at h
  | p :: P, w :: vs, 0, m, nd, h1, h2, hk => by
    simp at h1 h2; subst h1; subst h2
    show bindC kindOf ((p, w) :: P.zip vs) m p = _
    unfold bindC
    rw [bindC_out fun v hv => (List.nodup_cons.mp nd).1 (List.of_mem_zip hv).1, if_neg hk]
    simp
  | p :: P, w :: vs, i + 1, m, nd, h1, h2, hk => by
    show bindC kindOf ((p, w) :: P.zip vs) m x = _
    unfold bindC
    exact bindC_get (i := i) (List.nodup_cons.mp nd).2 (by simpa using h1) (by simpa using h2) hk
def start (N : List Str) (vs : List V) : St := vs.map some ++ List.replicate (N.length - vs.length) none
def cxOf (CX : CXT) (P : Program) (w : World) (K : PySem.W.Frag) (mg : Str → Option Value) (base : Heap) (N : List Str) (qual : Str) (scope : Scope) (f : Addr) (cd : Value) (A : Around) (outer : List Env) (s : Shared) (H : Hp) (E : XK) : Cx where
  prog := P
  w := w
  K := K
  mg := mg
  base := base
  A := A.deeper (envOfC qual scope s.heap.objs.size f cd)
  N := N
  s₀ := s
  H₀ := H
  env := envOfC qual scope s.heap.objs.size f cd
  outer := outer
  stack := envOfC qual scope s.heap.objs.size f cd :: outer
  ex := []
  calm := true
  fn := fun _ => true
  pn := []
  xe := fun e s' => wpAny (model P w) (A.deeper (envOfC qual scope s.heap.objs.size f cd)) (leaving (envOfC qual scope s.heap.objs.size f cd) e) (fun _ s'' => CX outer H s E e s'') (fun e' s'' => CX outer H s E e' s'') s'
theorem cell_has {sc : Scope} {n : Nat} {x : Str} (h : sc.names.lookup x = some .cell) : ∃ c, (cellsFrom n sc.names []).lookup x = some c := by
  have q := PySem.W.cellsFrom_some sc.names n [] (.inl h)
  exact Option.isSome_iff_exists.mp q
theorem inv_start {CX : CXT} {P : Program} {w : World} {K : PySem.W.Frag} {mg : Str → Option Value} {base : Heap} {N ps : List Str} {qual : Str} {scope : Scope} {f : Addr} {cd : Value} {A : Around} {outer : List Env} {s s1 : Shared} {H : Hp} {E : XK} {us : List Value} {vs : List V}
    (S : FnScope N ps scope) (hd : A.handled = none) (e0 : Env0 P w K mg base A outer s H) (hl : vs.length = ps.length) (r : Vals vs us)
    (x : InCallC s s.heap.objs.size (bindL (envOfC qual scope s.heap.objs.size f cd).kindOf (ps.zip us) fun _ => none) (cellsFrom (s.heap.objs.size + 1) scope.names []) (bindC (envOfC qual scope s.heap.objs.size f cd).kindOf (ps.zip us) fun _ => none) s1) :
    Inv (cxOf CX P w K mg base N qual scope f cd A outer s H E) [] (start N vs) H s1 := by
  have hpl : ps.length ≤ N.length := by have := congrArg List.length S.pre; rw [List.length_take] at this; omega
  obtain ⟨h1, tk, rfl, hk⟩ := x.done
  have noA : ∀ b : Addr, b ∉ (cxOf CX P w K mg base N qual scope f cd A outer s H E).ex := fun b z => absurd (show b ∈ ([] : List Addr) from z) (by simp)
  refine ⟨⟨e0.mod, S.kind, rfl, rfl, Nat.le_refl _, fun y z c h1 h2 => ?_, fun y hy => ?_, fun y c _ h => ?_, fun _ => hd, Around.frames_deeper e0.frames, .inr ⟨rfl, rfl⟩, fun b z => absurd z (noA b), e0.bs, e0.bsz, fun b _ _ => noA b, fun b z => absurd z (noA b), e0.funs, e0.frf⟩,
    rfl, e0.bare, Un.kept hk, ⟨_, x.toInCall.ns, fun i y v h1 h2 h3 => ?_⟩, fun y c h => ⟨_, x.cell y c h⟩, e0.hok.fresh (Nat.le_refl _), fun y c h => ?_, fun p hp => absurd (show p ∈ ([] : List (Addr × Obj)) from hp) (by simp), e0.hok.kept hk, ?_⟩
  · exact name_of_addr x.apart (PySem.mem_of_lookup h1) (PySem.mem_of_lookup h2)
  · have hy : scope.names.lookup y = some .cell ∨ scope.names.lookup y = some .free := hy
    rcases hy with hy | hy
    · exact cell_has hy
    · exact absurd rfl (S.nofree _ (PySem.mem_of_lookup hy))
  · exact Nat.le_of_lt (x.above y c (PySem.mem_of_lookup h))
  · have hi : i < vs.length := by
      unfold start at h2
      by_cases hi : i < vs.length
      · exact hi
      · rw [List.getElem?_append_right (by simpa using hi)] at h2
        rw [List.getElem?_replicate] at h2
        split at h2 <;> cases h2
    have ha : vs[i]? = some v := by
      unfold start at h2
      rw [List.getElem?_append_left (by simpa using hi), List.getElem?_map] at h2
      cases e : vs[i]? with
      | none => rw [e] at h2; cases h2
      | some a => rw [e] at h2; cases h2; rfl
    obtain ⟨u, hu, rv⟩ := r.get ha
    have hp : ps[i]? = some y := by
      rw [← S.pre, List.getElem?_take_of_lt (by omega)]; exact h1
    have ndP : ps.Nodup := by rw [← S.pre]; exact S.nd.sublist (List.take_sublist _ _)
    refine ⟨u, rv, ?_⟩
    rcases S.par y (List.mem_of_getElem? hp) with k | k
    · exact .inl ⟨k, bindL_get ndP hp hu k⟩
    · obtain ⟨c, e⟩ := cell_has (n := s.heap.objs.size + 1) k
      refine .inr ⟨.inl k, c, e, ?_⟩
      have q := x.cell y c e
      rw [bindC_get ndP hp hu (by show scope.names.lookup y ≠ _; rw [k]; decide)] at q
      exact q
  · exact e0.hok.fresh (Nat.le_of_lt (x.above y c (PySem.mem_of_lookup h)))
  · unfold start
    show _ = N.length
    rw [List.length_append, List.length_map, List.length_replicate]
    omega
theorem fn_of {CX : CXT} {P : Program} {w : World} {K : PySem.W.Frag} {mg : Str → Option Value} {base : Heap} {k : Nat} {f : Addr} {name qual : Str} {params : Arguments} {body : List Stmt} {scope : Scope} {dV kV doc pm cdv ct oc : Value} {an od : Option Addr}
    {osl : Array (Option Value)} {N ps : List Str} {sp : Sp} (lk : K.lookup f = some ⟨oc, od, .func (PySem.W.fnOf name qual params body scope dV kV doc pm an cdv ct), osl⟩) (hcd : PySem.W.codeIn K cdv qual = true) (S : FnScope N ps scope)
    (len : ∀ vs H Q E, sp vs H Q E → vs.length = ps.length)
    (hbody : ∀ (A : Around) (outer : List Env) (s : Shared) (H : Hp) (vs : List V) (Q : VK) (E : XK), Room k (A.deeper (envOfC qual scope s.heap.objs.size f cdv)) → sp vs H Q E →
      ∃ t, PSs (cxOf CX P w K mg base N qual scope f cdv A outer s H E) body t ∧ t { nx := fun _ H' => Q .non H', rt := Q } (start N vs) H) :
    FnOk P w K mg base CX (k + 1) f (PySem.W.fnOf name qual params body scope dV kV doc pm an cdv ct) ps sp := by
  refine ⟨len, fun A outer s H args us vs Q E hr e0 hb r hsp => ?_⟩
  have hl := len _ _ _ _ hsp
  have KX : K.In s.heap := e0.mod.kin.keeps fun b o e => (e0.bs b o e).1
  have lim : s.heap.NoLimit := e0.mod.nolimit.keeps fun b o e => (e0.bs b o e).1
  have hkind : ∀ y ∈ ps.zip us, scope.names.lookup y.1 = some .local ∨ (scope.names.lookup y.1 = some .cell ∧ ((cellsFrom (s.heap.objs.size + 1) scope.names []).lookup y.1).isSome = true) := fun ⟨n, v⟩ hy => by
    rcases S.par n (List.of_mem_zip hy).1 with q | q
    · exact .inl q
    · exact .inr ⟨q, PySem.W.cellsFrom_some _ _ _ (.inl q)⟩
  refine codeAny_call_function hr.depth (KX _ _ lk) rfl S.co S.gen rfl (PySem.W.codeRec_of KX hcd) (hb _ _ _ _ ?_)
  refine wpAny_newFunctionEnv_cells S.kind hkind fun env he s1 x => ?_
  subst he
  refine ⟨lim.keeps x.toInCall.keep, codeAny_func ?_⟩
  obtain ⟨t, ht, hq⟩ := hbody A outer s H vs Q E (hr.deeper _) hsp
  have I : Inv (cxOf CX P w K mg base N qual scope f cdv A outer s H E) [] (start N vs) H s1 := inv_start S hr.hd e0 hl r x
  refine wpAny_mono (ht [] s1 (start N vs) H _ I hq) (fun fl s' hs => ?_) fun e s' hs => hs
  have fin : ∀ {σ' : St} {H' : Hp} {v : V} {u : Value}, Inv (cxOf CX P w K mg base N qual scope f cdv A outer s H E) [] σ' H' s' → RelV v u → Q v H' → CE outer P w H s Q u s' :=
    fun {σ' H' v u} J rv q => ⟨v, H', J.os, J.bare, J.base, J.hok, rv, q⟩
  cases fl with
  | ret u =>
    obtain ⟨v, σ', H', J, rv, q⟩ := hs
    exact fin J rv q
  | next =>
    obtain ⟨σ', H', J, q⟩ := hs
    exact fin (v := V.non) (u := Value.none) J rfl q
  | brk =>
    obtain ⟨_, _, _, q⟩ := hs
    exact False.elim q
  | cont =>
    obtain ⟨_, _, _, q⟩ := hs
    exact False.elim q
end L2
namespace L2
open PySem PySem.Spec PyProof.Rows
section
variable {X : Cx} {x : Str} {p pos : Pos} {e : Expr} {es : List Expr} {t : TA} {id T : String} {r : List V → Hp → VK → Prop}
def tCB (r : List V → Hp → VK → Prop) (t : TA) : TE := fun σ H Q => t σ H fun vs H1 => r vs H1 Q
theorem pe_callB (hc : CallR X (.builtin id) r) (hg : Gl X x) (hm : X.mg x = none) (hv : bootBuiltins x = some (.builtin id)) (ha : PA X (e :: es) t) (hn : x ≠ "__name__" := by decide) (hdb : (x == ("__debug__" : Str)) = false := by decide)
    (he : starEach (e :: es) X.env = (false, eval e X.env) :: starEach es X.env := by rfl) (hpl : (backTo pos (starEach es X.env)).any (·.1) = false := by rfl) : PE X (.Call (.Name x p) (e :: es) [] pos) (tCB r t) := by
  intro pins s σ H Q I h
  refine wpAny_Call_Name_kw (ld_blt I hg hm hv ?_ hn hdb)
  exact PyProof.Rows.callWith_builtin1 (thn (ha pos pins s σ H _ I h) fun us s1 ⟨vs, H1, I1, r1, q1⟩ => hc pins s1 σ H1 vs us Q I1 r1 q1) he hpl
theorem pe_callTy (hc : CallR X (.type T) r) (hg : Gl X x) (hm : X.mg x = none) (hv : bootBuiltins x = some (.type T)) (ha : PA X (e :: es) t) (hn : x ≠ "__name__" := by decide) (hdb : (x == ("__debug__" : Str)) = false := by decide)
    (he : starEach (e :: es) X.env = (false, eval e X.env) :: starEach es X.env := by rfl) (hpl : (backTo pos (starEach es X.env)).any (·.1) = false := by rfl) : PE X (.Call (.Name x p) (e :: es) [] pos) (tCB r t) := by
  intro pins s σ H Q I h
  refine wpAny_Call_Name_kw (ld_blt I hg hm hv ?_ hn hdb)
  exact PyProof.Rows.callWith_type1 (thn (ha pos pins s σ H _ I h) fun us s1 ⟨vs, H1, I1, r1, q1⟩ => hc pins s1 σ H1 vs us Q I1 r1 q1) he hpl
end
end L2
namespace HT
open PySem PyProof.Rows
section
open PySem.SeqAt
open PySem.AutoSeq1 (wpAny_loadPart')
open PySem.MeetsSeq PySem.MeetsSeq2 PySem.MeetsSeq3
end
section
variable {prog : Program} {w : World} {A : Around} {E : Value → Shared → Prop} {s : Shared}
theorem cat_tup {t b : Addr} {vs ws : List Value} {Q : Value → Shared → Prop} (ht : IsTup s.heap t vs.toArray) (hb : IsTup s.heap b ws.toArray) (hv : vs ≠ [])
    (h1 : ws = [] → Q (.ref t) s) (h2 : ws ≠ [] → Q (.ref s.heap.objs.size) { s with heap := s.heap.push { cls := .type "tuple", data := .seq (vs ++ ws).toArray } })
    (hsz : vs.length + ws.length ≤ sizeLine) : wpAny (model prog w) A (binaryOp .Add (.ref t) (.ref b)) Q E s := by
  obtain ⟨⟨cls, dd, data, sl⟩, ho, hc, n, hd⟩ := id ht
  obtain ⟨⟨cls2, dd2, data2, sl2⟩, ho2, hc2, n2, hd2⟩ := id hb
  simp only at hc hd hc2 hd2
  subst hc hd hc2 hd2
  have e : vs.toArray ++ ws.toArray = (vs ++ ws).toArray := by simp
  by_cases hw : ws = []
  · exact concat_meets ⟨_, ho, rfl⟩ ⟨_, ho2, rfl⟩ noFill_tuple_add seq_tuple_add PySem.F.slot_tuple_add PySem.F.entry_tuple_add (PySem.F.args_tuple_add_2 _ _)
      (tuple_addW1 t b vs.toArray ws.toArray n n2 dd dd2 sl sl2 (by simpa using hv) (by simp [hw])) ⟨ho, ho2, h1 hw⟩
  · refine concat_meets ⟨_, ho, rfl⟩ ⟨_, ho2, rfl⟩ noFill_tuple_add seq_tuple_add PySem.F.slot_tuple_add PySem.F.entry_tuple_add (PySem.F.args_tuple_add_2 _ _)
      (tuple_addW2 t b vs.toArray ws.toArray n n2 dd dd2 sl sl2 (by simpa using hv) (by simpa using hw) (by rw [List.size_toArray, List.size_toArray]; exact hsz)) ⟨ho, ho2, ?_⟩
    rw [e]
    exact h2 hw
def sIx (n d : Nat) : Option Int → Nat
  | none => d
  | some v => if v < 0 then (v + (n : Int)).toNat else min v.toNat n
theorem sIx_nat (n d k : Nat) : sIx n d (some (k : Int)) = min k n := by
  show (if (k : Int) < 0 then ((k : Int) + (n : Int)).toNat else min (k : Int).toNat n) = min k n
  rw [if_neg (by omega), Int.toNat_natCast]
end
end HT
namespace L2
open PySem PySem.Spec PyProof.Rows
abbrev TO := St → Hp → (Option Int → Hp → Prop) → Prop
def PO (X : Cx) (e : Option Expr) (t : TO) : Prop :=
  ∀ (pins : List (Addr × Obj)) (s : Shared) (σ : St) (H : Hp) (Q : Option Int → Hp → Prop), Inv X pins σ H s → t σ H Q →
    wpAny (model X.prog X.w) X.A (evalPart e X.env) (fun u s' => ∃ o H', Inv X pins σ H' s' ∧ IsPart u o ∧ Q o H') X.xe s
def tNoPart : TO := fun _ H Q => Q none H
def tPart (t : TE) : TO := fun σ H Q => t σ H fun x H1 => ∃ i, x = .int i ∧ Q (some i) H1
theorem intsAre_of {ns : List Int} : ∀ {us : List Value}, Vals (ns.map V.int) us → IntsAre us ns := by
  induction ns with
  | nil => intro us r; rw [List.map_nil] at r; cases r; exact .nil
  | cons n ns ih =>
    intro us r
    rw [List.map_cons] at r
    cases r with
    | cons r1 r2 =>
      obtain ⟨t, e⟩ := r1
      subst e
      exact .cons n t (ih r2)
section
variable {X : Cx} {e : Expr} {te : TE} {lo hi : Option Expr} {tl th : TO} {pos p2 : Pos}
theorem po_none : PO X none tNoPart := by
  intro pins s σ H Q I h
  rw [evalPart_none]
  exact wpAny_pure ⟨none, H, I, .none, h⟩
theorem po_some (h : PE X e te) : PO X (some e) (tPart te) := by
  intro pins s σ H Q I hw
  rw [evalPart_some]
  refine thn (h pins s σ H _ I hw) fun u s1 ⟨x, H1, I1, r1, q1⟩ => ?_
  obtain ⟨i, rfl, q⟩ := q1
  obtain ⟨t, rfl⟩ := r1
  exact ⟨some i, H1, I1, .int i t, q⟩
def SlR (X : Cx) (r : V → Option Int → Option Int → Hp → VK → Prop) : Prop :=
  ∀ (pins : List (Addr × Obj)) (s : Shared) (σ : St) (H : Hp) (x : V) (v vl vu : Value) (lo hi : Option Int) (sl : Addr) (Q : VK), Inv X pins σ H s → RelV x v → s.heap.IsSliceOf sl vl vu .none → IsPart vl lo → IsPart vu hi → r x lo hi H Q →
    ∃ T id, typeLookup (.type T) "__getitem__" = pure (some (.builtin id)) ∧ s.TypeIs v T ∧ wpAny (model X.prog X.w) X.A (getItem v (.ref sl)) (EP X pins σ Q) X.xe s
theorem SlR.or {r r' : V → Option Int → Option Int → Hp → VK → Prop} (h : SlR X r) (h' : SlR X r') : SlR X (fun x lo hi H Q => r x lo hi H Q ∨ r' x lo hi H Q) := by
  intro pins s σ H x v vl vu lo hi sl Q I rx hs pl pu q
  rcases q with q | q
  · exact h pins s σ H x v vl vu lo hi sl Q I rx hs pl pu q
  · exact h' pins s σ H x v vl vu lo hi sl Q I rx hs pl pu q
def tSl (r : V → Option Int → Option Int → Hp → VK → Prop) (te : TE) (tl th : TO) : TE := fun σ H Q => te σ H fun x H1 => tl σ H1 fun l H2 => th σ H2 fun u H3 => r x l u H3 Q
theorem pe_slice {r : V → Option Int → Option Int → Hp → VK → Prop} (hr : SlR X r) (he : PE X e te) (hl : PO X lo tl) (hu : PO X hi th) : PE X (.Subscript e (.Slice lo hi none p2) pos) (tSl r te tl th) := by
  intro pins s σ H Q I h
  refine Subscript_ (thn (he pins s σ H _ I h) fun v s1 ⟨x, H1, I1, r1, q1⟩ => ?_)
  refine wpAny_Slice (thn (hl pins s1 σ H1 _ I1 q1) fun vl s2 ⟨l, H2, I2, pl, q2⟩ => thn (hu pins s2 σ H2 _ I2 q2) fun vu s3 ⟨u, H3, I3, pu, q3⟩ => ?_)
  rw [evalPart_none]
  refine wpAny_pure ?_
  have I4 : Inv X pins σ H3 { s3 with heap := s3.heap.push { cls := .type "slice", data := .fields #[vl, vu, .none] } } := I3.kept (t' := s3.toks) fun b ob q => Heap.get?_push_of_some _ q
  obtain ⟨T, id, hT, ht, hg⟩ := hr pins { s3 with heap := s3.heap.push { cls := .type "slice", data := .fields #[vl, vu, .none] } } σ H3 x v vl vu l u s3.heap.objs.size Q I4 r1 (Heap.IsSliceOf.new ..) pl pu q3
  show wpAny (model X.prog X.w) X.A (subscriptTail e (.Slice lo hi none p2) v (.ref s3.heap.objs.size)) (EP X pins σ Q) X.xe { s3 with heap := s3.heap.push { cls := .type "slice", data := .fields #[vl, vu, .none] } }
  exact tail_any (ops := [.ref s3.heap.objs.size, v]) ht hT hg (by with_unfolding_all rfl)
def cutV (xs : List V) (lo hi : Option Int) : List V := (xs.drop (HT.sIx xs.length 0 lo)).take (HT.sIx xs.length xs.length hi - HT.sIx xs.length 0 lo)
theorem cutV_length (xs : List V) (lo hi : Option Int) : (cutV xs lo hi).length ≤ xs.length := by
  unfold cutV
  rw [List.length_take, List.length_drop]
  omega
def rCatT (K : PySem.W.Frag) : R2 := fun x y H Q => ∃ a b xs ys, x = .ref a ∧ y = .ref b ∧ SqT K H a xs ∧ SqT K H b ys ∧ xs ≠ [] ∧ xs.length + ys.length ≤ sizeLine ∧
  (ys = [] → Q (.ref a) H) ∧ (ys ≠ [] → ∀ p, H p = none → Q (.ref p) (upd H p (.tup (xs ++ ys))))
theorem Vals.nil_iff {xs : List V} {us : List Value} (r : Vals xs us) : us = [] ↔ xs = [] := by
  cases r with
  | nil => simp
  | cons _ _ => simp
theorem op_catT : OpR X (binaryOp .Add) (rCatT X.K) := by
  intro pins s σ H x y v u Q I rx ry h
  obtain ⟨a, b, xs, ys, rfl, rfl, ha, hb, hx, hz, q1, q2⟩ := h
  cases rx
  cases ry
  obtain ⟨its, r1, p1, _⟩ := I.tuple ha
  obtain ⟨its2, r2, p2, _⟩ := I.tuple hb
  refine HT.cat_tup p1 p2 (fun z => hx (r1.nil_iff.mp z)) (fun z => ⟨.ref a, H, I, rfl, q1 (r2.nil_iff.mp z)⟩) (fun z => ?_) (by rw [← r1.length, ← r2.length]; exact hz)
  refine ⟨.ref s.heap.objs.size, _, I.laid (t' := s.toks) (o := .tup (xs ++ ys)) (fun b ob q => Heap.get?_push_of_some _ q) (Nat.le_refl _) ?_, rfl, q2 (fun w => z (r2.nil_iff.mpr w)) _ (I.hok.fresh (Nat.le_refl _))⟩
  exact ⟨by rw [List.length_append]; exact hz, _, r1.append r2, IsTup.new _ _⟩
end
end L2
namespace L2
open PySem PySem.Spec PyProof.Rows
def ixN (n : Nat) (i : Int) : Option Nat := if 0 ≤ i then (if i < n then some i.toNat else none) else if -(n : Int) ≤ i then some (i + n).toNat else none
def atI {α : Type} (xs : List α) (i : Int) : Option α := (ixN xs.length i).bind fun j => xs[j]?
theorem ixN_seq {n : Nat} {i : Int} {j : Nat} (h : ixN n i = some j) : seqIndex? i n = some j ∧ j < n ∧ -(n : Int) ≤ i ∧ i < n := by
  unfold ixN at h
  by_cases h0 : 0 ≤ i
  · rw [if_pos h0] at h
    by_cases h1 : i < n
    · rw [if_pos h1] at h
      have e : i.toNat = j := Option.some.inj h
      exact ⟨by rw [seqIndex_of h0 h1, e], by omega, by omega, h1⟩
    · rw [if_neg h1] at h; cases h
  · rw [if_neg h0] at h
    by_cases h1 : -(n : Int) ≤ i
    · rw [if_pos h1] at h
      have e : (i + n).toNat = j := Option.some.inj h
      exact ⟨by rw [seqIndex_neg (by omega) h1, e], by omega, h1, by omega⟩
    · rw [if_neg h1] at h; cases h
theorem atI_get {α : Type} {xs : List α} {i : Int} {v : α} (h : atI xs i = some v) : ∃ j, seqIndex? i xs.length = some j ∧ xs[j]? = some v ∧ j < xs.length ∧ -(xs.length : Int) ≤ i ∧ i < xs.length := by
  unfold atI at h
  cases e : ixN xs.length i with
  | none => rw [e] at h; cases h
  | some j =>
    rw [e] at h
    obtain ⟨h1, h2, h3, h4⟩ := ixN_seq e
    exact ⟨j, h1, h, h2, h3, h4⟩
theorem atI_nat {α : Type} {xs : List α} {j : Nat} {v : α} (h : xs[j]? = some v) : atI xs (j : Int) = some v := by
  have hj : j < xs.length := (List.getElem?_eq_some_iff.mp h).1
  have e : ixN xs.length (j : Int) = some j := by
    unfold ixN
    rw [if_pos (by omega), if_pos (by omega)]; simp
  unfold atI; rw [e]; exact h
def PlainIx (b : Expr) : Prop := ∀ o i, subscripted b false o i = operate [o, i] (getItem o i)
def IxR (X : Cx) (r : R2) : Prop :=
  ∀ (value slice : Expr) (pins : List (Addr × Obj)) (s : Shared) (σ : St) (H : Hp) (x y : V) (v u : Value) (Q : VK), Inv X pins σ H s → RelV x v → RelV y u → r x y H Q →
    subscripted slice false v u = operate [v, u] (getItem v u) → wpAny (model X.prog X.w) X.A (subscriptTail value slice v u) (EP X pins σ Q) X.xe s
def MtR (X : Cx) (id : String) (r : V → List V → Hp → VK → Prop) : Prop :=
  ∀ (pins : List (Addr × Obj)) (s : Shared) (σ : St) (H : Hp) (x : V) (xs : List V) (v : Value) (us : List Value) (Q : VK), Inv X pins σ H s → RelV x v → Vals xs us → r x xs H Q →
    wpAny (model X.prog X.w) X.A (call (.builtin id) (v :: us)) (EP X pins σ Q) X.xe s
section
variable {X : Cx} {a b : Expr} {ta tb : TE} {pos : Pos}
theorem IxR.or {r r' : R2} (h : IxR X r) (h' : IxR X r') : IxR X (fun x y H Q => r x y H Q ∨ r' x y H Q) := by
  intro value slice pins s σ H x y v u Q I rx ry q hs
  rcases q with q | q
  · exact h value slice pins s σ H x y v u Q I rx ry q hs
  · exact h' value slice pins s σ H x y v u Q I rx ry q hs
theorem MtR.or {id : String} {r r' : V → List V → Hp → VK → Prop} (h : MtR X id r) (h' : MtR X id r') : MtR X id (fun x xs H Q => r x xs H Q ∨ r' x xs H Q) := by
  intro pins s σ H x xs v us Q I rx rs q
  rcases q with q | q
  · exact h pins s σ H x xs v us Q I rx rs q
  · exact h' pins s σ H x xs v us Q I rx rs q
theorem pe_ix {r : R2} (hr : IxR X r) (ha : PE X a ta) (hb : PE X b tb) (hs : PlainIx b) : PE X (.Subscript a b pos) (tOp r ta tb) := by
  intro pins s σ H Q I h
  exact Subscript_ (binT ha hb I h fun v u s2 x y H2 I2 rx ry q => hr a b pins s2 σ H2 x y v u Q I2 rx ry q (hs _ _))
def rIxL (K : PySem.W.Frag) : R2 := fun x y H Q => ∃ p xs i v, x = .ref p ∧ y = .int i ∧ SqL K H p xs ∧ atI xs i = some v ∧ Q v H
def rIxT (K : PySem.W.Frag) : R2 := fun x y H Q => ∃ p xs i v, x = .ref p ∧ y = .int i ∧ SqT K H p xs ∧ atI xs i = some v ∧ Q v H
def rIxS : R2 := fun x y H Q => ∃ z i c, x = .str z ∧ y = .int i ∧ z.length ≤ sizeLine ∧ atI z.cps.toList i = some c ∧ Q (.str ⟨#[c]⟩) H
theorem ix_list : IxR X (rIxL X.K) := by
  intro value slice pins s σ H x y v u Q I rx ry h hs
  obtain ⟨p, xs, i, z, rfl, rfl, hq, he, q⟩ := h
  cases rx
  obtain ⟨t, rfl⟩ := ry
  obtain ⟨its, r, pl, hz⟩ := I.list hq
  obtain ⟨j, h1, h2, h3, h4, h5⟩ := atI_get he
  obtain ⟨w, ew, rw'⟩ := r.get h2
  have hl := r.length
  have hn := line63
  have fin : EP X pins σ Q w s := ⟨z, H, I, rw', q⟩
  by_cases h0 : 0 ≤ i
  · have hj : i.toNat = j := by
      rw [seqIndex_of h0 h5] at h1
      exact Option.some.inj h1
    exact item_listR pl.isList h0 (by omega) (by rw [hj]; simpa using ew) fin hs
  · have hj : (i + (its.toArray.size : Int)).toNat = j := by
      rw [seqIndex_neg (by omega) h4] at h1
      rw [List.size_toArray, ← hl]
      exact Option.some.inj h1
    exact subscriptTail_builtinR (x := w) pl.isList.typeIs slot_list_getitem.lookup
      (wpAny_getItem_list_neg (Q := fun r s' => r = w ∧ EP X pins σ Q r s') pl.isList (by omega) (by rw [List.size_toArray] <;> omega) (by omega) (by rw [hj]; simpa using ew) ⟨rfl, fin⟩) hs
theorem ix_tup : IxR X (rIxT X.K) := by
  intro value slice pins s σ H x y v u Q I rx ry h hs
  obtain ⟨p, xs, i, z, rfl, rfl, hq, he, q⟩ := h
  cases rx
  obtain ⟨t, rfl⟩ := ry
  obtain ⟨its, r, pl, hz⟩ := I.tuple hq
  obtain ⟨j, h1, h2, h3, h4, h5⟩ := atI_get he
  obtain ⟨w, ew, rw'⟩ := r.get h2
  have hl := r.length
  have hn := line63
  have fin : EP X pins σ Q w s := ⟨z, H, I, rw', q⟩
  exact subscriptTail_builtinR (x := w) pl.typeIs slot_tuple_getitem.lookup
    (getItem_tuple (j := j) (Q := fun r s' => r = w ∧ EP X pins σ Q r s') pl (by omega) (by omega) (by rw [List.size_toArray, ← hl]; exact h1) (by simpa using ew) ⟨rfl, fin⟩) hs
theorem ix_str : IxR X rIxS := by
  intro value slice pins s σ H x y v u Q I rx ry h hs
  obtain ⟨z, i, c, rfl, rfl, hz, he, q⟩ := h
  obtain ⟨t, rfl⟩ := rx
  obtain ⟨t', rfl⟩ := ry
  obtain ⟨j, h1, h2, h3, h4, h5⟩ := atI_get he
  have hl : z.cps.toList.length = z.length := by simp [Str.length]
  rw [hl] at h1 h4 h5
  have hn := line63
  exact tail_any (typeIs_str s z t) slot_str_getitem.lookup (getItem_str (c := c) (by
    have e1 : decide (i < -(2 ^ 63 : Int)) = false := decide_eq_false (by omega)
    have e2 : decide (i ≥ 2 ^ 63) = false := decide_eq_false (by omega)
    rw [e1, e2, Bool.or_false]) (by rw [h1]; simpa using h2) ⟨.str ⟨#[c]⟩, H, I.tok _, ⟨_, rfl⟩, q⟩) hs
theorem mapSeq_set (its : List Value) (n j : Nat) (u : Value) : Obj.mapSeq (·.setIfInBounds j u) { cls := .type "list", data := .seq its.toArray n } = { cls := .type "list", data := .seq (its.set j u).toArray n } := by
  simp [Obj.mapSeq]
theorem Inv.lst {pins : List (Addr × Obj)} {σ : St} {H : Hp} {s : Shared} {p : Addr} {xs : List V} (I : Inv X pins σ H s) (h : H p = some (.lst xs)) :
    ∃ (its : List Value) (n : Nat), Vals xs its ∧ s.heap.get? p = some { cls := .type "list", data := .seq its.toArray n } ∧ xs.length ≤ sizeLine := by
  obtain ⟨z, its, n, r, e⟩ := I.hok p _ h
  exact ⟨its, n, r, e, z⟩
theorem Inv.lstUpd {pins : List (Addr × Obj)} {σ : St} {H : Hp} {s : Shared} {p : Addr} {xs ys : List V} {its its' : List Value} {n n' : Nat} {f : Obj → Obj} (I : Inv X pins σ H s) (h : H p = some (.lst xs))
    (ho : s.heap.get? p = some { cls := .type "list", data := .seq its.toArray n }) (hf : f { cls := .type "list", data := .seq its.toArray n } = { cls := .type "list", data := .seq its'.toArray n' }) (r : Vals ys its') (hz : ys.length ≤ sizeLine) (t : Nat) :
    Inv X pins σ (upd H p (.lst ys)) { s with heap := s.heap.update p f, toks := t } := by
  have e : (s.heap.update p f).get? p = some { cls := .type "list", data := .seq its'.toArray n' } := by
    rw [Heap.get?_update_self f ho (by rw [hf] <;> rfl), hf]
  refine I.write (x := p) (e := p) (by rw [h]; trivial) (.inl rfl) (fun b u hb q => (Heap.get?_update_other _ _ (Ne.symm hb)).trans q) ⟨_, e⟩ ?_
  exact ⟨hz, its', n', r, e⟩
def rSetL : V → V → V → Hp → (Hp → Prop) → Prop := fun o i v H Q => ∃ p xs k j, o = .ref p ∧ i = .int k ∧ H p = some (.lst xs) ∧ ixN xs.length k = some j ∧ Q (upd H p (.lst (xs.set j v)))
theorem set_list : PSet X rSetL := by
  intro pins s σ H o i v ov iv u Q I ro ri rv h
  obtain ⟨p, xs, k, j, rfl, rfl, hp, hj, q⟩ := h
  cases ro
  obtain ⟨t, rfl⟩ := ri
  obtain ⟨its, n, r, ho, hz⟩ := I.lst hp
  obtain ⟨h1, h2, h3, h4⟩ := ixN_seq hj
  have hl := r.length
  have hn := line63
  have I' : Inv X pins σ (upd H p (.lst (xs.set j v))) { s with heap := s.heap.update p (Obj.mapSeq (·.setIfInBounds j u)) } :=
    I.lstUpd hp ho (mapSeq_set its n j u) (r.set rv j) (by rw [List.length_set]; exact hz) s.toks
  by_cases h0 : 0 ≤ k
  · have hk : k.toNat = j := by
      rw [seqIndex_of h0 h4] at h1
      exact Option.some.inj h1
    exact PySem.W.ki_setAt ho h0 (by omega) (by rw [List.size_toArray, ← hl]; exact h4) (by rw [hk]; exact ⟨_, I', q⟩)
  · have hk : (k + (its.toArray.size : Int)).toNat = j := by
      rw [seqIndex_neg (by omega) h3] at h1
      rw [List.size_toArray, ← hl]
      exact Option.some.inj h1
    exact PySem.W.ki_setBack ho (by omega) (by rw [List.size_toArray, ← hl]; exact h3) (by omega) (by rw [hk]; exact ⟨_, I', q⟩)
theorem slice_bounds (lo hi : Option Int) (n : Nat) : (sliceBounds lo hi none n).1 = ((HT.sIx n 0 lo : Nat) : Int) ∧ (sliceBounds lo hi none n).2.1 = ((HT.sIx n n hi : Nat) : Int) ∧ (sliceBounds lo hi none n).2.2 = 1 := by
  refine ⟨?_, ?_, rfl⟩
  · cases lo with
    | none => simp [sliceBounds, HT.sIx]
    | some i =>
      simp only [sliceBounds, HT.sIx, Option.getD_none, show (1 : Int) > 0 by decide, if_true]
      by_cases h : i < 0
      · simp only [h, if_true] <;> omega
      · simp only [h, if_false] <;> omega
  · cases hi with
    | none => simp [sliceBounds, HT.sIx]
    | some i =>
      simp only [sliceBounds, HT.sIx, Option.getD_none, show (1 : Int) > 0 by decide, if_true]
      by_cases h : i < 0
      · simp only [h, if_true] <;> omega
      · simp only [h, if_false] <;> omega
theorem slicePick_cut (its : List Value) (lo hi : Option Int) : slicePick its.toArray lo hi none = ((its.drop (HT.sIx its.length 0 lo)).take (HT.sIx its.length its.length hi - HT.sIx its.length 0 lo)).toArray := by
  obtain ⟨h1, h2, h3⟩ := slice_bounds lo hi its.toArray.size
  unfold slicePick
  rw [h1, h2, h3]
  simp only [sliceRange_one, pick_run, List.size_toArray] <;> rfl
def rSlL (K : PySem.W.Frag) : V → Option Int → Option Int → Hp → VK → Prop := fun x lo hi H Q => ∃ a xs, x = .ref a ∧ SqL K H a xs ∧ ∀ p, H p = none → Q (.ref p) (upd H p (.lst (cutV xs lo hi)))
theorem sl_list : SlR X (rSlL X.K) := by
  intro pins s σ H x v vl vu lo hi sl Q I rx hs pl pu h
  obtain ⟨a, xs, rfl, hx, q⟩ := h
  cases rx
  obtain ⟨its, r, ht, hz⟩ := I.list hx
  have hlen := r.length
  refine ⟨"list", _, slot_list_getitem.lookup, ht.isList.typeIs, ?_⟩
  refine wpAny_getItem_list_slice ht.isList hs pl pu .none (by simp) ?_ (by rw [List.size_toArray] <;> omega)
  rw [slicePick_cut, ← hlen]
  refine ⟨.ref s.heap.objs.size, _, I.laid (t' := s.toks) (o := .lst (cutV xs lo hi)) (fun b ob q => Heap.get?_push_of_some _ q) (Nat.le_refl _) ?_, rfl, q _ (I.hok.fresh (Nat.le_refl _))⟩
  exact ⟨Nat.le_trans (cutV_length xs lo hi) hz, _, 0, (r.drop (HT.sIx xs.length 0 lo)).take (HT.sIx xs.length xs.length hi - HT.sIx xs.length 0 lo), Heap.get?_push_size _ rfl⟩
def flatV : V → Bool
  | .non => true
  | .bl _ => true
  | .int _ => true
  | .str _ => true
  | _ => false
def eqV : V → V → Bool
  | .non, .non => true
  | .bl a, .bl b => a == b
  | .bl a, .int b => (if a then 1 else 0) == b
  | .int a, .bl b => a == (if b then 1 else 0)
  | .int a, .int b => a == b
  | .str a, .str b => a == b
  | _, _ => false
theorem eqAt_V {A : Around} {s : Shared} {y x : V} {u v : Value} (ry : RelV y u) (rx : RelV x v) (fy : flatV y = true) (fx : flatV x = true) : SeqAt.EqAt A s u v (eqV y x) := by
  cases y with
  | non =>
    cases ry
    cases x with
    | non => cases rx; exact SeqAt.EqAt.same _
    | bl b => cases rx; exact SeqAt.EqAt.none_bool b
    | int b => obtain ⟨t, rfl⟩ := rx; exact SeqAt.EqAt.none_int b t
    | str b => obtain ⟨t, rfl⟩ := rx; exact SeqAt.EqAt.none_str b t
    | _ => exact absurd (show false = true from fx) Bool.false_ne_true
  | bl a =>
    cases ry
    cases x with
    | non => cases rx; exact SeqAt.EqAt.bool_none a
    | bl b => cases rx; exact SeqAt.EqAt.bool_bool a b
    | int b => obtain ⟨t, rfl⟩ := rx; exact SeqAt.EqAt.bool_int a b t
    | str b => obtain ⟨t, rfl⟩ := rx; exact SeqAt.EqAt.bool_str a b t
    | _ => exact absurd (show false = true from fx) Bool.false_ne_true
  | int a =>
    obtain ⟨t', rfl⟩ := ry
    cases x with
    | non => cases rx; exact SeqAt.EqAt.int_none a t'
    | bl b => cases rx; exact SeqAt.EqAt.int_bool a t' b
    | int b => obtain ⟨t, rfl⟩ := rx; exact SeqAt.EqAt.int_int a t' b t
    | str b => obtain ⟨t, rfl⟩ := rx; exact SeqAt.EqAt.int_str a t' b t
    | _ => exact absurd (show false = true from fx) Bool.false_ne_true
  | str a =>
    obtain ⟨t', rfl⟩ := ry
    cases x with
    | non => cases rx; exact SeqAt.EqAt.str_none a t'
    | bl b => cases rx; exact SeqAt.EqAt.str_bool a t' b
    | int b => obtain ⟨t, rfl⟩ := rx; exact SeqAt.EqAt.str_int a t' b t
    | str b => obtain ⟨t, rfl⟩ := rx; exact SeqAt.EqAt.str_str a t' b t
    | _ => exact absurd (show false = true from fx) Bool.false_ne_true
  | _ => exact absurd (show false = true from fy) Bool.false_ne_true
def eqU (x : V) (u : Value) : Bool := match u with
  | .none => eqV .non x
  | .bool b => eqV (.bl b) x
  | .int i _ => eqV (.int i) x
  | .str z _ => eqV (.str z) x
  | _ => false
theorem eqU_of {x y : V} {u : Value} (r : RelV y u) (f : flatV y = true) : eqU x u = eqV y x := by
  cases y with
  | non => cases r; rfl
  | bl b => cases r; rfl
  | int i => obtain ⟨t, rfl⟩ := r; rfl
  | str z => obtain ⟨t, rfl⟩ := r; rfl
  | _ => exact absurd (show false = true from f) Bool.false_ne_true
theorem any_eqU {x : V} : ∀ {xs : List V} {us : List Value}, Vals xs us → xs.all flatV = true → us.any (eqU x) = xs.any fun y => eqV y x
  | _, _, .nil, _ => rfl
  | y :: xs, u :: us, .cons r t, f => by
    rw [List.all_cons, Bool.and_eq_true] at f
    rw [List.any_cons, List.any_cons, eqU_of r f.1, any_eqU t f.2]
theorem mem_eqAt {A : Around} {s : Shared} {x : V} {v : Value} (rx : RelV x v) (fx : flatV x = true) : ∀ {xs : List V} {us : List Value}, Vals xs us → xs.all flatV = true → ∀ u ∈ us, SeqAt.EqAt A s u v (eqU x u)
  | _, _, .nil, _ => fun u hu => by cases hu
  | y :: xs, u :: us, .cons r t, f => fun u' hu => by
    rw [List.all_cons, Bool.and_eq_true] at f
    rcases List.mem_cons.mp hu with rfl | hu
    · rw [eqU_of r f.1]; exact eqAt_V r rx f.1 fx
    · exact mem_eqAt rx fx t f.2 u' hu
def inV (x : V) (xs : List V) : Bool := xs.any fun y => eqV y x
def rIn (K : PySem.W.Frag) (neg : Bool) : R2 := fun x y H Q => ∃ p xs, y = .ref p ∧ (SqL K H p xs ∨ SqT K H p xs) ∧ flatV x = true ∧ xs.all flatV = true ∧ Q (.bl (if neg then !inV x xs else inV x xs)) H
theorem op_in_seq : OpR X (compareOp .In) (rIn X.K false) := by
  intro pins s σ H x y v u Q I rx ry h
  obtain ⟨p, xs, rfl, hq, fx, fs, q⟩ := h
  cases ry
  rcases hq with hq | hq
  · obtain ⟨its, r, pl, hz⟩ := I.list hq
    refine SeqAt.in_listAt (eqU x) pl.isList (fun w hw => mem_eqAt rx fx r fs w (by simpa using hw)) ⟨.bl _, H, I, rfl, ?_⟩
    rw [show its.toArray.any (eqU x) = its.any (eqU x) by simp, any_eqU r fs]
    exact q
  · obtain ⟨its, r, pl, hz⟩ := I.tuple hq
    refine SeqAt.in_tupleAt (eqU x) pl (fun w hw => mem_eqAt rx fx r fs w (by simpa using hw)) ⟨.bl _, H, I, rfl, ?_⟩
    rw [show its.toArray.any (eqU x) = its.any (eqU x) by simp, any_eqU r fs]
    exact q
theorem op_notIn_seq : OpR X (compareOp .NotIn) (rIn X.K true) := by
  intro pins s σ H x y v u Q I rx ry h
  obtain ⟨p, xs, rfl, hq, fx, fs, q⟩ := h
  cases ry
  rcases hq with hq | hq
  · obtain ⟨its, r, pl, hz⟩ := I.list hq
    refine SeqAt.notIn_listAt (eqU x) pl.isList (fun w hw => mem_eqAt rx fx r fs w (by simpa using hw)) ⟨.bl _, H, I, rfl, ?_⟩
    rw [show its.toArray.any (eqU x) = its.any (eqU x) by simp, any_eqU r fs]
    exact q
  · obtain ⟨its, r, pl, hz⟩ := I.tuple hq
    refine SeqAt.notIn_tupleAt (eqU x) pl (fun w hw => mem_eqAt rx fx r fs w (by simpa using hw)) ⟨.bl _, H, I, rfl, ?_⟩
    rw [show its.toArray.any (eqU x) = its.any (eqU x) by simp, any_eqU r fs]
    exact q
theorem CallR.or {f : Value} {r r' : List V → Hp → VK → Prop} (h : CallR X f r) (h' : CallR X f r') : CallR X f (fun xs H Q => r xs H Q ∨ r' xs H Q) := by
  intro pins s σ H xs us Q I rs q
  rcases q with q | q
  · exact h pins s σ H xs us Q I rs q
  · exact h' pins s σ H xs us Q I rs q
theorem call_tuple_of : CallR X (.type "tuple") (fun xs H Q => ∃ p ys, xs = [.ref p] ∧ ((SqL X.K H p ys ∧ ∀ l, H l = none → Q (.ref l) (upd H l (.tup ys))) ∨ (SqT X.K H p ys ∧ Q (.ref p) H))) := by
  intro pins s σ H xs us Q I r h
  obtain ⟨p, ys, rfl, h⟩ := h
  obtain ⟨u, rfl, rx⟩ := vals1 r
  cases rx
  rcases h with ⟨hq, q⟩ | ⟨hq, q⟩
  · obtain ⟨its, r', pl, hz⟩ := I.list hq
    have hlen := r'.length
    refine call_tuple_list pl.isList (fun h' kp => ?_) (by simp only [List.size_toArray] <;> omega)
    have I1 : Inv X pins σ H { s with heap := h' } := I.kept (t' := s.toks) kp
    have I2 : Inv X pins σ (upd H h'.objs.size (.tup ys)) { s with heap := h'.push { cls := .type "tuple", data := .seq its.toArray } } :=
      I1.laid (t' := s.toks) (fun b o e => Heap.get?_push_of_some _ e) (Nat.le_refl _) (show ObjOk X.prog X.w _ _ _ (.tup ys) from ⟨hz, its, r', IsTup.new _ _⟩)
    exact ⟨.ref h'.objs.size, _, I2, rfl, q _ (I1.hok.fresh (Nat.le_refl _))⟩
  · obtain ⟨its, r', pl, hz⟩ := I.tuple hq
    exact call_tuple_same pl ⟨.ref p, H, I, rfl, q⟩
def tyV (K : PySem.W.Frag) (T : String) (x : V) (H : Hp) : Prop := match x with
  | .str _ => T = "str"
  | .int _ => T = "int"
  | .ref p => (T = "list" ∧ ∃ xs, SqL K H p xs) ∨ (T = "tuple" ∧ ∃ o, K.lookup p = some o ∧ o.cls = .type "tuple" ∧ o.dict = none) ∨
      (T = "dict" ∧ ((∃ kvs, H p = some (.dK kvs)) ∨ ∃ kvs, H p = some (.dT kvs))) ∨ (T = "set" ∧ ∃ S n, H p = some (.set S n))
  | _ => False
theorem tyV_is {pins : List (Addr × Obj)} {σ : St} {H : Hp} {s : Shared} {T : String} {x : V} {v : Value} (I : Inv X pins σ H s) (r : RelV x v) (ty : tyV X.K T x H) :
    s.TypeIs v T ∧ ∀ a, v = .ref a → ∃ ob, s.heap.get? a = some ob ∧ ob.dict = none := by
  cases x with
  | str z =>
    obtain ⟨t, rfl⟩ := r
    cases (show T = "str" from ty)
    exact ⟨typeIs_str s z t, fun _ e => nomatch e⟩
  | int i =>
    obtain ⟨t, rfl⟩ := r
    cases (show T = "int" from ty)
    exact ⟨typeIs_int s i t, fun _ e => nomatch e⟩
  | ref p =>
    cases r
    rcases ty with ⟨rfl, xs, hq⟩ | ⟨rfl, o, hk, hc, hd⟩ | ⟨rfl, hk⟩ | ⟨rfl, S, n, hk⟩
    · obtain ⟨its, _, pl, _⟩ := I.list hq
      refine ⟨pl.isList.typeIs, fun a e => ?_⟩
      cases e
      obtain ⟨o, n, e, c, hd, _⟩ := pl
      exact ⟨o, e, hd⟩
    · refine ⟨⟨o, I.kIn p o hk, hc⟩, fun a e => ?_⟩
      cases e
      exact ⟨o, I.kIn _ o hk, hd⟩
    · have z : ∃ o, s.heap.get? p = some o ∧ o.ExactDict := by
        rcases hk with ⟨kvs, hk⟩ | ⟨kvs, hk⟩
        · obtain ⟨_, _, _, _, o, _, _, e, ex, _⟩ := I.hok p _ hk
          exact ⟨o, e, ex⟩
        · obtain ⟨_, _, _, _, o, _, _, e, ex, _⟩ := I.hok p _ hk
          exact ⟨o, e, ex⟩
      obtain ⟨o, e, ex⟩ := z
      refine ⟨⟨o, e, ex.1⟩, fun a e2 => ?_⟩
      cases e2
      exact ⟨o, e, ex.2.1⟩
    · obtain ⟨o, _, _, _, e, ex, _⟩ := I.hok p _ hk
      refine ⟨⟨o, e, ex.1⟩, fun a e2 => ?_⟩
      cases e2
      exact ⟨o, e, ex.2.1⟩
  | _ => exact False.elim ty
def tBM0 (K : PySem.W.Frag) (T : String) (r : V → List V → Hp → VK → Prop) (to : TE) : TE := fun σ H Q => to σ H fun x H1 => tyV K T x H1 ∧ r x [] H1 Q
def tBM (K : PySem.W.Frag) (T : String) (r : V → List V → Hp → VK → Prop) (to : TE) (t : TA) : TE := fun σ H Q => to σ H fun x H1 => tyV K T x H1 ∧ t σ H1 fun xs H2 => r x xs H2 Q
variable {o e : Expr} {es : List Expr} {to : TE} {t : TA} {name : Str} {apos cpos : Pos} {T id : String} {r : V → List V → Hp → VK → Prop}
theorem pe_bm0 (pa : PlainAttrs T) (slot : Slot T name id) (hty : typeOf (.builtin id) = pure (.type "method_descriptor")) (hm : MtR X id r) (ho : PE X o to)
    (hbase : attributeBase o name X.env (eval o X.env) = eval o X.env := by rfl) (hline : (apos.endLine == cpos.line) = true := by rfl) : PE X (.Call (.Attribute o name apos) [] [] cpos) (tBM0 X.K T r to) := by
  intro pins s σ H Q I h
  refine wpAny_Call_method0_late hbase hline (thn (ho pins s σ H _ I h) fun v s1 ⟨x, H1, I1, r1, ty, q1⟩ => ?_)
  obtain ⟨h1, h2⟩ := tyV_is I1 r1 ty
  exact ⟨T, id, pa, slot, hty, h1, h2, Calls.callWith_builtin rfl (PySem.evalArgs_none (hm pins s1 σ H1 x [] v [] Q I1 r1 .nil q1))⟩
theorem pe_bm (pa : PlainAttrs T) (slot : Slot T name id) (hty : typeOf (.builtin id) = pure (.type "method_descriptor")) (hm : MtR X id r) (ho : PE X o to) (ha : PA X (e :: es) t)
    (hbase : attributeBase o name X.env (eval o X.env) = eval o X.env := by rfl)
    (hfew : ((backTo cpos (starEach (e :: es) X.env)).all (fun x => !x.1) && (backToKw cpos (keywordEach [] X.env)).all (fun x => x.1.isSome)
      && decide ((e :: es).length + ([] : List Keyword).length + (if ([] : List Keyword).isEmpty then 0 else 1) < 30)) = true := by rfl)
    (hline : (apos.endLine == cpos.line) = true := by rfl) (hs : starEach (e :: es) X.env = (false, eval e X.env) :: starEach es X.env := by rfl) (hplain : (backTo cpos (starEach es X.env)).any (·.1) = false := by rfl) :
    PE X (.Call (.Attribute o name apos) (e :: es) [] cpos) (tBM X.K T r to t) := by
  intro pins s σ H Q I h
  refine wpAny_Call_method_late hbase hfew hline rfl (thn (ho pins s σ H _ I h) fun v s1 ⟨x, H1, I1, r1, ty, q1⟩ => ?_)
  obtain ⟨h1, h2⟩ := tyV_is I1 r1 ty
  refine ⟨T, id, pa, slot, hty, h1, h2, ?_⟩
  have hA := ha cpos pins s1 σ H1 _ I1 q1
  rw [hs] at hA ⊢
  refine Calls.callWith_builtin (by show (false || (backTo cpos (starEach es X.env)).any (·.1)) = false; rw [hplain] <;> rfl) (Calls.evalArgs_plain ?_)
  exact thn hA fun us s2 ⟨vs, H2, I2, r2, q2⟩ => hm pins s2 σ H2 x vs v us Q I2 r1 r2 q2
end
end L2
namespace L2
open PySem PySem.Spec PyProof.Rows
def MtM (X : Cx) (id : String) (r : V → List V → Hp → VK → Prop) : Prop :=
  ∀ (pins : List (Addr × Obj)) (s : Shared) (σ : St) (H : Hp) (x : V) (xs : List V) (v : Value) (us : List Value) (Q : VK), Inv X pins σ H s → RelV x v → Vals xs us → r x xs H Q →
    wpAny (model X.prog X.w) X.A (call (.builtin id) (v :: us)) (EP X pins σ Q) X.xe s
theorem Vals.one : ∀ {x : V} {us : List Value}, Vals [x] us → ∃ u, us = [u] ∧ RelV x u
  | _, _, .cons r .nil => ⟨_, rfl, r⟩
theorem Vals.two : ∀ {x y : V} {us : List Value}, Vals [x, y] us → ∃ u v, us = [u, v] ∧ RelV x u ∧ RelV y v
  | _, _, _, .cons r (.cons q .nil) => ⟨_, _, rfl, r, q⟩
theorem Vals.zero : ∀ {us : List Value}, Vals [] us → us = []
  | _, .nil => rfl
theorem Vals.dropLast {xs : List V} {us : List Value} (h : Vals xs us) : Vals xs.dropLast us.dropLast := by
  induction h with
  | nil => exact .nil
  | cons r t ih =>
    cases t with
    | nil => exact .nil
    | cons q t' => exact .cons r ih
theorem Vals.eraseIdx : ∀ {xs : List V} {us : List Value} (i : Nat), Vals xs us → Vals (xs.eraseIdx i) (us.eraseIdx i)
  | _, _, _, .nil => .nil
  | _, _, 0, .cons _ t => t
  | _, _, i + 1, .cons r t => .cons r (Vals.eraseIdx i t)
theorem Vals.reverse {xs : List V} {us : List Value} (h : Vals xs us) : Vals xs.reverse us.reverse := by
  induction h with
  | nil => exact .nil
  | cons r t ih => rw [List.reverse_cons, List.reverse_cons]; exact Vals.append ih (.cons r .nil)
theorem erase_last {α : Type} (l : List α) : l.eraseIdx (l.length - 1) = l.dropLast := by
  induction l with
  | nil => rfl
  | cons a r ih =>
    cases r with
    | nil => rfl
    | cons b r =>
      have e : (a :: b :: r).length - 1 = ((b :: r).length - 1) + 1 := by
        have h1 : (a :: b :: r).length = r.length + 2 := rfl
        have h2 : (b :: r).length = r.length + 1 := rfl
        omega
      rw [e, List.eraseIdx_cons_succ, ih]
      all_goals rfl
section
variable {X : Cx} {pins : List (Addr × Obj)} {σ : St} {H : Hp} {s : Shared} {l b : Addr} {xs ys zs : List V}
theorem Inv.lset {its its' : List Value} {n : Nat} {f : Array Value → Array Value} {t' : Nat} (I : Inv X pins σ H s) (hH : H l = some (.lst xs))
    (e : s.heap.get? l = some { cls := .type "list", data := .seq its.toArray n }) (hf : f its.toArray = its'.toArray) (hv : Vals ys its') (hz : ys.length ≤ sizeLine) :
    Inv X pins σ (upd H l (.lst ys)) { s with heap := s.heap.update l (Obj.mapSeq f), toks := t' } := by
  have q := PySem.IsL.update e f
  rw [hf] at q
  refine I.write (x := l) (e := l) (by rw [hH]; exact trivial) (.inl rfl) (fun b' u hb hu => (Heap.get?_update_other s.heap (Obj.mapSeq f) (Ne.symm hb)).trans hu) ⟨_, q⟩ ?_
  exact ⟨hz, its', _, hv, q⟩
theorem Inv.lnew {its : List Value} {t' : Nat} (I : Inv X pins σ H s) (hv : Vals ys its) (hz : ys.length ≤ sizeLine) :
    Inv X pins σ (upd H s.heap.objs.size (.lst ys)) { s with heap := s.heap.push { cls := .type "list", data := .seq its.toArray }, toks := t' } :=
  I.laid (fun _ _ q => Heap.get?_push_of_some _ q) (Nat.le_refl _) ⟨hz, its, 0, hv, Heap.get?_push_size _ rfl⟩
theorem Inv.fresh (I : Inv X pins σ H s) : H s.heap.objs.size = none := I.hok.fresh (Nat.le_refl _)
theorem Inv.lstM (I : Inv X pins σ H s) (hH : H l = some (.lst xs)) : xs.length ≤ sizeLine ∧ ∃ (its : List Value) (n : Nat), Vals xs its ∧ xs.length = its.length ∧ s.heap.get? l = some { cls := .type "list", data := .seq its.toArray n } := by
  obtain ⟨z, its, n, r, e⟩ := I.hok l _ hH
  exact ⟨z, its, n, r, r.length, e⟩
theorem notLongL {n : Nat} (h : n ≤ sizeLine) : Builtin.List.listTooLong n = false := by
  unfold Builtin.List.listTooLong
  exact decide_eq_false (by omega)
end
section
variable {X : Cx}
def rAppend : V → List V → Hp → VK → Prop := fun x vs H Q => ∃ l xs y, x = .ref l ∧ vs = [y] ∧ H l = some (.lst xs) ∧ xs.length < sizeLine ∧ Q .non (upd H l (.lst (xs ++ [y])))
theorem mt_append : MtM X "list.append" rAppend := by
  intro pins s σ H x vs v us Q I rx rv h
  obtain ⟨l, xs, y, rfl, rfl, hH, hz, q⟩ := h
  cases rx
  obtain ⟨u, rfl, ru⟩ := rv.one
  obtain ⟨z, its, n, r, hl, e⟩ := I.lstM hH
  refine call_meets F.slot_list_append ⟨_, e, rfl⟩ F.entry_list_append (F.args_list_append_2 _ _) (PySem.list_append l its.toArray n u (by rw [List.size_toArray]; omega)) ⟨e, ?_⟩
  refine ⟨.non, _, I.lset (its' := its ++ [u]) hH e (by simp) (r.append (.cons ru .nil)) ?_, rfl, q⟩
  rw [List.length_append, List.length_singleton]
  omega
def rExtend : V → List V → Hp → VK → Prop := fun x vs H Q => ∃ l b xs zs, x = .ref l ∧ vs = [.ref b] ∧ H l = some (.lst xs) ∧ H b = some (.lst zs) ∧ xs.length + zs.length ≤ sizeLine ∧ Q .non (upd H l (.lst (xs ++ zs)))
theorem mt_extend : MtM X "list.extend" rExtend := by
  intro pins s σ H x vs v us Q I rx rv h
  obtain ⟨l, b, xs, zs, rfl, rfl, hH, hB, hz, q⟩ := h
  cases rx
  obtain ⟨u, rfl, ru⟩ := rv.one
  cases ru
  obtain ⟨z, its, n, r, hl, e⟩ := I.lstM hH
  obtain ⟨z2, its2, n2, r2, hl2, e2⟩ := I.lstM hB
  have hsz : its.toArray.size + its2.toArray.size ≤ sizeLine := by rw [List.size_toArray, List.size_toArray]; omega
  have hlong : ¬ (!its.toArray.isEmpty && Builtin.List.listTooLong (its.toArray.size + its2.toArray.size)) = true := by
    rw [notLongL hsz, Bool.and_false]
    exact Bool.false_ne_true
  refine call_meets F.slot_list_extend ⟨_, e, rfl⟩ F.entry_list_extend (F.args_list_extend_2 _ _)
    (AutoSeq1.list_extend_list_list_0 l its.toArray n b its2.toArray n2 hlong (by rw [List.size_toArray]; omega) (by omega)) ⟨e, e2, ?_⟩
  refine ⟨.non, _, I.lset (its' := its ++ its2) hH e (by simp) (r.append r2) ?_, rfl, q⟩
  rw [List.length_append]
  omega
def rPop : V → List V → Hp → VK → Prop := fun x vs H Q => ∃ l xs y, x = .ref l ∧ vs = [] ∧ H l = some (.lst xs) ∧ xs[xs.length - 1]? = some y ∧ Q y (upd H l (.lst xs.dropLast))
theorem mt_pop : MtM X "list.pop" rPop := by
  intro pins s σ H x vs v us Q I rx rv h
  obtain ⟨l, xs, y, rfl, rfl, hH, hy, q⟩ := h
  cases rx
  have hus := rv.zero
  subst hus
  obtain ⟨z, its, n, r, hl, e⟩ := I.lstM hH
  obtain ⟨u, hu, ru⟩ := r.get hy
  have hy' : its.toArray[its.toArray.size - 1]? = some u := by
    show its.toArray[its.length - 1]? = some u
    rw [← Array.getElem?_toList, ← hl]
    exact hu
  refine call_meets F.slot_list_pop ⟨_, e, rfl⟩ F.entry_list_pop (F.args_list_pop_1 _) (MeetsSeq.list_pop_last l its.toArray n u hy' (by rw [List.size_toArray]; omega)) ⟨e, ?_⟩
  refine ⟨y, _, I.lset (its' := its.dropLast) hH e ?_ r.dropLast ?_, ru, q⟩
  · show its.toArray.eraseIdxIfInBounds (its.toArray.size - 1) = its.dropLast.toArray
    rw [List.size_toArray, List.eraseIdxIfInBounds_toArray, erase_last]
  · rw [List.length_dropLast]
    omega
def rReverse : V → List V → Hp → VK → Prop := fun x vs H Q => ∃ l xs, x = .ref l ∧ vs = [] ∧ H l = some (.lst xs) ∧ Q .non (upd H l (.lst xs.reverse))
theorem mt_reverse : MtM X "list.reverse" rReverse := by
  intro pins s σ H x vs v us Q I rx rv h
  obtain ⟨l, xs, rfl, rfl, hH, q⟩ := h
  cases rx
  have hus := rv.zero
  subst hus
  obtain ⟨z, its, n, r, hl, e⟩ := I.lstM hH
  refine call_meets F.slot_list_reverse ⟨_, e, rfl⟩ F.entry_list_reverse (F.args_list_reverse_1 _) (AutoSeq1.list_reverse_list_0 l its.toArray n (by rw [List.size_toArray]; omega)) ⟨e, ?_⟩
  refine ⟨.non, _, I.lset (its' := its.reverse) hH e (by simp) r.reverse ?_, rfl, q⟩
  rw [List.length_reverse]
  omega
end
section
variable {prog : Program} {w : World} {A : Around} {E : Value → Shared → Prop} {s : Shared}
end
section
variable {X : Cx}
end
end L2
namespace Att
open PySem PySem.W PySem.Calls PyProof.Rows
theorem ints_of_wellAll {P : Params} {h : Heap} : ∀ (ns : List Int) (vs : List Value), WellAll P h vs (ns.map WData.int) → IntsAre vs ns := by
  intro ns
  induction ns with
  | nil =>
    intro vs w
    rw [List.map_nil] at w
    cases w
    exact .nil
  | cons n ns ih =>
    intro vs w
    rw [List.map_cons] at w
    cases w with
    | cons a b =>
      cases a
      exact .cons _ _ (ih _ b)
theorem script_of {l : OpenLaw} {n : Nat} (hn : l.most = some n) {P : Params} {h : Heap} {args : List WData} {vals : List Value}
    (hpre : l.row.toRowW.claim.pre args = true) (hwl : WellAll P h vals args) :
    ∃ a vs ns, vals = [Value.ref a] ∧ args = [WData.list (ns.map WData.int)] ∧ h.get? a = some { cls := .type "list", data := .seq vs.toArray } ∧ IntsAre vs ns ∧ ns.length ≤ n := by
  have hsh : WShape.hasAll [] args [.list .int] = true := (pre_splitW hpre).1
  have hc : l.pre.holds [] { args := args } = true := (pre_splitW hpre).2
  obtain ⟨d, r, rfl, h1, h2⟩ := hasAllW_cons hsh
  obtain rfl := hasAllW_nil h2
  obtain ⟨xs, rfl, h3⟩ := hasW_list h1
  obtain ⟨ns, rfl⟩ := items_int h3
  have hlen : ns.length ≤ n := by
    unfold OpenLaw.pre at hc
    have h4 : (WTm.not (.lt (.lit (.int (n : Int))) (.len (.arg 0)))).holds [] { args := [.list (ns.map .int)] } = true := by
      have h4 := (holds_andW hc).1
      rw [hn] at h4
      exact h4
    have h5 := condW_of h4 (w_not (w_lt w_lit (w_len_list (w_arg rfl))))
    rw [List.length_map] at h5
    refine Nat.le_of_not_lt fun q => ?_
    have q' : (n : Int) < ((ns.length : Nat) : Int) := by omega
    first
      | (rw [decide_eq_true q'] at h5; exact absurd h5 (by decide))
      | (simp at h5; omega)
  cases hwl with
  | cons w1 w2 =>
    cases w2
    cases w1 with
    | list ho hall => exact ⟨_, _, ns, rfl, rfl, ho, ints_of_wellAll ns _ hall, hlen⟩
theorem post_true (l : OpenLaw) (args : List WData) : l.row.toRowW.claim.post args (.bool true) args = true :=
  postW_of (r := l.row.toRowW) (X := (true == true))
    (show WShape.has [] (.bool true) .bool = true by first | rfl | decide | simp [WShape.has, WShape.arms, WShape.armsAll])
    (show (WTm.eq .res (.lit (.bool true))).value [] { args := args, res := some (.bool true), after := args } = some (.bool (true == true)) from w_eq_bool (w_res rfl) w_lit) rfl
theorem attach_call {l : OpenLaw} {n : Nat} {q : Program} {loose : List Str} {XP : (Str → Option Value) → Heap → Prop} {YP : World → Heap → Prop} {d : DefRec}
    (hn : l.most = some n) (hdf : d.params.defaults = [])
    (call : ∀ (w : World) (s₀ s₁ : Shared) (mg mb : Str → Option Value) (fa : Addr) (o : Obj) (pm cd doc : Value) (a : Addr) (vs : List Value) (ns : List Int),
      Ground q loose [] XP w s₀ mg mb s₁.heap → YP w s₁.heap →
      s₁.heap.get? fa = some o → o.data = .func (docDef d.name d.params d.body d.scope pm cd doc) → s₁.heap.CodeRec cd d.name → mg d.name = some (.ref fa) →
      s₁.heap.get? a = some { cls := .type "list", data := .seq vs.toArray } → IntsAre vs ns → ns.length ≤ n → s₁.gens = #[] →
      codeAny (model l.prog w) callerA (.call (.ref fa) ⟨[.ref a], []⟩) (fun r s' => r = .ok (.ret (.bool true)) ∧ OldK s₁.heap s'.heap ∧ s'.os = s₁.os ∧ AllBare s'.gens) s₁) :
    WalkO q loose XP YP l.row.toRowW d [] (fun f vs => PySem.call f vs) := by
  intro w s₀ s₁ mg mb G Y fa o pm cd doc dV kV ho hd hcd hD hmg hg args vals as hpre hlay hrd hwl hlo
  obtain rfl : dV = .none := Dflts.none hD hdf
  obtain rfl : kV = .none := Dflts.noKw hD
  obtain ⟨a, vs, ns, rfl, rfl, hobj, hints, hlen⟩ := script_of hn hpre hwl
  refine enter_call (codeAny_mono (call w s₀ s₁ mg mb fa o pm cd doc a vs ns G Y ho (fd_plain hd) hcd hmg hobj hints hlen hg) fun r s' hq => ?_)
  obtain ⟨rfl, h2, h3, h4⟩ := hq
  exact ⟨.inl ⟨.bool true, .bool true, [], rfl, fun _ => rfl, .bool true, post_true l _, fun _ => ⟨List.Pairwise.nil, fun _ hm => (nomatch hm)⟩⟩, h2, h3, h4⟩
section
variable {prog : Program} {w : World} {A : Around} {E : Value → Shared → Prop} {s : Shared} {K : Frag}
end
end Att
namespace L2
open PySem PySem.Spec PyProof.Rows
theorem vals_ints : ∀ {vs : List Value} {ns : List Int}, IntsAre vs ns → Vals (ns.map V.int) vs
  | _, _, .nil => .nil
  | _, _, .cons n t h => .cons ⟨t, rfl⟩ (vals_ints h)
def Only (H : Hp) : Prop := ∀ b, H b = none ∨ ∃ o xs, H b = some (.frz o (.lst xs))
theorem law_call {P : Program} {w : World} {K : PySem.W.Frag} {mg mb : Str → Option Value} {CX : CXT} {k : Nat} {fa a : Addr} {fd : FuncData} {x : Str} {sp : Sp} {s₁ : Shared} {vs : List Value} {ns : List Int}
    (KX : K.In s₁.heap) (hns : s₁.heap.Ns mainGlobals mg) (hb : s₁.heap.Ns builtinsNs mb) (hbb : ∀ x : Str, x ≠ "__name__" → mb x = bootBuiltins x) (hlim : s₁.heap.NoLimit) (hg : s₁.gens = #[])
    (ha : s₁.heap.get? a = some { cls := .type "list", data := .seq vs.toArray }) (hi : IntsAre vs ns) (hl : ns.length ≤ sizeLine) (hr : Room k callerA)
    (F : ∀ base : Heap, K.In base → base.Ns mainGlobals mg → FnOk P w K mg base CX k fa fd [x] sp) (hbind : ∀ (s : Shared) (u : Value), BindsTo s fd ⟨[u], []⟩ [(x, u)])
    (hsp : ∀ H : Hp, Only H → SqL K H a (ns.map V.int) → sp [.ref a] H (fun v _ => v = .bl true) fun _ _ _ => False)
    (hCX : ∀ H e s', CX [] H s₁ (fun _ _ _ => False) e s' → False) :
    codeAny (model P w) callerA (.call (.ref fa) ⟨[.ref a], []⟩) (fun r s' => r = .ok (.ret (.bool true)) ∧ OldK s₁.heap s'.heap ∧ s'.os = s₁.os ∧ AllBare s'.gens) s₁ := by
  have rv := vals_ints hi
  have lenV := hi.length
  have core : ∀ H : Hp, Only H → SqL K H a (ns.map V.int) → HOk P w H s₁.heap → (∀ b, H b ≠ none → b = a) → (H a ≠ none → K.lookup a = none) →
      codeAny (model P w) callerA (.call (.ref fa) ⟨[.ref a], []⟩) (fun r s' => r = .ok (.ret (.bool true)) ∧ OldK s₁.heap s'.heap ∧ s'.os = s₁.os ∧ AllBare s'.gens) s₁ := by
    intro H hO hS hok hA hK
    have base_of : ∀ {b : Addr} {o : Obj}, s₁.heap.get? b = some o → H b = none → (hidT s₁.heap H).get? b = some o := fun e n => hidT_get e n
    have noA : ∀ {b : Addr} {o : Obj} {es : Array DictEntry} {ep : Nat}, s₁.heap.get? b = some o → o.data = .dict es ep → H b = none := fun {b o es ep} e d => by
      cases q : H b with
      | none => rfl
      | some u =>
        have e' : b = a := hA b (by rw [q]; simp)
        subst e'
        rw [ha] at e; cases e
        have d' : Data.seq vs.toArray _ = Data.dict es ep := d
        cases d'
    have nsK : ∀ {b : Addr} {m : Str → Option Value}, s₁.heap.Ns b m → (hidT s₁.heap H).Ns b m := fun {b m} ⟨o, es, ep, e, d, r⟩ => ⟨o, es, ep, base_of e (noA e d), d, r⟩
    have hKb : K.In (hidT s₁.heap H) := fun b o e => base_of (KX b o e) (by
      cases q : H b with
      | none => rfl
      | some u =>
        have e' : b = a := hA b (by rw [q]; simp)
        subst e'
        rw [hK (by rw [q]; simp)] at e; cases e)
    have hM : Mod K mg (hidT s₁.heap H) := ⟨hKb, nsK hns, ⟨mb, nsK hb, hbb⟩, let ⟨mc, h1, h2⟩ := hlim; ⟨mc, nsK h1, h2⟩⟩
    have e0 : Env0 P w K mg (hidT s₁.heap H) callerA [] s₁ H := ⟨rfl, hM, fun b o e => of_hidT e, Nat.le_of_eq (hidT_size _ _), trivial, fun b hb => absurd (show b ∈ ([] : List Addr) from hb) (by simp), hok, .of_eq hg⟩
    refine codeAny_mono ((F _ hKb (nsK hns)).run callerA [] s₁ H ⟨[.ref a], []⟩ [.ref a] [.ref a] _ _ hr e0 (hbind s₁ (.ref a)) (.cons rfl .nil) (hsp H hO hS)) fun r s' h => ?_
    cases r with
    | error e => exact (hCX H e s' h).elim
    | ok fl =>
      cases fl with
      | next => exact False.elim h
      | brk => exact False.elim h
      | cont => exact False.elim h
      | ret u =>
        obtain ⟨v, H', os, bare, un, hok', r', q⟩ := h
        have q' : v = .bl true := q
        subst q'
        obtain rfl : u = Value.bool true := r'
        refine ⟨rfl, OldK.of_keep fun b o e => ?_, os, bare⟩
        cases q : H b with
        | none => exact un.keep b o e q (by intro z; exact absurd (show b ∈ ([] : List Addr) from z) (by simp)) (by simp)
        | some u =>
          rcases hO b with z | ⟨ob, xs, z⟩
          · rw [q] at z; cases z
          · have z2 := un.frzs b ob _ z
            obtain ⟨e1, _⟩ := hok b _ z
            obtain ⟨e2, _⟩ := hok' b _ z2
            rw [e] at e1; cases e1
            exact e2
  cases hk : K.lookup a with
  | some o =>
    have e := KX a o hk
    rw [ha] at e
    cases e
    refine core (fun _ => none) (fun _ => .inl rfl) (.inr ⟨_, vs.toArray, _, hk, rfl, rfl, rfl, by rw [List.size_toArray, lenV]; exact hl, by simpa using rv⟩) (fun b u z => by have z' : (none : Option HO) = some u := z; cases z') (fun b z => absurd rfl z) fun z => absurd rfl z
  | none =>
    refine core (fun b => if b = a then some (.frz { cls := .type "list", data := .seq vs.toArray } (.lst (ns.map V.int))) else none) (fun b => ?_) (.inl (.inr ⟨{ cls := .type "list", data := .seq vs.toArray }, if_pos rfl⟩)) (fun b u z => ?_) (fun b z => ?_) fun _ => hk
    · by_cases hb : b = a
      · exact .inr ⟨_, _, if_pos hb⟩
      · exact .inl (if_neg hb)
    · by_cases hb : b = a
      · have z' := (if_pos hb).symm.trans z
        cases z'
        subst hb
        exact ⟨ha, by rw [List.length_map]; exact hl, vs, _, rv, ha⟩
      · have z' := (if_neg hb).symm.trans z
        cases z'
    · by_cases hb : b = a
      · exact hb
      · exact absurd (if_neg hb) z
end L2
namespace L2
open PySem PySem.Spec PyProof.Rows
theorem walk_of {l : PySem.W.OpenLaw} {n k : Nat} {q : Program} {loose : List Str} {XP : (Str → Option Value) → Heap → Prop} {YP : World → Heap → Prop} {d : DefRec} {K : Params → PySem.W.Frag} {CX : World → CXT} {sp : World → Sp} {x : Str}
    (hn : l.most = some n) (hn2 : n ≤ sizeLine) (hdf : d.params.defaults = []) (hr : Room k callerA)
    (hY : ∀ (w : World) (h : Heap), YP w h → (K w.params).In h)
    (F : ∀ (w : World) (mg : Str → Option Value) (fa : Addr) (h : Heap), (K w.params).In h → h.Ns mainGlobals mg → mg d.name = some (.ref fa) →
      ∃ fd : FuncData, (∀ (s : Shared) (u : Value), BindsTo s fd ⟨[u], []⟩ [(x, u)]) ∧
        ∀ base : Heap, (K w.params).In base → base.Ns mainGlobals mg → FnOk l.prog w (K w.params) mg base (CX w) k fa fd [x] (sp w))
    (hsp : ∀ (w : World) (H : Hp) (a : Addr) (ns : List Int), ns.length ≤ n → Only H → SqL (K w.params) H a (ns.map V.int) → sp w [.ref a] H (fun v _ => v = .bl true) fun _ _ _ => False)
    (hCX : ∀ (w : World) (H : Hp) (s : Shared) (e : Value) (s' : Shared), CX w [] H s (fun _ _ _ => False) e s' → False) :
    PySem.W.WalkO q loose XP YP l.row.toRowW d [] (fun f vs => PySem.call f vs) := by
  refine Att.attach_call hn hdf fun w s₀ s₁ mg mb fa o pm cd doc a vs ns G Y ho hd hcd hmg hobj hints hlen hg => ?_
  have KX := hY w _ Y
  obtain ⟨fd, hb, hF⟩ := F w mg fa _ KX G.T.g hmg
  exact law_call KX G.T.g G.T.b G.T.builtins G.T.nolimit hg hobj hints (Nat.le_trans hlen hn2) hr hF hb (fun H hO hS => hsp w H a ns hlen hO hS) fun H e s' => hCX w H s₁ e s'
end L2
namespace L2
open PySem PySem.Spec PyProof.Rows
def defArgs (s : Stmt) : Arguments := match s with
  | .FunctionDef _ a _ _ _ _ _ _ _ _ => a
  | _ => { posonlyargs := [], args := [], vararg := none, kwonlyargs := [], kw_defaults := [], kwarg := none, defaults := [] }
def defBody (s : Stmt) : List Stmt := match s with
  | .FunctionDef _ _ b _ _ _ _ _ _ _ => b
  | _ => []
def defScope (s : Stmt) : Scope := match s with
  | .FunctionDef _ _ _ _ _ _ sc _ _ _ => sc
  | _ => { kind := .function, names := [], isGenerator := false, isCoroutine := false }
abbrev CX0 : CXT := fun _ _ _ _ _ _ => False
abbrev E0 : XK := fun _ _ _ => False
theorem pass0 {X : Cx} : Passes CX0 X E0 := fun _ _ _ _ _ _ _ h => h.elim
structure Fun (K : PySem.W.Frag) (x qual : Str) (st : Stmt) (f : Addr) (fd : FuncData) : Prop where
  ex : ∃ (oc : Value) (od : Option Addr) (kV doc pm : Value) (an : Option Addr) (cdv ct : Value) (osl : Array (Option Value)),
    fd = PySem.W.fnOf x qual (defArgs st) (defBody st) (defScope st) .none kV doc pm an cdv ct ∧ K.lookup f = some ⟨oc, od, .func fd, osl⟩ ∧ PySem.W.codeIn K cdv qual = true
  kp : PySem.W.keepIn K (.ref f) = true
section
variable {P : Program} {w : World} {K : PySem.W.Frag} {mg : Str → Option Value} {base : Heap}
theorem Fun.ok {x qual : Str} {st : Stmt} {f : Addr} {fd : FuncData} {N ps : List Str} {k : Nat} {sp : Sp} (F : Fun K x qual st f fd) (S : FnScope N ps (defScope st)) (len : ∀ vs H Q E, sp vs H Q E → vs.length = ps.length)
    (hbody : ∀ (cdv : Value) (A : Around) (outer : List Env) (s : Shared) (H : Hp) (vs : List V) (Q : VK) (E : XK), Room k (A.deeper (envOfC qual (defScope st) s.heap.objs.size f cdv)) → sp vs H Q E →
      ∃ t, PSs (cxOf CX0 P w K mg base N qual (defScope st) f cdv A outer s H E).nox (defBody st) t ∧ t { nx := fun _ H' => Q .non H', rt := Q } (start N vs) H) : FnOk P w K mg base CX0 (k + 1) f fd ps sp := by
  obtain ⟨oc, od, kV, doc, pm, an, cdv, ct, osl, rfl, lk, hcd⟩ := F.ex
  refine fn_of lk hcd S len fun A outer s H vs Q E hr hsp => ?_
  obtain ⟨t, h, q⟩ := hbody cdv A outer s H vs Q E hr hsp
  exact ⟨t, h.nox, q⟩
theorem Fun.binds {x qual : Str} {st : Stmt} {f : Addr} {fd : FuncData} {ps : List Str} (F : Fun K x qual st f fd)
    (h : ∀ (kV doc pm : Value) (an : Option Addr) (cdv ct : Value) (us : List Value), us.length = ps.length → bindArgs (PySem.W.fnOf x qual (defArgs st) (defBody st) (defScope st) .none kV doc pm an cdv ct) ⟨us, []⟩ = pure (ps.zip us)) : Binds K fd ps [] := by
  obtain ⟨oc, od, kV, doc, pm, an, cdv, ct, osl, rfl, lk, hcd⟩ := F.ex
  exact .all (h kV doc pm an cdv ct)
theorem fun_mk {x qual : Str} {st : Stmt} {f : Addr} {oc : Value} {od an : Option Addr} {osl : Array (Option Value)} {kV doc pm cdv ct : Value} (l : K.lookup f = some ⟨oc, od, .func (PySem.W.fnOf x qual (defArgs st) (defBody st) (defScope st) .none kV doc pm an cdv ct), osl⟩)
    (c : PySem.W.codeIn K cdv qual = true) (k : PySem.W.keepIn K (.ref f) = true) : Fun K x qual st f (PySem.W.fnOf x qual (defArgs st) (defBody st) (defScope st) .none kV doc pm an cdv ct) := ⟨⟨oc, od, kV, doc, pm, an, cdv, ct, osl, rfl, l, c⟩, k⟩
end
theorem hu_of {A : Around} {k : Nat} (hr : Room k A) : A.units + 1 < cLine := Nat.lt_of_le_of_lt (Nat.add_le_add_left (by decide : 1 ≤ 64) _) hr.units
section
variable {X : Cx}
theorem pv (i : Nat) {x : Str} {pos : Pos} (hN : X.N[i]? = some x := by rfl) (hv : Vis X.env.scope x := by first | exact Or.inl rfl | exact Or.inr (Or.inl rfl) | exact Or.inr (Or.inr rfl)) (hd : (x == ("__debug__" : Str)) = false := by decide)
    (hcd : (x == ("__classdict__" : Str)) = false := by decide) : PE X (.Name x pos) (tVar i) := pe_var hN hv hd hcd
end
theorem iteF {A B : Prop} (h : B) : if false = true then A else B := by
  rw [if_neg Bool.false_ne_true]
  exact h
theorem iteT {A B : Prop} (h : A) : if true = true then A else B := by
  rw [if_pos rfl]
  exact h
theorem ite2 {c A B : Prop} [Decidable c] (h1 : c → A) (h2 : ¬ c → B) : if c then A else B := by
  by_cases h : c
  · rw [if_pos h]
    exact h1 h
  · rw [if_neg h]
    exact h2 h
def Same (H H' : Hp) : Prop := ∀ b o, H b = some o → H' b = some o
theorem Same.refl (H : Hp) : Same H H := fun _ _ h => h
theorem Same.trans {H H1 H2 : Hp} (a : Same H H1) (b : Same H1 H2) : Same H H2 := fun c o h => b c o (a c o h)
theorem Same.free {H H' : Hp} (e : Same H H') {l : Addr} (h : H' l = Option.none) : H l = Option.none := by
  cases q : H l with
  | none => rfl
  | some o =>
    rw [e l o q] at h
    cases h
theorem Same.seq {K : PySem.W.Frag} {H H' : Hp} {a : Addr} {xs : List V} (e : Same H H') (h : SqL K H a xs) : SqL K H' a xs := by
  rcases h with (h | ⟨o, h⟩) | h
  · exact .inl (.inl (e _ _ h))
  · exact .inl (.inr ⟨o, e _ _ h⟩)
  · exact .inr h
end L2
namespace L2
open PySem PySem.Spec PyProof.Rows
section
variable {κ : Type} [DecidableEq κ]
def valV (kvs : List (κ × V)) (k : κ) : Option V := (kvs.find? fun kv => decide (kv.1 = k)).map (·.2)
def putK (kvs : List (κ × V)) (k : κ) (v : V) : List (κ × V) :=
  if (kvs.any fun kv => decide (kv.1 = k)) = true then kvs.map (fun kv => if kv.1 = k then (kv.1, v) else kv) else kvs ++ [(k, v)]
def dropK (kvs : List (κ × V)) (k : κ) : List (κ × V) := kvs.filter fun kv => decide (kv.1 ≠ k)
theorem valV_pos {p : κ × V} {r : List (κ × V)} {k : κ} (e : p.1 = k) : valV (p :: r) k = some p.2 := by simp [valV, List.find?_cons, e]
theorem valV_neg {p : κ × V} {r : List (κ × V)} {k : κ} (e : ¬ p.1 = k) : valV (p :: r) k = valV r k := by simp [valV, List.find?_cons, e]
theorem valV_any (k : κ) : ∀ kvs : List (κ × V), (kvs.any fun kv => decide (kv.1 = k)) = (valV kvs k).isSome
  | [] => rfl
  | p :: r => by
    rw [List.any_cons]
    by_cases e : p.1 = k
    · simp only [valV_pos e, decide_eq_true e, Bool.true_or, Option.isSome_some]
    · rw [valV_neg e, decide_eq_false e, Bool.false_or]; exact valV_any k r
theorem valV_map (k j : κ) (y : V) : ∀ kvs : List (κ × V), valV (kvs.map fun kv => if kv.1 = k then (kv.1, y) else kv) j = (valV kvs j).map fun x => if j = k then y else x
  | [] => rfl
  | p :: r => by
    have ih := valV_map k j y r
    rw [List.map_cons]
    by_cases h : p.1 = k
    · rw [if_pos h]
      by_cases e : p.1 = j
      · rw [valV_pos (p := (p.1, y)) e, valV_pos e, Option.map_some, if_pos (e.symm.trans h)]
      · rw [valV_neg (p := (p.1, y)) e, valV_neg e, ih]
    · rw [if_neg h]
      by_cases e : p.1 = j
      · rw [valV_pos (p := p) e, valV_pos e, Option.map_some, if_neg (fun z => h (e.trans z))]
      · rw [valV_neg (p := p) e, valV_neg e, ih]
theorem valV_snoc (k j : κ) (y : V) : ∀ kvs : List (κ × V), valV kvs k = none → valV (kvs ++ [(k, y)]) j = if j = k then some y else valV kvs j
  | [], _ => by
    by_cases e : k = j
    · rw [if_pos e.symm]; exact valV_pos (p := (k, y)) e
    · rw [if_neg (fun z => e z.symm)]; exact valV_neg (p := (k, y)) e
  | p :: r, hn => by
    rw [List.cons_append]
    have hk : ¬ p.1 = k := fun z => by rw [valV_pos z] at hn; cases hn
    rw [valV_neg hk] at hn
    have ih := valV_snoc k j y r hn
    by_cases e : p.1 = j
    · rw [valV_pos e, valV_pos e, if_neg (fun z => hk (e.trans z))]
    · rw [valV_neg e, valV_neg e, ih]
theorem valV_put (kvs : List (κ × V)) (k j : κ) (y : V) : valV (putK kvs k y) j = if j = k then some y else valV kvs j := by
  unfold putK
  by_cases a : (kvs.any fun kv => decide (kv.1 = k)) = true
  · rw [if_pos a, valV_map]
    rw [valV_any] at a
    by_cases e : j = k
    · obtain ⟨x, hx⟩ := Option.isSome_iff_exists.mp a
      rw [if_pos e, e, hx, Option.map_some, if_pos rfl]
    · rw [if_neg e]
      cases valV kvs j with
      | none => rfl
      | some x => rw [Option.map_some, if_neg e]
  · rw [if_neg a]
    refine valV_snoc k j y kvs ?_
    rw [valV_any] at a
    cases q : valV kvs k with
    | none => rfl
    | some x => rw [q] at a; exact (a rfl).elim
theorem length_putK (kvs : List (κ × V)) (k : κ) (v : V) : (putK kvs k v).length ≤ kvs.length + 1 := by
  unfold putK
  split
  · rw [List.length_map]; omega
  · rw [List.length_append, List.length_cons, List.length_nil]; omega
theorem RelO.isSome_eq {o : Option V} {u : Option Value} (r : RelO o u) : o.isSome = u.isSome := by
  cases o with
  | none => cases u with
    | none => rfl
    | some _ => exact (show False from r).elim
  | some _ => cases u with
    | none => exact (show False from r).elim
    | some _ => rfl
theorem RelO.getD {o : Option V} {u : Option Value} {d : V} {d' : Value} (r : RelO o u) (rd : RelV d d') : RelV (o.getD d) (u.getD d') := by
  cases o with
  | none => cases u with
    | none => exact rd
    | some _ => exact (show False from r).elim
  | some _ => cases u with
    | none => exact (show False from r).elim
    | some _ => exact r
theorem KV.val {kvs : List (κ × V)} {vs : List (κ × Value)} (r : KV kvs vs) (k : κ) : RelO (valV kvs k) (valueAt vs k) := by
  unfold KV at r
  induction r with
  | nil => exact True.intro
  | @cons p q ps qs h t ih =>
    obtain ⟨h1, h2⟩ := h
    by_cases e : p.1 = k
    · have e' : q.1 = k := h1.symm.trans e
      have b : valueAt (q :: qs) k = some q.2 := by simp [valueAt, List.find?_cons, e']
      rw [valV_pos e, b]; exact h2
    · have e' : ¬ q.1 = k := fun z => e (h1.trans z)
      have b : valueAt (q :: qs) k = valueAt qs k := by simp [valueAt, List.find?_cons, e']
      rw [valV_neg e, b]; exact ih
theorem KV.any {kvs : List (κ × V)} {vs : List (κ × Value)} (r : KV kvs vs) (k : κ) : (kvs.any fun kv => decide (kv.1 = k)) = vs.any fun kv => decide (kv.1 = k) := by
  unfold KV at r
  induction r with
  | nil => rfl
  | cons h t ih => rw [List.any_cons, List.any_cons, ih, h.1]
theorem KV.repl {kvs : List (κ × V)} {vs : List (κ × Value)} (r : KV kvs vs) (k : κ) {y : V} {u : Value} (ry : RelV y u) :
    KV (kvs.map fun kv => if kv.1 = k then (kv.1, y) else kv) (vs.map fun kv => if kv.1 = k then (kv.1, u) else kv) := by
  unfold KV at r ⊢
  induction r with
  | nil => exact .nil
  | @cons p q ps qs h t ih =>
    rw [List.map_cons, List.map_cons]
    refine .cons ?_ ih
    obtain ⟨h1, h2⟩ := h
    by_cases e : p.1 = k
    · rw [if_pos e, if_pos (h1.symm.trans e)]; exact ⟨h1, ry⟩
    · rw [if_neg e, if_neg (fun z => e (h1.trans z))]; exact ⟨h1, h2⟩
theorem KV.put {kvs : List (κ × V)} {vs : List (κ × Value)} (r : KV kvs vs) (k : κ) {y : V} {u : Value} (ry : RelV y u) : KV (putK kvs k y) (stored vs k u) := by
  unfold putK stored
  rw [r.any k]
  by_cases e : (vs.any fun kv => decide (kv.1 = k)) = true
  · rw [if_pos e, if_pos e]; exact r.repl k ry
  · rw [if_neg e, if_neg e]; exact Paired.snoc r ⟨rfl, ry⟩
theorem KV.drop {kvs : List (κ × V)} {vs : List (κ × Value)} (r : KV kvs vs) (k : κ) : KV (dropK kvs k) (without vs k) := by
  unfold KV at r ⊢
  unfold dropK without
  induction r with
  | nil => exact .nil
  | @cons p q ps qs h t ih =>
    obtain ⟨h1, h2⟩ := h
    rw [List.filter_cons, List.filter_cons]
    by_cases e : p.1 = k
    · have a : ¬ decide (p.1 ≠ k) = true := by simp [e]
      have b : ¬ decide (q.1 ≠ k) = true := by simp [h1.symm.trans e]
      rw [if_neg a, if_neg b]; exact ih
    · have e' : ¬ q.1 = k := fun z => e (h1.trans z)
      have a : decide (p.1 ≠ k) = true := by simp [e]
      have b : decide (q.1 ≠ k) = true := by simp [e']
      rw [if_pos a, if_pos b]; exact .cons ⟨h1, h2⟩ ih
theorem KV.keys {kvs : List (κ × V)} {vs : List (κ × Value)} (r : KV kvs vs) : kvs.map (·.1) = vs.map (·.1) := by
  unfold KV at r
  induction r with
  | nil => rfl
  | cons h t ih => rw [List.map_cons, List.map_cons, ih, h.1]
theorem KV.length {kvs : List (κ × V)} {vs : List (κ × Value)} (r : KV kvs vs) : kvs.length = vs.length := Paired.length r
end
theorem kV_is {P : Program} {w : World} {k : Key} {u : Value} (r : RelV (kV k) u) : (mixKind P w).is k u = true := by
  cases k with
  | inl i => obtain ⟨t, e⟩ := (show ∃ t, u = Value.int i t from r); subst e; exact mixKind_int P w i t
  | inr x => obtain ⟨t, e⟩ := (show ∃ t, u = Value.str x t from r); subst e; exact mixKind_str P w x t
theorem items_are {P : Program} {w : World} : ∀ {ks : List Key} {us : List Value}, Vals (ks.map kV) us → ItemsAre (mixKind P w) ks us
  | [], _, r => by rw [List.map_nil] at r; cases r; exact .nil
  | k :: ks, _, r => by
    rw [List.map_cons] at r
    cases r with
    | cons h t => exact .cons (kV_is h) (items_are t)
abbrev KT (H : Hp) : List (List Key × V) → List (List Key × Addr × Value) → Prop := Paired fun p q => p.1 = q.1 ∧ H q.2.1 = some (.tup (p.1.map kV)) ∧ RelV p.2 q.2.2
theorem KT.val {H : Hp} {kvs : List (List Key × V)} {xs : List (List Key × Addr × Value)} (r : KT H kvs xs) (k : List Key) : RelO (valV kvs k) ((atKey xs k).map (·.2)) := by
  induction r with
  | nil => exact True.intro
  | @cons p q ps qs h t ih =>
    obtain ⟨h1, _, h2⟩ := h
    by_cases e : p.1 = k
    · have e' : q.1 = k := h1.symm.trans e
      have b : atKey (q :: qs) k = some q.2 := by simp [atKey, List.find?_cons, e']
      rw [valV_pos e, b]; exact h2
    · have e' : ¬ q.1 = k := fun z => e (h1.trans z)
      have b : atKey (q :: qs) k = atKey qs k := by simp [atKey, List.find?_cons, e']
      rw [valV_neg e, b]; exact ih
theorem KT.repl {H : Hp} {kvs : List (List Key × V)} {xs : List (List Key × Addr × Value)} (r : KT H kvs xs) (k : List Key) {y : V} {u : Value} (ry : RelV y u) :
    KT H (kvs.map fun kv => if kv.1 = k then (kv.1, y) else kv) (xs.map (putAt k u)) := by
  induction r with
  | nil => exact .nil
  | @cons p q ps qs h t ih =>
    rw [List.map_cons, List.map_cons]
    refine .cons ?_ ih
    obtain ⟨h1, h2, h3⟩ := h
    unfold putAt
    by_cases e : p.1 = k
    · rw [if_pos e, if_pos (h1.symm.trans e)]; exact ⟨h1, h2, ry⟩
    · rw [if_neg e, if_neg (fun z => e (h1.trans z))]; exact ⟨h1, h2, h3⟩
theorem KT.put {H : Hp} {kvs : List (List Key × V)} {xs : List (List Key × Addr × Value)} (r : KT H kvs xs) (k : List Key) {b : Addr} {y : V} {u : Value} (hb : H b = some (.tup (k.map kV))) (ry : RelV y u) :
    KT H (putK kvs k y) (storedH xs k b u) := by
  have e : (kvs.any fun kv => decide (kv.1 = k)) = (atKey xs k).isSome := by
    rw [valV_any, (r.val k).isSome_eq, Option.isSome_map]
  unfold putK storedH
  rw [e]
  by_cases q : (atKey xs k).isSome = true
  · rw [if_pos q, if_pos q]; exact r.repl k ry
  · rw [if_neg q, if_neg q]; exact Paired.snoc r ⟨rfl, hb, ry⟩
theorem KT.keeps {H H' : Hp} {kvs : List (List Key × V)} {xs : List (List Key × Addr × Value)} (r : KT H kvs xs) (ht : ∀ b ys, H b = some (.tup ys) → H' b = some (.tup ys)) : KT H' kvs xs :=
  Paired.mapP r fun _ _ z => ⟨z.1, ht _ _ z.2.1, z.2.2⟩
section
variable {P : Program} {w : World} {H : Hp} {h : Heap} {a : Addr}
theorem rd_of {u : HO} (ok : HOk P w H h) (e : Rd H a u) : ObjOk P w H h a u := e.ok ok
theorem dk_rd {kvs : List (Key × V)} (ok : HOk P w H h) (e : Rd H a (.dK kvs)) : kvs.length ≤ sizeLine ∧ (a == sysModules) = false ∧ ∃ vs, KV kvs vs ∧ h.DictOf (mixKind P w) a vs :=
  show ObjOk P w H h a (.dK kvs) from rd_of ok e
theorem dk_of {kvs : List (Key × V)} (ok : HOk P w H h) (e : H a = some (.dK kvs)) : kvs.length ≤ sizeLine ∧ (a == sysModules) = false ∧ ∃ vs, KV kvs vs ∧ h.DictOf (mixKind P w) a vs := dk_rd ok (.inl e)
theorem key_of {ks : List Key} (ok : HOk P w H h) (e : H a = some (.tup (ks.map kV))) : (tupleKind (mixKind P w)).is h ks a := by
  obtain ⟨_, its, r, o, h1, h2, n, h3⟩ := (show ObjOk P w H h a (.tup (ks.map kV)) from ok a _ e)
  exact ⟨o, its.toArray, n, h1, h2, h3, by simpa using items_are r⟩
theorem dt_rd {kvs : List (List Key × V)} (ok : HOk P w H h) (e : Rd H a (.dT kvs)) : kvs.length ≤ sizeLine ∧ (a == sysModules) = false ∧
    ∃ xs, KT H kvs xs ∧ h.DictOfH (tupleKind (mixKind P w)) a xs := by
  obtain ⟨z, y, xs, r, o, es, ep, h1, h2, h3, h4, h5⟩ := (show ObjOk P w H h a (.dT kvs) from rd_of ok e)
  refine ⟨z, y, xs, r, o, es, ep, h1, h2, h3, h4, fun x hx => ?_, h5⟩
  have all : ∀ {l : List (List Key × V)} {m : List (List Key × Addr × Value)}, KT H l m → ∀ x ∈ m, (tupleKind (mixKind P w)).is h x.1 x.2.1 := by
    intro l m q
    induction q with
    | nil => intro x hx; exact nomatch hx
    | @cons p q ps qs hq t ih =>
      intro x hx
      rcases List.mem_cons.mp hx with e | hx
      · subst e
        exact key_of ok (by rw [← hq.1]; exact hq.2.1)
      · exact ih x hx
  exact all r x hx
theorem dt_of {kvs : List (List Key × V)} (ok : HOk P w H h) (e : H a = some (.dT kvs)) : kvs.length ≤ sizeLine ∧ (a == sysModules) = false ∧
    ∃ xs, KT H kvs xs ∧ h.DictOfH (tupleKind (mixKind P w)) a xs := dt_rd ok (.inl e)
end
def DGet (H : Hp) (a : Addr) (y : V) (r : Option V) : Prop :=
  (∃ kvs k, Rd H a (.dK kvs) ∧ y = kV k ∧ r = valV kvs k) ∨ ∃ kvs k b, Rd H a (.dT kvs) ∧ y = .ref b ∧ H b = some (.tup (k.map kV)) ∧ r = valV kvs k
def DPut (H : Hp) (a : Addr) (y v : V) (H' : Hp) : Prop :=
  (∃ kvs k, H a = some (.dK kvs) ∧ y = kV k ∧ kvs.length < sizeLine ∧ H' = upd H a (.dK (putK kvs k v))) ∨
  ∃ kvs k b, H a = some (.dT kvs) ∧ y = .ref b ∧ H b = some (.tup (k.map kV)) ∧ kvs.length < sizeLine ∧ H' = upd H a (.dT (putK kvs k v))
theorem DGet.k {H : Hp} {a : Addr} {kvs : List (Key × V)} {k : Key} (e : H a = some (.dK kvs)) : DGet H a (kV k) (valV kvs k) := .inl ⟨kvs, k, .inl e, rfl, rfl⟩
theorem DGet.t {H : Hp} {a b : Addr} {kvs : List (List Key × V)} {k : List Key} (e : H a = some (.dT kvs)) (eb : H b = some (.tup (k.map kV))) : DGet H a (.ref b) (valV kvs k) := .inr ⟨kvs, k, b, .inl e, rfl, eb, rfl⟩
theorem DPut.k {H : Hp} {a : Addr} {kvs : List (Key × V)} {k : Key} {v : V} (e : H a = some (.dK kvs)) (hl : kvs.length < sizeLine) : DPut H a (kV k) v (upd H a (.dK (putK kvs k v))) := .inl ⟨kvs, k, e, rfl, hl, rfl⟩
theorem DPut.t {H : Hp} {a b : Addr} {kvs : List (List Key × V)} {k : List Key} {v : V} (e : H a = some (.dT kvs)) (eb : H b = some (.tup (k.map kV))) (hl : kvs.length < sizeLine) :
    DPut H a (.ref b) v (upd H a (.dT (putK kvs k v))) := .inr ⟨kvs, k, b, e, rfl, eb, hl, rfl⟩
section
variable {X : Cx} {pins : List (Addr × Obj)} {σ : St} {H : Hp} {s : Shared} {a : Addr} {y v : V} {u r : Value} {o : Option V} {A : Around} {E : Value → Shared → Prop}
theorem Inv.big (I : Inv X pins σ H s) : sysModules < s.heap.objs.size := by
  have h : mainGlobals < s.heap.objs.size := (I.mod.glob.keeps I.bk).lt
  exact Nat.lt_trans (by decide) h
theorem d_getItem {Q : Value → Shared → Prop} (hu : A.units + 1 < cLine) (I : Inv X pins σ H s) (g : DGet H a y (some v)) (ry : RelV y u) (h : ∀ w' s', Inv X pins σ H s' → RelV v w' → Q w' s') :
    wpAny (model X.prog X.w) A (getItem (.ref a) u) Q E s := by
  rcases g with ⟨kvs, k, e, ey, l⟩ | ⟨kvs, k, b, e, ey, eb, l⟩
  · subst ey
    obtain ⟨z, hd, vs, rel, dd⟩ := dk_rd I.hok e
    obtain ⟨w', hw, rw'⟩ := RelO.some_of (v := v) (o := valueAt vs k) (by rw [l]; exact rel.val k)
    exact wpAny_getItem_of (kV_is ry) dd.mapOf hw (h w' _ (I.tok _) rw')
  · subst ey
    cases (show u = Value.ref b from ry)
    obtain ⟨z, hd, xs, rel, dd⟩ := dt_rd I.hok e
    obtain ⟨w', hw, rw'⟩ := RelO.some_of (v := v) (o := (atKey xs k).map (·.2)) (by rw [l]; exact rel.val k)
    obtain ⟨p, hp, hp2⟩ := Option.map_eq_some_iff.mp hw
    refine wpAny_getItem_heap (tupleKind_room_in1 hu) (key_of I.hok eb) dd hp ?_
    rw [hp2]
    exact h w' _ (I.tok _) rw'
theorem d_write {h' : Heap} {t' : Nat} {ob : HO} (I : Inv X pins σ H s) (mu : Mut (H a)) (hs : Heap.SameBut a s.heap h') (he : ∃ q, h'.get? a = some q) (new : ObjOk X.prog X.w (upd H a ob) h' a ob) :
    Inv X pins σ (upd H a ob) { s with heap := h', toks := t' } :=
  I.write (x := a) (e := a) mu (.inl rfl) (fun b q hb z => (hs.2 b hb).trans z) he new
theorem dk_new {P : Program} {w : World} {H' : Hp} {h' : Heap} {kvs : List (Key × V)} {vs : List (Key × Value)} (z : kvs.length ≤ sizeLine) (hd : (a == sysModules) = false) (rel : KV kvs vs) (dd : h'.DictOf (mixKind P w) a vs) :
    ObjOk P w H' h' a (.dK kvs) := ⟨z, hd, vs, rel, dd⟩
theorem d_setItem {H' : Hp} {Q : Unit → Shared → Prop} (hu : A.units + 1 < cLine) (I : Inv X pins σ H s) (g : DPut H a y v H') (ry : RelV y u) (rv : RelV v r) (h : ∀ s', Inv X pins σ H' s' → Q () s') :
    wpAny (model X.prog X.w) A (setItem (.ref a) u r) Q E s := by
  rcases g with ⟨kvs, k, e, ey, l, eH⟩ | ⟨kvs, k, b, e, ey, eb, l, eH⟩
  · subst ey eH
    obtain ⟨z, hd, vs, rel, dd⟩ := dk_of I.hok e
    have hz : vs.length ≤ sizeLine := by rw [← rel.length]; exact z
    have hl : (putK kvs k v).length ≤ sizeLine := by have := length_putK kvs k v; omega
    refine wpAny_setItem_pairs (hsz := hz) (kV_is ry) dd fun h' dd' hs => h _ ?_
    have he : ∃ q, h'.get? a = some q := let ⟨q, _, _, hq, _⟩ := dd'; ⟨q, hq⟩
    exact d_write I (by rw [e]; exact True.intro) hs he (dk_new hl hd (rel.put k rv) dd')
  · subst ey eH
    cases (show u = Value.ref b from ry)
    obtain ⟨z, hd, xs, rel, dd⟩ := dt_of I.hok e
    have hz : xs.length ≤ sizeLine := by rw [← Paired.length rel]; exact z
    have hl : (putK kvs k v).length ≤ sizeLine := by have := length_putK kvs k v; omega
    refine wpAny_setItem_heap (hsz := hz) (tupleKind_room_in1 hu) (key_of I.hok eb) dd fun h' dd' hs => h _ ?_
    obtain ⟨q, es, ep, hq, h2, h3, h4, _, h5⟩ := dd'
    refine d_write I (by rw [e]; exact True.intro) hs ⟨q, hq⟩ ⟨hl, hd, _, (rel.put k eb rv).keeps fun c ys ec => ?_, q, es, ep, hq, h2, h3, h4, h5⟩
    rw [upd_ne (ne_of ec e (fun z => nomatch z))]
    exact ec
end
section
variable {X : Cx} {pins : List (Addr × Obj)} {σ : St} {H : Hp} {s : Shared} {a : Addr} {kvs : List (Key × V)} {k : Key} {u : Value} {A : Around} {E : Value → Shared → Prop}
end
def NoSl (i : Expr) : Prop := ∀ ov iv, subscripted i false ov iv = operate [ov, iv] (getItem ov iv)
theorem subD_of {prog : Program} {w : World} {A : Around} {E : Value → Shared → Prop} {s : Shared} {env : Env} {value slice : Expr} {pos : Pos} {T id : String} {Q : Value → Shared → Prop}
    (hl : typeLookup (.type T) "__getitem__" = pure (some (.builtin id))) (hs : NoSl slice)
    (h : wpAny (model prog w) A (eval value env) (fun o s₁ => wpAny (model prog w) A (eval slice env) (fun i s₂ => s₂.TypeIs o T ∧ wpAny (model prog w) A (getItem o i) Q E s₂) E s₁) E s) :
    wpAny (model prog w) A (eval (.Subscript value slice pos) env) Q E s := by
  refine Subscript_ (wpAny_mono h (fun o s₁ h₁ => wpAny_mono h₁ (fun i s₂ h₂ => ?_) fun _ _ x => x) fun _ _ x => x)
  obtain ⟨hT, h₂⟩ := h₂
  unfold subscriptTail
  refine wpAny_bind ?_
  rw [getitemInPython_of_ne hT.not_modules]
  refine wpAny_bind (wpAny_specialOf hT hl ?_)
  have fin : wpAny (model prog w) A (subscripted slice false o i) (fun r s₃ => wpAny (model prog w) A (letTemporaryGo value o r >>= fun _ => pure r) Q E s₃) E s₂ := by
    rw [hs o i]
    exact wpAny_operating (wpAny_mono h₂ (fun r s₃ h₃ => wpAny_bind (wpAny_letTemporaryGo (wpAny_pure h₃))) fun _ _ x => x)
  first
    | exact wpAny_pure (wpAny_bind fin)
    | exact wpAny_bind (wpAny_pure (wpAny_bind fin))
    | exact wpAny_bind fin
theorem dict_typeIs {X : Cx} {pins : List (Addr × Obj)} {σ : St} {H : Hp} {s : Shared} {a : Addr} {y : V} {o : Option V} (I : Inv X pins σ H s) (g : DGet H a y o) : s.TypeIs (.ref a) "dict" := by
  rcases g with ⟨kvs, k, e, _, _⟩ | ⟨kvs, k, b, e, _, _, _⟩
  · obtain ⟨_, _, vs, _, dd⟩ := dk_rd I.hok e
    exact dd.typeIs
  · obtain ⟨_, _, xs, _, dd⟩ := dt_rd I.hok e
    exact dd.typeIs
def tDGet (td ty : TE) : TE := fun σ H Q => td σ H fun x H1 => ty σ H1 fun y H2 => ∃ a v, x = .ref a ∧ DGet H2 a y (some v) ∧ Q v H2
def sDPut (td ty tv : TE) : TS := fun D σ H => tv σ H fun v H1 => td σ H1 fun x H2 => ty σ H2 fun y H3 => ∃ a H4, x = .ref a ∧ DPut H3 a y v H4 ∧ D.nx σ H4
section
variable {X : Cx} {o i e value : Expr} {pos pos' tpos : Pos} {td ty tv : TE}
theorem pe_dget (hu : X.A.units + 1 < cLine) (ho : PE X o td) (hi : PE X i ty) (hs : NoSl i) : PE X (.Subscript o i pos) (tDGet td ty) := by
  intro pins s σ H Q I h
  refine subD_of PySem.F.slot_dict_getitem.lookup hs (thn (ho pins s σ H _ I h) fun u s1 ⟨x, H1, I1, rx, q1⟩ => thn (hi pins s1 σ H1 _ I1 q1) fun iv s2 ⟨y, H2, I2, ry, a, v, ex, g, q2⟩ => ?_)
  subst ex
  obtain rfl : u = Value.ref a := rx
  exact ⟨dict_typeIs I2 g, d_getItem hu I2 g ry fun w' s3 I3 rw' => ⟨v, H2, I3, rw', q2⟩⟩
theorem ps_dput (hu : X.A.units + 1 < cLine) (ho : PE X o td) (hi : PE X i ty) (hv : PE X value tv) (hs : swapsWith value (some (.Subscript o i pos')) pos.line X.env = pure false) :
    PS X (.Assign [.Subscript o i pos'] value pos) (sDPut td ty tv) := by
  intro pins s σ H D I h
  refine wpAny_Assign_Subscript (thn (hv pins s σ H _ I h) fun r s1 ⟨v, H1, I1, rv, q1⟩ => thn (ho pins s1 σ H1 _ I1 q1) fun u s2 ⟨x, H2, I2, rx, q2⟩ => thn (hi pins s2 σ H2 _ I2 q2) fun iv s3 ⟨y, H3, I3, ry, a, H4, ex, g, q3⟩ => ?_) hs
  subst ex
  obtain rfl : u = Value.ref a := rx
  exact d_setItem hu I3 g ry rv fun s4 I4 => ⟨σ, H4, I4, q3⟩
end
theorem dk_empty {P : Program} {w : World} {H : Hp} (h : Heap) (hb : sysModules < h.objs.size) : ObjOk P w H (h.push { cls := .type "dict", data := .dict #[] }) h.objs.size (.dK []) :=
  ⟨Nat.zero_le _, beq_eq_false_iff_ne.mpr (Ne.symm (Nat.ne_of_lt hb)), [], .nil, Heap.DictOf.new h⟩
def tDNewK : TE := fun _ H Q => ∀ p, H p = none → Q (.ref p) (upd H p (.dK []))
section
variable {X : Cx} {pos : Pos}
theorem pe_dnewK : PE X (.Dict [] [] pos) tDNewK := fun pins s σ H Q I h =>
  wpAny_Dict_empty ⟨.ref s.heap.objs.size, _, I.laid (a := s.heap.objs.size) (o := .dK []) (t' := s.toks) (fun _ _ q => Heap.get?_push_of_some _ q) (Nat.le_refl _) (dk_empty s.heap I.big), rfl, h _ (I.hok.fresh (Nat.le_refl _))⟩
end
structure M2 (X : Cx) (o : Expr) (m : Str) (apos : Pos) (e f : Expr) (cpos : Pos) : Prop where
  base : attributeBase o m X.env (eval o X.env) = eval o X.env
  few : ((backTo cpos (starEach [e, f] X.env)).all (fun x => !x.1) && (backToKw cpos (keywordEach [] X.env)).all (fun x => x.1.isSome)
    && decide (([e, f] : List Expr).length + ([] : List Keyword).length + (if ([] : List Keyword).isEmpty then 0 else 1) < 30)) = true
  line : (apos.endLine == cpos.line) = true
  trees : backTo cpos (starEach [e, f] X.env) = [(false, eval e X.env), (false, eval f X.env)]
section
variable {X : Cx} {pins : List (Addr × Obj)} {σ : St} {H : Hp} {s : Shared} {a : Addr} {y d : V} {u r : Value} {o : Option V} {A : Around} {E : Value → Shared → Prop}
end
section
variable {X : Cx} {o e f : Expr} {apos cpos : Pos} {td ty tx : TE}
end
section
variable {X : Cx} {pins : List (Addr × Obj)} {σ : St} {H : Hp} {s : Shared} {a : Addr} {kvs : List (Key × V)} {A : Around} {E : Value → Shared → Prop}
end
section
variable {X : Cx} {pins : List (Addr × Obj)} {σ : St} {H : Hp} {s : Shared} {a : Addr} {y : V} {u : Value} {A : Around} {E : Value → Shared → Prop}
end
end L2
set_option Elab.async false
set_option linter.all false
set_option maxRecDepth 100000
set_option maxHeartbeats 4000000
namespace L2
open PySem PySem.Spec PyProof.Rows
section
variable {X : Cx} {pins : List (Addr × Obj)} {σ : List (Option V)} {H H' : Hp} {s : Shared} {h' : Heap}
end
end L2
set_option Elab.async false
set_option linter.all false
set_option maxRecDepth 100000
set_option maxHeartbeats 4000000
namespace L2
open PySem PySem.Spec PyProof.Rows
def clOf (env : Env) : List (Str × NameKind) → List (Str × Addr) → List (Str × Addr)
  | [], cs => cs
  | (n, k) :: r, cs => clOf env r (if k == .free then (n, (env.cells.lookup n).getD 0) :: cs else cs)
theorem clos_forIn {env : Env} : ∀ (names : List (Str × NameKind)) (cs : List (Str × Addr)), (∀ y ∈ names, y.2 = .free → ∃ c, env.cells.lookup y.1 = some c) →
    (forIn names cs fun (x : Str × NameKind) (r : List (Str × Addr)) => (match x with
      | (name, kind) => if (kind == NameKind.free) = true then (cellOf env name >>= fun a => pure (ForInStep.yield ((name, a) :: r)) : Sem (ForInStep (List (Str × Addr)))) else pure (ForInStep.yield r))) = pure (clOf env names cs)
  | [], cs, _ => rfl
  | (n, k) :: r, cs, h => by
    have ih := fun cs' => clos_forIn r cs' fun y hy => h y (List.mem_cons_of_mem _ hy)
    rw [List.forIn_cons]
    by_cases hk : k = .free
    · subst hk
      obtain ⟨c, hc⟩ := h (n, .free) List.mem_cons_self rfl
      have e : cellOf env n = pure c := by unfold cellOf; rw [hc]
      simp only [beq_self_eq_true, if_true, e, pure_bind]
      rw [ih]
      show _ = pure (clOf env r (if (NameKind.free == NameKind.free) = true then _ else _))
      rw [hc]; rfl
    · have hb : (k == NameKind.free) = false := by simpa using hk
      simp only [hb, Bool.false_eq_true, if_false, pure_bind]
      rw [ih]
      show _ = pure (clOf env r (if (k == NameKind.free) = true then _ else _))
      rw [hb]; rfl
theorem closureFor_clOf {env : Env} {scope : Scope} (h : ∀ y ∈ scope.names, y.2 = .free → ∃ c, env.cells.lookup y.1 = some c) : closureFor scope env = pure (clOf env scope.names []) := by
  unfold closureFor
  have e := clos_forIn (env := env) scope.names [] h
  show ((forIn scope.names [] _ : Sem (List (Str × Addr))) >>= fun cs => pure cs) = _
  rw [bind_pure]
  refine Eq.trans ?_ e
  first
    | rfl
    | (congr 1; funext x r; obtain ⟨n, k⟩ := x; dsimp only; split <;> simp)
theorem mem_clOf {env : Env} {x : Str} {c : Addr} : ∀ (names : List (Str × NameKind)) (cs : List (Str × Addr)), (x, c) ∈ clOf env names cs → (x, c) ∈ cs ∨ ((x, NameKind.free) ∈ names ∧ c = (env.cells.lookup x).getD 0)
  | [], cs, h => .inl h
  | (n, k) :: r, cs, h => by
    have h' : (x, c) ∈ clOf env r (if (k == NameKind.free) = true then (n, (env.cells.lookup n).getD 0) :: cs else cs) := h
    rcases mem_clOf r _ h' with z | ⟨z1, z2⟩
    · by_cases hk : k = .free
      · subst hk
        simp only [beq_self_eq_true, if_true, List.mem_cons] at z
        rcases z with z | z
        · cases z; exact .inr ⟨List.mem_cons_self, rfl⟩
        · exact .inl z
      · have hb : (k == NameKind.free) = false := by simpa using hk
        rw [hb] at z
        exact .inl z
    · exact .inr ⟨List.mem_cons_of_mem _ z1, z2⟩
theorem clOf_mono {env : Env} {p : Str × Addr} : ∀ (names : List (Str × NameKind)) (cs : List (Str × Addr)), p ∈ cs → p ∈ clOf env names cs
  | [], cs, h => h
  | (n, k) :: r, cs, h => by
    show p ∈ clOf env r (if (k == NameKind.free) = true then (n, (env.cells.lookup n).getD 0) :: cs else cs)
    refine clOf_mono r _ ?_
    split
    · exact List.mem_cons_of_mem _ h
    · exact h
theorem clOf_has {env : Env} {x : Str} : ∀ (names : List (Str × NameKind)) (cs : List (Str × Addr)), (x, NameKind.free) ∈ names → (x, (env.cells.lookup x).getD 0) ∈ clOf env names cs
  | [], _, h => by cases h
  | (n, k) :: r, cs, h => by
    show _ ∈ clOf env r (if (k == NameKind.free) = true then (n, (env.cells.lookup n).getD 0) :: cs else cs)
    rcases List.mem_cons.mp h with z | z
    · cases z
      exact clOf_mono r _ (by simp)
    · exact clOf_has r _ z
theorem mem_of_lookup' {α β : Type} [BEq α] [LawfulBEq α] {x : α} {c : β} : ∀ {l : List (α × β)}, l.lookup x = some c → (x, c) ∈ l
  | [], h => by simp at h
  | (n, k) :: r, h => by
    rw [List.lookup_cons] at h
    by_cases e : x = n
    · subst e; simp at h; subst h; exact List.mem_cons_self
    · have : (x == n) = false := by simpa using e
      rw [this] at h
      exact List.mem_cons_of_mem _ (mem_of_lookup' h)
theorem lookup_of_mem' {α β : Type} [BEq α] [LawfulBEq α] {x : α} {c : β} : ∀ {l : List (α × β)}, (x, c) ∈ l → ∃ c', l.lookup x = some c'
  | [], h => by cases h
  | (n, k) :: r, h => by
    rw [List.lookup_cons]
    by_cases e : x = n
    · subst e; simp
    · have q : (x == n) = false := by simpa using e
      rw [q]
      rcases List.mem_cons.mp h with z | z
      · cases z; exact absurd rfl e
      · exact lookup_of_mem' z
theorem lookup_relabel_mem {env : Env} {x : Str} {k' : NameKind} : ∀ {names : List (Str × NameKind)},
    (names.map fun (n, k) => if (k == NameKind.free && env.scope.kind == .function && env.kindOf n == some .cell) then (n, NameKind.cell) else (n, k)).lookup x = some k' →
    (x, k') ∈ names ∨ (k' = .cell ∧ (x, NameKind.free) ∈ names)
  | [], h => by simp at h
  | (n, k) :: r, h => by
    rw [List.map_cons, List.lookup_cons] at h
    dsimp only at h
    by_cases e : x = n
    · subst e
      by_cases hc : (k == NameKind.free && env.scope.kind == .function && env.kindOf x == some .cell) = true
      · rw [if_pos hc] at h
        simp at h
        have hk : k = .free := by
          simp only [Bool.and_eq_true, beq_iff_eq] at hc
          exact hc.1.1
        subst hk
        exact .inr ⟨h.symm, List.mem_cons_self⟩
      · rw [if_neg hc] at h
        simp at h
        subst h
        exact .inl List.mem_cons_self
    · have q : (x == (if (k == NameKind.free && env.scope.kind == .function && env.kindOf n == some .cell) = true then (n, NameKind.cell) else (n, k)).1) = false := by
        split <;> simpa using e
      rw [q] at h
      rcases lookup_relabel_mem h with z | ⟨z1, z2⟩
      · exact .inl (List.mem_cons_of_mem _ z)
      · exact .inr ⟨z1, List.mem_cons_of_mem _ z2⟩
structure CompScope (X : Cx) (scope : Scope) (own frn : List Str) (frj : List Nat) : Prop where
  cell : ∀ y ∈ scope.names, y.2 ≠ .cell
  kind : scope.kind = .function
  names : ∀ y ∈ scope.names, y.2 = .local → scope.names.lookup y.1 = some .local
  free : ∀ y ∈ scope.names, y.2 = .free → X.env.scope.names.lookup y.1 = some .cell ∨ X.env.scope.names.lookup y.1 = some .free
  frl : frj.length = frn.length
  frN : ∀ (i j : Nat), frj[i]? = some j → X.N[j]? = frn[i]?
  frF : ∀ x ∈ frn, (x, NameKind.free) ∈ scope.names ∧ scope.names.lookup x = some .free
def cxComp (X : Cx) (own frn : List Str) (scope : Scope) (C : Addr) (s₃ : Shared) (H₃ : Hp) (fp : List Addr) : Cx :=
  { X with N := own ++ frn, s₀ := s₃, H₀ := H₃, env := compEnvC scope (clOf X.env scope.names []) C X.env, outer := X.stack, stack := X.stack, ex := fp, fn := fun _ => false, pn := [], xe := fun _ _ => False }
def startC (own : List Str) (frj : List Nat) (σ : St) : St := List.replicate own.length none ++ frj.map fun j => (σ[j]?).join
section
variable {X : Cx} {pins : List (Addr × Obj)} {σ : List (Option V)} {H : Hp} {s : Shared} {scope : Scope} {own frn : List Str} {frj : List Nat}
theorem CompScope.cells (sc : CompScope X scope own frn frj) (ok : X.Ok) : ∀ y ∈ scope.names, y.2 = .free → ∃ c, X.env.cells.lookup y.1 = some c := fun y hy hf => by
  rcases sc.free y hy hf with z | z
  · exact ok.has y.1 (.inl z)
  · exact ok.has y.1 (.inr z)
theorem CompScope.look (sc : CompScope X scope own frn frj) (ok : X.Ok) {x : Str} {c : Addr} (h : (clOf X.env scope.names []).lookup x = some c) : X.env.cells.lookup x = some c ∧ (x, NameKind.free) ∈ scope.names := by
  rcases mem_clOf _ _ (mem_of_lookup' h) with z | ⟨z1, z2⟩
  · cases z
  · obtain ⟨c', hc⟩ := sc.cells ok (x, .free) z1 rfl
    have hc' : X.env.cells.lookup x = some c' := hc
    rw [hc'] at z2
    have z3 : c = c' := z2
    subst z3
    exact ⟨hc', z1⟩
theorem CompScope.lookF (sc : CompScope X scope own frn frj) (ok : X.Ok) {x : Str} (h : (x, NameKind.free) ∈ scope.names) : ∃ c, (clOf X.env scope.names []).lookup x = some c ∧ X.env.cells.lookup x = some c := by
  obtain ⟨c, hc⟩ := lookup_of_mem' (clOf_has (env := X.env) scope.names [] h)
  exact ⟨c, hc, (sc.look ok hc).1⟩
theorem Inv.block {fp : List Addr} {h₄ : Heap} {tk : Nat} (I : Inv X pins σ H s) (sc : CompScope X scope own frn frj) (hfp : ∀ b ∈ fp, FpOk X pins H b) (hfl : ∀ b ∈ fp, b < s.heap.objs.size)
    (k : ∀ b o, s.heap.get? b = some o → h₄.get? b = some o) (hn : h₄.Ns s.heap.objs.size fun _ => none) :
    Inv (cxComp X own frn scope s.heap.objs.size s H fp) [] (startC own frj σ) H { s with heap := h₄, toks := tk } := by
  have ok := I.ok
  refine ⟨⟨ok.mod, by show (relabel scope X.env).kind = _; exact sc.kind, ok.glob, ok.blt, Nat.le_refl _, ?_, ?_, fun x c h => (nomatch h), ok.hd, ok.frames, .inl rfl, ?_, fun b o e => I.bs b o e, Nat.le_trans ok.bsz I.sz, ?_, ?_, I.stack, I.stkFree⟩, rfl, I.bare, Un.kept k, ?_, ?_, I.fresh, ?_, fun p hp => (nomatch hp), I.hok.kept k, ?_⟩
  · intro x y c e1 e2
    exact ok.inj x y c (sc.look ok e1).1 (sc.look ok e2).1
  · intro x h
    have mem : (x, NameKind.free) ∈ scope.names := by
      rcases h with h | h
      · rcases lookup_relabel_mem h with z | ⟨_, z⟩
        · exact absurd rfl (sc.cell _ z)
        · exact z
      · rcases lookup_relabel_mem h with z | ⟨z, _⟩
        · exact z
        · cases z
    obtain ⟨c, hc, _⟩ := sc.lookF ok mem
    exact ⟨c, hc⟩
  · intro b hb
    obtain ⟨f0, f1, f2, f3, f4, f5⟩ := hfp b hb
    exact ⟨Nat.ne_of_lt (hfl b hb), fun x c e => f4 x c (sc.look ok e).1⟩
  · intro b o e hb
    rcases (hfp b hb).2.2.2.1 with z | z
    · exact ok.noex b o e z
    · exact absurd (Nat.lt_of_lt_of_le (Heap.lt_size e) (Nat.le_trans ok.bsz z)) (Nat.lt_irrefl _)
  · intro b hb hfs
    obtain ⟨f0, f1, f2, _⟩ := hfp b hb
    rcases List.mem_cons.mp (I.stkSub b hfs) with z | z
    · exact f1 z
    · exact f2 z
  · refine ⟨_, hn, fun i x v e1 e2 e3 => ?_⟩
    have e1' : (own ++ frn)[i]? = some x := e1
    have e2' : (List.replicate own.length none ++ frj.map fun j => (σ[j]?).join)[i]? = some (some v) := e2
    by_cases hi : i < own.length
    · rw [List.getElem?_append_left (by simpa using hi)] at e2'
      rw [List.getElem?_replicate] at e2'
      split at e2' <;> cases e2'
    · rw [List.getElem?_append_right (by simp; omega), List.length_replicate] at e2'
      rw [List.getElem?_append_right (by omega)] at e1'
      rw [List.getElem?_map] at e2'
      cases ej : frj[i - own.length]? with
      | none => rw [ej] at e2'; cases e2'
      | some j =>
        rw [ej] at e2'
        have e2'' : (σ[j]?).join = some v := by simpa using e2'
        have e4 : σ[j]? = some (some v) := by
          cases q : σ[j]? with
          | none => rw [q] at e2''; cases e2''
          | some o => rw [q] at e2''; simpa using e2''
        have e5 := (sc.frN _ j ej).trans e1'
        obtain ⟨hm, hlk⟩ := sc.frF x (List.mem_of_getElem? e1')
        obtain ⟨m, hnL, hl⟩ := I.loc
        have hv : Vis X.env.scope x := by
          rcases sc.free (x, .free) hm rfl with z | z
          · exact .inr (.inl z)
          · exact .inr (.inr z)
        obtain ⟨u, r, lk⟩ := hl j x v e5 e4 hv
        refine ⟨u, r, .inr ?_⟩
        obtain ⟨c, hc, hc'⟩ := sc.lookF ok hm
        have cellOk : h₄.IsCell c (some u) := by
          rcases lk with ⟨z, _⟩ | ⟨_, c', hx, ⟨o, ho, hd⟩⟩
          · exfalso
            have z' : X.env.scope.names.lookup x = some .local := z
            rcases sc.free (x, .free) hm rfl with q | q
            · rw [show X.env.scope.names.lookup x = some .cell from q] at z'; cases z'
            · rw [show X.env.scope.names.lookup x = some .free from q] at z'; cases z'
          · rw [hc'] at hx; cases hx
            exact ⟨o, k _ o ho, hd⟩
        refine ⟨?_, c, hc, cellOk⟩
        have e3' : Vis (relabel scope X.env) x := e3
        rcases e3' with z | z | z
        · exfalso
          rcases lookup_relabel_mem z with q | ⟨q, _⟩
          · have := sc.names _ q rfl
            rw [show scope.names.lookup x = some .local from this] at hlk
            cases hlk
          · cases q
        · exact .inl z
        · exact .inr z
  · intro x c e
    obtain ⟨v, o, ho, hd⟩ := I.cell x c (sc.look ok e).1
    exact ⟨v, o, k _ o ho, hd⟩
  · intro x c e
    exact I.freeC x c (sc.look ok e).1
  · show (List.replicate own.length none ++ frj.map fun j => (σ[j]?).join).length = (own ++ frn).length
    simp [sc.frl]
end
theorem codeAny_compLoop_any {prog : Program} {w : World} {A : Around} {R : Result → Shared → Prop} {s : Shared} {elt target iter : Expr} {ifs : List Expr} {scope : Scope} {pos : Pos} {it acc : Value} {env : Env} (I : Nat → Shared → Prop)
    (turn : ∀ n s, I n s → wpAny (model prog w) A (pyNext it) (fun r s₁ => match r with
      | none => R (.ok .next) s₁
      | some v => wpAny (model prog w) A (letOwnedTupleGo target it v) (fun _ s₁' => wpAny (model prog w) A (assign target env v) (fun _ s₂ =>
          wpAny (model prog w) A (forIn ifs true fun c r => if r = true then do let ok ← isTrue c env (eval c env); pure (ForInStep.yield ok) else pure (ForInStep.yield r)) (fun ok s₃ =>
            if ok = true then wpAny (model prog w) A (eval elt env) (fun x s₄ =>
              wpAny (model prog w) A (call (.builtin "list.append") [acc, x]) (fun _ s₅ => ∃ m, m < n ∧ I m s₅) (fun _ _ => False) s₄) (fun _ _ => False) s₃
            else ∃ m, m < n ∧ I m s₃) (fun _ _ => False) s₂) (fun _ _ => False) s₁') (fun _ _ => False) s₁) (fun _ _ => False) s)
    (n : Nat) (h : I n s) :
    codeAny (model prog w) A (.compLoop (.ListComp elt [⟨target, iter, ifs, 0⟩] scope pos) 0 it acc env) R s := by
  refine codeAny_loop rfl I (fun n s hI => ?_) n h
  show wpAny _ A ((compTurn (.ListComp elt [⟨target, iter, ifs, 0⟩] scope pos) 0 it acc env).onRaise (fun x => do noteFrame x env; theTreesLotGoes x)) _ _ s
  refine wpAny_noted ?_
  rw [compTurn_list]
  refine wpAny_bind (wpAny_standAt (wpAny_bind (wpAny_mono (turn n s hI) (fun r s₁ h₁ => ?_) fun _ _ h' => h'.elim)))
  cases r with
  | none => exact wpAny_pure h₁
  | some v =>
    refine wpAny_bind (wpAny_mono h₁ (fun _ s₁' h₁' => ?_) fun _ _ h' => h'.elim)
    refine wpAny_bind (wpAny_mono h₁' (fun _ s₂ h₂ => wpAny_bind (wpAny_mono h₂ (fun ok s₃ h₃ => ?_) fun _ _ h' => h'.elim)) fun _ _ h' => h'.elim)
    cases ok with
    | false => exact wpAny_pure ⟨rfl, h₃⟩
    | true =>
      exact wpAny_bind (wpAny_bind (wpAny_mono h₃ (fun x s₄ h₄ => wpAny_bind (wpAny_mono h₄ (fun _ s₅ h₅ => wpAny_pure (wpAny_pure ⟨rfl, h₅⟩)) fun _ _ h' => h'.elim)) fun _ _ h' => h'.elim))
def PIfs (X : Cx) (ifs : List Expr) (t : TT) : Prop :=
  ∀ (pins : List (Addr × Obj)) (s : Shared) (σ : St) (H : Hp) (Q : Bool → Hp → Prop), Inv X pins σ H s → t σ H Q →
    wpAny (model X.prog X.w) X.A (forIn ifs true fun c r => if r = true then do let ok ← isTrue c X.env (eval c X.env); pure (ForInStep.yield ok) else pure (ForInStep.yield r)) (TP X pins σ Q) X.xe s
def tTrue : TT := fun _ H Q => Q true H
theorem pifs_nil {X : Cx} : PIfs X [] tTrue := fun _ _ _ H _ I h => wpAny_tests_nil ⟨H, I, h⟩
theorem pifs_one {X : Cx} {c : Expr} {t : TT} (h : PT X c t) : PIfs X [c] t := fun pins s σ H Q I hq => wpAny_tests_one (h pins s σ H Q I hq)
def cLoop (J : It) (g : TG) (tt : TT) (te : TE) (D : Addr) (σ : St) (H : Hp) (R : Hp → Prop) : Prop :=
  ∃ W : Nat → Nat → St → Hp → Prop, (∃ m, W 0 m σ H) ∧ ∀ i m σ H, W i m σ H → (J.stop i H ∧ R H) ∨ (J.go i H ∧ ∃ N : St → Hp → Prop, (∀ σ' H', N σ' H' → ∃ m', m' < m ∧ W (i + 1) m' σ' H') ∧
    ∀ x H', J.yld i H x H' → g x σ H' fun σ2 H2 => tt σ2 H2 fun b H3 => if b = true then te σ2 H3 fun y H4 => ∃ ys, H4 D = some (.lst ys) ∧ ys.length < sizeLine ∧ N σ2 (upd H4 D (.lst (ys ++ [y]))) else N σ2 H3)
section
variable {X : Cx} {scope : Scope} {own frn : List Str} {frj : List Nat} {elt tg iter : Expr} {ifs : List Expr} {pos : Pos} {g : TG} {tt : TT} {te : TE}
theorem comp_block {pins : List (Addr × Obj)} {σ : St} {H : Hp} {s : Shared} {J : It} {fp : List Addr} {it : Addr} {tn : Nat → Heap → Prop} {R : Addr → Hp → Prop} {RR : Value → Addr → Result → Shared → Prop} {E : Value → Shared → Prop}
    (sc : CompScope X scope own frn frj) (hc : X.calm = true)
    (hg : ∀ C s₃ H₃ fp, PG (cxComp X own frn scope C s₃ H₃ fp) tg g) (ht : ∀ C s₃ H₃ fp, PIfs (cxComp X own frn scope C s₃ H₃ fp) ifs tt) (he : ∀ C s₃ H₃ fp, PE (cxComp X own frn scope C s₃ H₃ fp) elt te)
    (I : Inv X pins σ H s) (T : Turn X.prog X.w X.K tg J fp it tn) (st : tn 0 s.heap) (hfp : ∀ b ∈ fp, FpOk X pins H b)
    (h : ∀ D, H D = none → cLoop J g tt te D (startC own frj σ) (upd H D (.lst [])) (R D))
    (hRR : ∀ D C H' s' m, Inv X pins σ H' s' → s.heap.objs.size ≤ C → s'.heap.Ns C m → H' C = none → R D H' → RR (.ref D) C (.ok .next) s') :
    wpAny (model X.prog X.w) X.A (newList []) (fun acc s₃ => wpAny (model X.prog X.w) X.A (newFunctionEnv scope X.env.globals (clOf X.env scope.names []) [] X.env.qual none .none (some X.env)) (fun cenv s₄ =>
      codeAny (model X.prog X.w) X.A (.compStart (.ListComp elt [⟨tg, iter, ifs, 0⟩] scope pos) 0 (.ref it) acc { cenv with scope := relabel scope X.env }) (RR acc cenv.locals) s₄) E s₃) E s := by
  refine wpAny_newObj_type (wpAny_newFunctionEnv sc.cell (by intro y hy; simp at hy) (fun h₁ hns₁ hsb₁ => ?_) sc.kind)
  dsimp only at hns₁ hsb₁ ⊢
  have hD := I.fresh
  have I3 : Inv X pins σ (upd H s.heap.objs.size (.lst [])) { s with heap := s.heap.push { cls := .type "list", dict := none, data := .seq ([] : List Value).toArray } } := I.lnew (its := []) (t' := s.toks) .nil (Nat.zero_le _)
  have hsz : (s.heap.push { cls := .type "list", dict := none, data := .seq ([] : List Value).toArray }).objs.size = s.heap.objs.size + 1 := Heap.size_push ..
  generalize hs3 : ({ s with heap := s.heap.push { cls := .type "list", dict := none, data := .seq ([] : List Value).toArray } } : Shared) = s₃ at I3
  have hh3 : s.heap.push { cls := .type "list", dict := none, data := .seq ([] : List Value).toArray } = s₃.heap := by rw [← hs3]
  rw [hh3] at hns₁ hsb₁ hsz ⊢
  have hfl : ∀ b ∈ fp, b < s.heap.objs.size := fun b hb => by
    obtain ⟨o, e, _⟩ := T.obj 0 _ st b hb
    exact Heap.lt_size e
  have hfp3 : ∀ b ∈ fp, FpOk X pins (upd H s.heap.objs.size (.lst [])) b := fun b hb => by
    obtain ⟨f0, f⟩ := hfp b hb
    exact ⟨by rw [upd_ne (Nat.ne_of_lt (hfl b hb))]; exact f0, f⟩
  have hfl3 : ∀ b ∈ fp, b < s₃.heap.objs.size := fun b hb => by rw [hsz]; exact Nat.lt_succ_of_lt (hfl b hb)
  have k4 : ∀ b o, s₃.heap.get? b = some o → h₁.get? b = some o := fun b o e => (hsb₁.2 b (Nat.ne_of_lt (Heap.lt_size e))).trans (Heap.get?_push_of_some _ e)
  have k3 : ∀ b o, s.heap.get? b = some o → s₃.heap.get? b = some o := fun b o e => by rw [← hh3]; exact Heap.get?_push_of_some _ e
  have hnone : (fun x : Str => List.lookup x ([] : List (Str × Value)).reverse) = fun _ => none := by funext x; rfl
  have hns₁' : h₁.Ns s₃.heap.objs.size fun _ => none := by
    have q := hns₁
    first
      | exact q
      | (rw [hnone] at q; exact q)
  have I4 := I3.block (own := own) (tk := s.toks + ([] : List (Str × Value)).length) sc hfp3 hfl3 k4 hns₁'
  have st4 : tn 0 h₁ := T.keep _ _ _ st fun b hb o e => k4 b o (k3 b o e)
  generalize hX : cxComp X own frn scope s₃.heap.objs.size s₃ (upd H s.heap.objs.size (.lst [])) fp = X' at I4
  have hXp : X'.prog = X.prog := by rw [← hX]; rfl
  have hXw : X'.w = X.w := by rw [← hX]; rfl
  have hXK : X'.K = X.K := by rw [← hX]; rfl
  have hXA : X'.A = X.A := by rw [← hX]; rfl
  have hXc : X'.calm = true := by rw [← hX]; exact hc
  have hXx : X'.xe = fun _ _ => False := by rw [← hX]; rfl
  have hXe : X'.env = compEnvC scope (clOf X.env scope.names []) s₃.heap.objs.size X.env := by rw [← hX]; rfl
  have hg' : PG X' tg g := by rw [← hX]; exact hg _ _ _ _
  have ht' : PIfs X' ifs tt := by rw [← hX]; exact ht _ _ _ _
  have he' : PE X' elt te := by rw [← hX]; exact he _ _ _ _
  have ofX : ∀ {H' : Hp} {s' : Shared} {σ' : St}, Inv X' [] σ' H' s' → Inv X pins σ H' s' ∧ (∃ m, s'.heap.Ns s₃.heap.objs.size m) ∧ H' s₃.heap.objs.size = none := by
    intro H' s' σ' I'
    subst hX
    refine ⟨I3.call' (ch := fp) I'.os I'.base I'.hok I'.bare fun b hb => ?_, let ⟨m, hn, _⟩ := I'.loc; ⟨m, hn⟩, I'.free⟩
    obtain ⟨f0, f1, f2, f3, f4, f5⟩ := hfp3 b hb
    exact ⟨f3, f1, f4, f5⟩
  have stat : ∀ {H' : Hp}, (∀ b ∈ fp, H' b = none) → ∀ b ∈ fp, FpOk X' [] H' b := by
    intro H' hn b hb
    subst hX
    obtain ⟨a1, a2⟩ := I4.ok.exf b hb
    exact ⟨hn b hb, a1, I4.ok.exfs b hb, .inl hb, a2, fun p hp => by cases hp⟩
  obtain ⟨W, ⟨m0, w0⟩, turn⟩ := h s.heap.objs.size hD
  have loop : codeAny (model X.prog X.w) X.A (.compLoop (.ListComp elt [⟨tg, iter, ifs, 0⟩] scope pos) 0 (.ref it) (.ref s.heap.objs.size) X'.env) (RR (.ref s.heap.objs.size) s₃.heap.objs.size)
      { s₃ with heap := h₁, toks := s.toks + ([] : List (Str × Value)).length } := by
    refine codeAny_compLoop_any (fun n s' => ∃ i σ' H', Inv X' [] σ' H' s' ∧ tn i s'.heap ∧ (∀ b ∈ fp, H' b = none) ∧ W i n σ' H') ?_ m0 ⟨0, _, _, I4, st4, fun b hb => (hfp3 b hb).1, w0⟩
    rintro n s5 ⟨i, σ5, H5, I5, st5, fr5, w5⟩
    rw [← hXp, ← hXw, ← hXA]
    have hxe : ∀ {α : Type} {t : Sem α} {Q : α → Shared → Prop} {s : Shared}, wpAny (model X'.prog X'.w) X'.A t Q X'.xe s → wpAny (model X'.prog X'.w) X'.A t Q (fun _ _ => False) s := fun h => by rw [hXx] at h; exact h
    have T' : Turn X'.prog X'.w X'.K tg J fp it tn := by rw [hXp, hXw, hXK]; exact T
    rcases turn i n σ5 H5 w5 with ⟨stop, q⟩ | ⟨go, N, hN, step⟩
    · refine thn (T'.done X' rfl rfl rfl hXc i [] s5 σ5 H5 _ I5 (stat fr5) st5 stop) fun r s6 ⟨hr, I6⟩ => ?_
      subst hr
      obtain ⟨J1, ⟨m, J2⟩, J3⟩ := ofX I6
      exact hRR _ _ H5 s6 m J1 (by rw [hsz]; exact Nat.le_succ _) J2 J3 q
    · refine thn (T'.item X' rfl rfl rfl hXc i [] s5 σ5 H5 _ I5 (stat fr5) st5 go) fun r s6 ⟨u, hr, h6⟩ => ?_
      subst hr
      refine thn h6 fun _ s7 ⟨x, H7, I7, r7, y7, st7, fr7⟩ => ?_
      have I7' := I7.pinned (stat fr7) (T'.obj _ _ st7)
      have again : ∀ {s9 : Shared} {σ9 : St} {H9 : Hp}, Inv X' ([] ++ pinsAt fp s7.heap) σ9 H9 s9 → N σ9 H9 → ∃ m, m < n ∧ ∃ i σ' H', Inv X' [] σ' H' s9 ∧ tn i s9.heap ∧ (∀ b ∈ fp, H' b = none) ∧ W i m σ' H' := fun {s9 σ9 H9} I9 n9 => by
        obtain ⟨m', hm, w9⟩ := hN σ9 H9 n9
        refine ⟨m', hm, i + 1, σ9, H9, I9.unpinned, T'.keep _ _ _ st7 fun b hb o e => (I9.pin (b, o) (List.mem_append_right _ (List.mem_append_right _ (mem_pinsAt hb e)))).1, fun b hb => ?_, w9⟩
        obtain ⟨o, e, d⟩ := T'.obj _ _ st7 b hb
        exact (I9.pin (b, o) (List.mem_append_right _ (List.mem_append_right _ (mem_pinsAt hb e)))).2.1
      refine thn (hxe (hg' _ s7 σ5 H7 x u _ I7' r7 (step x H7 y7))) fun _ s8 ⟨σ8, H8, I8, q8⟩ => ?_
      refine thn (hxe (ht' _ s8 σ8 H8 _ I8 q8)) fun b s9 ⟨H9, I9, q9⟩ => ?_
      cases b with
      | false => exact again I9 (by simpa using q9)
      | true =>
        rw [if_pos rfl] at q9
        refine thn (hxe (he' _ s9 σ8 H9 _ I9 q9)) fun y s10 ⟨v, H10, I10, r10, q10⟩ => ?_
        obtain ⟨ys, e10, z10, n10⟩ := q10
        refine thn (hxe (mt_append _ s10 σ8 H10 (.ref s.heap.objs.size) [v] (.ref s.heap.objs.size) [y] (fun _ H' => H' = upd H10 s.heap.objs.size (.lst (ys ++ [v]))) I10 rfl (.cons r10 .nil) ⟨_, ys, v, rfl, rfl, e10, z10, rfl⟩)) fun u s11 ⟨v', H11, I11, _, e11⟩ => ?_
        subst e11
        exact again I11 n10
  rw [hXe] at loop
  have e4 : ({ s with heap := h₁, toks := s.toks + ([] : List (Str × Value)).length } : Shared) = { s₃ with heap := h₁, toks := s.toks + ([] : List (Str × Value)).length } := by rw [← hs3]
  rw [e4]
  exact codeAny_compStart_list loop (T.self _ 0 _ _ _ st4 loop)
end
end L2
set_option Elab.async false
set_option linter.all false
set_option maxRecDepth 100000
set_option maxHeartbeats 4000000
namespace L2
open PySem PySem.Spec PyProof.Rows
def tComp (own : List Str) (frj : List Nat) (wi : TI) (g : TG) (tt : TT) (te : TE) : TE := fun σ H Q => wi σ H fun J H1 => ∀ D, H1 D = none → cLoop J g tt te D (startC own frj σ) (upd H1 D (.lst [])) fun H' => Q (.ref D) H'
section
variable {X : Cx} {scope : Scope} {own frn : List Str} {frj : List Nat} {elt tg iter : Expr} {ifs : List Expr} {pos : Pos} {wi : TI} {g : TG} {tt : TT} {te : TE}
theorem pe_comp (sc : CompScope X scope own frn frj) (hc : X.calm = true) (hi : PI X tg iter wi)
    (hg : ∀ C s₃ H₃ fp, PG (cxComp X own frn scope C s₃ H₃ fp) tg g) (ht : ∀ C s₃ H₃ fp, PIfs (cxComp X own frn scope C s₃ H₃ fp) ifs tt) (he : ∀ C s₃ H₃ fp, PE (cxComp X own frn scope C s₃ H₃ fp) elt te)
    (hs : ∀ x, foldedSetIterable iter X.env x = pure x := by intro _; rfl) : PE X (.ListComp elt [⟨tg, iter, ifs, 0⟩] scope pos) (tComp own frj wi g tt te) := by
  intro pins s σ H Q I h
  rw [eval_ListComp]
  refine wpAny_comprehension_free (use := none) rfl hs (closureFor_clOf (sc.cells I.ok)) sc.kind sc.names (thn (hi pins s σ H _ I h) fun v s1 h1 => thn h1 fun itv s2 h2 => ?_)
  obtain ⟨it, fp, tn, J, H2, e, I2, T, st2, f2, q⟩ := h2
  subst e
  refine comp_block (RR := fun acc C => compPost (model X.prog X.w) X.A X.xe none (EP X pins σ Q) acc C) (R := fun D H' => Q (.ref D) H') sc hc hg ht he I2 T st2 f2 q ?_
  intro D C H' s' m I' hC hn hf hq
  refine ⟨m, hn, fun h' sb => ?_⟩
  obtain ⟨f0, f1, f2, f3, f4, f5⟩ := I2.fpOk (H' := H') hC hf
  exact ⟨.ref D, H', I'.turned (t' := s'.toks) (it := C) (fun b o hb e => (sb.2 b hb).trans e) f0 f1 f3 f4 f5, rfl, hq⟩
theorem ps_setComp {i : Nat} {y : Str} {py spos : Pos} (sc : CompScope X scope own frn frj) (hc : X.calm = true) (hi : PI X tg iter wi)
    (hg : ∀ C s₃ H₃ fp, PG (cxComp X own frn scope C s₃ H₃ fp) tg g) (ht : ∀ C s₃ H₃ fp, PIfs (cxComp X own frn scope C s₃ H₃ fp) ifs tt) (he : ∀ C s₃ H₃ fp, PE (cxComp X own frn scope C s₃ H₃ fp) elt te)
    (hN : X.N.Nodup) (hi' : X.N[i]? = some y) (hx : X.env.scope.names.lookup y = some .local)
    (hsw : swapsWith (.ListComp elt [⟨tg, iter, ifs, 0⟩] scope pos) (some (.Name y py)) spos.line X.env = pure true := by rfl)
    (hs : ∀ x, foldedSetIterable iter X.env x = pure x := by intro _; rfl) : PS X (.Assign [.Name y py] (.ListComp elt [⟨tg, iter, ifs, 0⟩] scope pos) spos) (tAsg (tComp own frj wi g tt te) (gName i)) := by
  intro pins s σ H D I h
  rw [exec_Assign_Name_used _ _ _ _ hsw]
  refine wpAny_bind (wpAny_standAt (wpAny_bind ?_))
  show wpAny _ X.A (do let _ ← comprehension (.ListComp elt [⟨tg, iter, ifs, 0⟩] scope pos) scope X.env _ (newList []) false (eval iter X.env) (some (assign (.Name y py) X.env))) _ _ s
  refine wpAny_bind (wpAny_mono (wpAny_comprehension_free (use := some (assign (.Name y py) X.env)) (Q := fun _ s' => SP X pins D .next s') rfl hs (closureFor_clOf (sc.cells I.ok)) sc.kind sc.names
    (thn (hi pins s σ H _ I h) fun v s1 h1 => thn h1 fun itv s2 h2 => ?_)) (fun _ s' hq => wpAny_pure (wpAny_pure hq)) fun _ _ e => e)
  obtain ⟨it, fp, tn, J, H2, e, I2, T, st2, f2, q⟩ := h2
  subst e
  refine comp_block (RR := fun acc C => compPost (model X.prog X.w) X.A X.xe (some (assign (.Name y py) X.env)) (fun _ s' => SP X pins D .next s') acc C) (R := fun E H' => D.nx (σ.set i (some (.ref E))) H') sc hc hg ht he I2 T st2 f2 q ?_
  intro E C H' s' m I' hC hn hf hq
  show wpAny _ X.A (assign (.Name y py) X.env (.ref E)) _ _ _
  obtain ⟨f0, f1, f2, f3, f4, f5⟩ := I2.fpOk (H' := H') hC hf
  refine wpAny_assign_Name (store_ok2 I' hN hi' (.inl hx) (v := .ref E) (u := .ref E) rfl (fun s3 I3 ⟨a, sb, ha⟩ => ?_) (.inr hx))
  have hCa : C ≠ a := by
    rcases ha with z | z
    · rw [z]; exact f1
    · exact (f4 y a z).symm
  refine ⟨m, hn.sameBut sb hCa, fun h' sb' => ?_⟩
  exact ⟨_, H', I3.turned (t' := s3.toks) (it := C) (fun b o hb e => (sb'.2 b hb).trans e) f0 f1 f3 f4 f5, hq⟩
end
theorem comp_range {lo : Int} {n : Nat} {g : TG} {tt : TT} {te : TE} {D : Addr} {σ : St} {H : Hp} {R : Hp → Prop} (Pv : Nat → St → Hp → Prop) (h0 : Pv 0 σ H)
    (hs : ∀ i σ H, i < n → Pv i σ H → g (.int (lo + i)) σ H fun σ2 H2 => tt σ2 H2 fun b H3 => if b = true then te σ2 H3 fun y H4 => ∃ ys, H4 D = some (.lst ys) ∧ ys.length < sizeLine ∧ Pv (i + 1) σ2 (upd H4 D (.lst (ys ++ [y]))) else Pv (i + 1) σ2 H3)
    (hd : ∀ σ H, Pv n σ H → R H) : cLoop (Itr lo n) g tt te D σ H R := by
  refine ⟨fun i m σ H => m = n - i ∧ i ≤ n ∧ Pv i σ H, ⟨n, by simp, Nat.zero_le _, h0⟩, ?_⟩
  rintro i m σ H ⟨rfl, hi, p⟩
  by_cases hlt : i < n
  · refine .inr ⟨hlt, Pv (i + 1), fun σ' H' p' => ⟨n - (i + 1), by omega, rfl, hlt, p'⟩, fun x H' y => ?_⟩
    obtain ⟨e, y⟩ := y
    subst e y
    exact hs i σ _ hlt p
  · have e : i = n := by omega
    subst e
    exact .inl ⟨Nat.le_refl _, hd σ H p⟩
theorem comp_list {K : PySem.W.Frag} {a : Addr} {xs : List V} {g : TG} {tt : TT} {te : TE} {D : Addr} {σ : St} {H : Hp} {R : Hp → Prop} (Pv : Nat → St → Hp → Prop) (h0 : Pv 0 σ H) (hl : ∀ i σ H, i ≤ xs.length → Pv i σ H → SqL K H a xs)
    (hs : ∀ i x σ H, xs[i]? = some x → Pv i σ H → g x σ H fun σ2 H2 => tt σ2 H2 fun b H3 => if b = true then te σ2 H3 fun y H4 => ∃ ys, H4 D = some (.lst ys) ∧ ys.length < sizeLine ∧ Pv (i + 1) σ2 (upd H4 D (.lst (ys ++ [y]))) else Pv (i + 1) σ2 H3)
    (hd : ∀ σ H, Pv xs.length σ H → R H) : cLoop (Itl K a) g tt te D σ H R := by
  refine ⟨fun i m σ H => m = xs.length - i ∧ i ≤ xs.length ∧ Pv i σ H, ⟨xs.length, by simp, Nat.zero_le _, h0⟩, ?_⟩
  rintro i m σ H ⟨rfl, hi, p⟩
  have q := hl i σ H hi p
  by_cases hlt : i < xs.length
  · refine .inr ⟨⟨xs, xs[i], q, by simp [hlt]⟩, Pv (i + 1), fun σ' H' p' => ⟨xs.length - (i + 1), by omega, rfl, hlt, p'⟩, fun x H' y => ?_⟩
    obtain ⟨e, y⟩ := y
    subst e
    exact hs i x σ _ (y xs q) p
  · have e : i = xs.length := by omega
    subst e
    exact .inl ⟨⟨xs, q, Nat.le_refl _⟩, hd σ H p⟩
theorem comp_tup {K : PySem.W.Frag} {a : Addr} {xs : List V} {g : TG} {tt : TT} {te : TE} {D : Addr} {σ : St} {H : Hp} {R : Hp → Prop} (Pv : Nat → St → Hp → Prop) (h0 : Pv 0 σ H) (hl : ∀ i σ H, i ≤ xs.length → Pv i σ H → SqT K H a xs)
    (hs : ∀ i x σ H, xs[i]? = some x → Pv i σ H → g x σ H fun σ2 H2 => tt σ2 H2 fun b H3 => if b = true then te σ2 H3 fun y H4 => ∃ ys, H4 D = some (.lst ys) ∧ ys.length < sizeLine ∧ Pv (i + 1) σ2 (upd H4 D (.lst (ys ++ [y]))) else Pv (i + 1) σ2 H3)
    (hd : ∀ σ H, Pv xs.length σ H → R H) : cLoop (Itt K a) g tt te D σ H R := by
  refine ⟨fun i m σ H => m = xs.length - i ∧ i ≤ xs.length ∧ Pv i σ H, ⟨xs.length, by simp, Nat.zero_le _, h0⟩, ?_⟩
  rintro i m σ H ⟨rfl, hi, p⟩
  have q := hl i σ H hi p
  by_cases hlt : i < xs.length
  · refine .inr ⟨⟨xs, xs[i], q, by simp [hlt]⟩, Pv (i + 1), fun σ' H' p' => ⟨xs.length - (i + 1), by omega, rfl, hlt, p'⟩, fun x H' y => ?_⟩
    obtain ⟨e, y⟩ := y
    subst e
    exact hs i x σ _ (y xs q) p
  · have e : i = xs.length := by omega
    subst e
    exact .inl ⟨⟨xs, q, Nat.le_refl _⟩, hd σ H p⟩
end L2
set_option Elab.async false
set_option linter.all false
set_option maxRecDepth 100000
set_option maxHeartbeats 4000000
namespace L2
open PySem PySem.Spec PyProof.Rows
section
variable {X : Cx}
def CDivB (i j : Int) : Prop := 0 < j ∧ j.natAbs.log2 < 9000
theorem op_fdivB : OpR X (binaryOp .FloorDiv) (rI CDivB fun i j => .int (i / j)) := opI fun i j _ _ _ _ _ hc q => by
  obtain ⟨h0, h1⟩ := hc
  refine floordiv_int (by omega) ?_ (.inl (PyProof.noPylong_of_log2 h1))
  rw [Int.fdiv_eq_ediv_of_nonneg _ (by omega)]
  exact q
theorem call_sumL (hc : X.calm = true) : CallR X (.builtin "sum") (fun xs H Q => ∃ (a : Addr) (ns : List Int), xs = [.ref a] ∧ SqL X.K H a (ns.map V.int) ∧ Q (.int ns.sum) H) := by
  intro pins s σ H xs us Q I r h
  obtain ⟨a, ns, rfl, hq, q⟩ := h
  obtain ⟨u, rfl, ru⟩ := vals1 r
  cases ru
  obtain ⟨its, rv, p, _⟩ := I.list hq
  have hi : IntsAre its ns := intsAre_of rv
  have all := hi.allInts
  obtain ⟨ys, hy⟩ := all.items
  have e : (numsOf its.toArray.toList).sum = ns.sum := by rw [show its.toArray.toList = its from rfl, hi.numsOf]
  have hl := p.isList
  rw [hy] at hl e
  rw [nums_intItems] at e
  refine sum_intListG (I.ok.hd hc) hl fun h' tk t' k => ⟨.int (preSum (numAt ys) ys.size), H, I.kept k, ⟨t', rfl⟩, ?_⟩
  rw [preSum_eq, List.take_of_length_le (by simp)]
  first
    | (rw [e]; exact q)
    | (simp only [e]; exact q)
theorem call_isinst : CallR X (.builtin "isinstance") (fun xs H Q => ∃ (x : V) (t : Value) (T : String) (b : Bool), xs = [x, .ty T] ∧ TyOf X.K H x t ∧ PySem.W.kitOne X.K t (.type T) = some b ∧ Q (.bl b) H) := by
  intro pins s σ H xs us Q I r h
  obtain ⟨x, t, T, b, rfl, ty, e, q⟩ := h
  obtain ⟨u, w', rfl, rx, rT⟩ := vals2 r
  cases (show w' = Value.type T from rT)
  exact isinst_ok I rx ty e fun tk => ⟨.bl b, H, I.tok tk, rfl, q⟩
theorem op_cat0 : OpR X (binaryOp .Add) (fun x y H Q => ∃ (a b : Addr) (ys : List V), x = .ref a ∧ y = .ref b ∧ SqT X.K H a [] ∧ SqT X.K H b ys ∧ Q (.ref b) H) := by
  intro pins s σ H x y v u Q I rx ry h
  obtain ⟨a, b, ys, rfl, rfl, ha, hb, q⟩ := h
  cases rx
  cases ry
  obtain ⟨its, r1, p1, _⟩ := I.tuple ha
  obtain ⟨its2, r2, p2, _⟩ := I.tuple hb
  cases r1
  obtain ⟨⟨cls, dd, data, sl⟩, ho, hc, n, hd⟩ := id p1
  obtain ⟨⟨cls2, dd2, data2, sl2⟩, ho2, hc2, n2, hd2⟩ := id p2
  simp only at hc hd hc2 hd2
  subst hc hd hc2 hd2
  exact concat_meets ⟨_, ho, rfl⟩ ⟨_, ho2, rfl⟩ noFill_tuple_add seq_tuple_add PySem.F.slot_tuple_add PySem.F.entry_tuple_add (PySem.F.args_tuple_add_2 _ _)
    (tuple_addW0 a b #[] its2.toArray n n2 dd dd2 sl sl2 rfl) ⟨ho, ho2, ⟨.ref b, H, I, rfl, q⟩⟩
def rCatN (K : PySem.W.Frag) : R2 := fun x y H Q => ∃ (a b : Addr) (xs ys : List V), x = .ref a ∧ y = .ref b ∧ SqT K H a xs ∧ SqT K H b ys ∧ ys ≠ [] ∧ xs.length + ys.length ≤ sizeLine ∧
  (xs = [] → Q (.ref b) H) ∧ (xs ≠ [] → ∀ p, H p = none → Q (.ref p) (upd H p (.tup (xs ++ ys))))
theorem op_catN : OpR X (binaryOp .Add) (rCatN X.K) := by
  intro pins s σ H x y v u Q I rx ry h
  obtain ⟨a, b, xs, ys, rfl, rfl, ha, hb, hy, hz, q1, q2⟩ := h
  by_cases hx : xs = []
  · subst hx
    exact op_cat0 pins s σ H _ _ v u Q I rx ry ⟨a, b, ys, rfl, rfl, ha, hb, q1 rfl⟩
  · exact op_catT pins s σ H _ _ v u Q I rx ry ⟨a, b, xs, ys, rfl, rfl, ha, hb, hx, hz, fun z => absurd z hy, fun _ => q2 hx⟩
end
end L2
namespace L2
open PySem PySem.Spec PyProof.Rows
def compCheck (scope esc : Scope) (N own frn : List Str) (frj : List Nat) : Bool :=
  scope.names.all (fun y => y.2 != .cell) && scope.kind == .function && scope.names.all (fun y => y.2 != .local || scope.names.lookup y.1 == some .local)
  && scope.names.all (fun y => y.2 != .free || (esc.names.lookup y.1 == some .cell || esc.names.lookup y.1 == some .free))
  && frj.length == frn.length && (List.range frj.length).all (fun i => (frj[i]?).bind (fun j => N[j]?) == frn[i]?)
  && frn.all (fun x => scope.names.contains (x, NameKind.free) && scope.names.lookup x == some .free)
theorem CompScope.mk' {X : Cx} {scope esc : Scope} {N own frn : List Str} {frj : List Nat} (hs : X.env.scope = esc) (hN : X.N = N) (h : compCheck scope esc N own frn frj = true) : CompScope X scope own frn frj := by
  unfold compCheck at h
  simp only [Bool.and_eq_true, List.all_eq_true, bne_iff_ne, beq_iff_eq, Bool.or_eq_true, List.contains_iff_mem] at h
  obtain ⟨⟨⟨⟨⟨⟨h1, h2⟩, h3⟩, h4⟩, h5⟩, h6⟩, h7⟩ := h
  refine ⟨h1, h2, fun y hy hl => ?_, fun y hy hf => ?_, h5, fun i j e => ?_, fun x hx => h7 x hx⟩
  · rcases h3 y hy with z | z
    · exact absurd hl z
    · exact z
  · rw [hs]
    rcases h4 y hy with z | z
    · exact absurd hf z
    · exact z
  · have hi : i < frj.length := (List.getElem?_eq_some_iff.mp e).1
    have q := h6 i (List.mem_range.mpr hi)
    rw [e] at q
    rw [hN]
    exact q
def KB (d : Addr) (H H' : Hp) : Prop := ∀ b o, H b = some o → b ≠ d → H' b = some o
theorem KB.refl (d : Addr) (H : Hp) : KB d H H := fun _ _ h _ => h
theorem KB.trans {d : Addr} {H H1 H2 : Hp} (a : KB d H H1) (b : KB d H1 H2) : KB d H H2 := fun c o h n => b c o (a c o h n) n
theorem KB.write {d : Addr} {H : Hp} {o : HO} : KB d H (upd H d o) := fun b o h n => by rw [upd_ne n]; exact h
theorem Same.kb {d : Addr} {H H' : Hp} (s : Same H H') : KB d H H' := fun b o h _ => s b o h
theorem Same.new {H : Hp} {p : Addr} {o : HO} (h : H p = none) : Same H (upd H p o) := fun b u e => by rw [upd_ne (ne_of_none e h)]; exact e
theorem Same.kbn {d : Addr} {H H1 H2 : Hp} (s : Same H H1) (h : H d = none) (k : KB d H1 H2) : Same H H2 := fun b o e => k b o (s b o e) (ne_of_none e h)
theorem KB.seq {K : PySem.W.Frag} {d : Addr} {H H' : Hp} {a : Addr} {xs : List V} (e : KB d H H') (n : a ≠ d) (h : SqL K H a xs) : SqL K H' a xs := by
  rcases h with (h | ⟨o, h⟩) | h
  · exact .inl (.inl (e _ _ h n))
  · exact .inl (.inr ⟨o, e _ _ h n⟩)
  · exact .inr h
theorem Same.seqT {K : PySem.W.Frag} {H H' : Hp} {a : Addr} {xs : List V} (e : Same H H') (h : SqT K H a xs) : SqT K H' a xs := by
  rcases h with (h | ⟨o, h⟩) | h
  · exact .inl (.inl (e _ _ h))
  · exact .inl (.inr ⟨o, e _ _ h⟩)
  · exact .inr h
def KTu (H H' : Hp) : Prop := ∀ b xs, H b = some (.tup xs) → H' b = some (.tup xs)
theorem KTu.trans {H H1 H2 : Hp} (a : KTu H H1) (b : KTu H1 H2) : KTu H H2 := fun c o h => b c o (a c o h)
theorem Same.kt {H H' : Hp} (s : Same H H') : KTu H H' := fun b xs h => s b _ h
theorem KTu.lst {H : Hp} {d : Addr} {xs : List V} {o : HO} (h : H d = some (.lst xs)) : KTu H (upd H d o) := fun b ys e => by
  rw [upd_ne (ne_of e h (fun z => nomatch z))]; exact e
theorem KTu.kb {d : Addr} {xs : List V} {H H' : Hp} (h : H d = some (.lst xs)) (k : KB d H H') : KTu H H' := fun b ys e => k b _ e (ne_of e h (fun z => nomatch z))
def Tups (H : Hp) (ps : List Addr) (ls : List (List Int)) : Prop := Paired (fun p (l : List Int) => H p = some (.tup (l.map V.int))) ps ls
theorem Tups.keep {H H' : Hp} {ps : List Addr} {ls : List (List Int)} (t : Tups H ps ls) (k : KTu H H') : Tups H' ps ls := Paired.mapP t fun _ _ h => k _ _ h
theorem Tups.get {H : Hp} : ∀ {ps : List Addr} {ls : List (List Int)} {i : Nat} {p : Addr}, Tups H ps ls → ps[i]? = some p → ∃ l, ls[i]? = some l ∧ H p = some (.tup (l.map V.int))
  | _, _, _, _, .nil, e => by simp at e
  | _, _, 0, _, .cons r _, e => by simp at e; subst e; exact ⟨_, rfl, r⟩
  | _, _, i + 1, p, .cons _ t, e => by
    obtain ⟨u, h1, h2⟩ := Tups.get (i := i) (p := p) t (by simpa using e)
    exact ⟨u, by simpa using h1, h2⟩
theorem paired_append {α β : Type} {F : α → β → Prop} : ∀ {xs ys : List α} {us ws : List β}, Paired F xs us → Paired F ys ws → Paired F (xs ++ ys) (us ++ ws)
  | _, _, _, _, .nil, s => s
  | _, _, _, _, .cons r t, s => .cons r (paired_append t s)
end L2
namespace L2
open PySem
theorem bt_len : bootBuiltins "len" = some (.builtin "len") := by decide +kernel
theorem bt_sum : bootBuiltins "sum" = some (.builtin "sum") := by decide +kernel
theorem bt_min : bootBuiltins "min" = some (.builtin "min") := by decide +kernel
theorem bt_max : bootBuiltins "max" = some (.builtin "max") := by decide +kernel
theorem bt_isinstance : bootBuiltins "isinstance" = some (.builtin "isinstance") := by decide +kernel
theorem bt_sorted : bootBuiltins "sorted" = some (.builtin "sorted") := by decide +kernel
theorem bt_all : bootBuiltins "all" = some (.builtin "all") := by decide +kernel
theorem bt_any : bootBuiltins "any" = some (.builtin "any") := by decide +kernel
theorem bt_list : bootBuiltins "list" = some (.type "list") := by decide +kernel
theorem bt_tuple : bootBuiltins "tuple" = some (.type "tuple") := by decide +kernel
theorem bt_int : bootBuiltins "int" = some (.type "int") := by decide +kernel
theorem bt_bool : bootBuiltins "bool" = some (.type "bool") := by decide +kernel
theorem bt_dict : bootBuiltins "dict" = some (.type "dict") := by decide +kernel
end L2
namespace L2
open PySem PySem.Spec PyProof.Rows
def rLen (K : PySem.W.Frag) : List V → Hp → VK → Prop := fun xs H Q => ∃ x n, xs = [x] ∧ LenV K x H n ∧ Q (.int n) H
def rSum (K : PySem.W.Frag) : List V → Hp → VK → Prop := fun xs H Q => ∃ (a : Addr) (ns : List Int), xs = [.ref a] ∧ SqL K H a (ns.map V.int) ∧ Q (.int ns.sum) H
def rIsi (K : PySem.W.Frag) : List V → Hp → VK → Prop := fun xs H Q => ∃ (x : V) (t : Value) (T : String) (b : Bool), xs = [x, .ty T] ∧ TyOf K H x t ∧ PySem.W.kitOne K t (.type T) = some b ∧ Q (.bl b) H
section
variable {X : Cx}
theorem call_lenK (K : PySem.W.Frag) (hK : X.K = K := by rfl) : CallR X (.builtin "len") (rLen K) := by subst hK; exact call_len
theorem call_sumK (K : PySem.W.Frag) (hc : X.calm = true := by rfl) (hK : X.K = K := by rfl) : CallR X (.builtin "sum") (rSum K) := by subst hK; exact call_sumL hc
theorem call_isiK (K : PySem.W.Frag) (hK : X.K = K := by rfl) : CallR X (.builtin "isinstance") (rIsi K) := by subst hK; exact call_isinst
theorem ix_listK (K : PySem.W.Frag) (hK : X.K = K := by rfl) : IxR X (rIxL K) := by subst hK; exact ix_list
theorem ix_tupK (K : PySem.W.Frag) (hK : X.K = K := by rfl) : IxR X (rIxT K) := by subst hK; exact ix_tup
theorem sl_listK (K : PySem.W.Frag) (hK : X.K = K := by rfl) : SlR X (rSlL K) := by subst hK; exact sl_list
theorem op_catNK (K : PySem.W.Frag) (hK : X.K = K := by rfl) : OpR X (binaryOp .Add) (rCatN K) := by subst hK; exact op_catN
theorem op_inK (K : PySem.W.Frag) (hK : X.K = K := by rfl) : OpR X (compareOp .In) (rIn K false) := by subst hK; exact op_in_seq
theorem op_notInK (K : PySem.W.Frag) (hK : X.K = K := by rfl) : OpR X (compareOp .NotIn) (rIn K true) := by subst hK; exact op_notIn_seq
def CPos (_ j : Int) : Prop := 0 < j
theorem cpos {i j : Int} (h : 0 < j) : CPos i j := h
theorem op_modP : OpR X (binaryOp .Mod) (rI CPos fun i j => .int (i % j)) := op_mod
end
end L2
namespace L2
theorem seq_rest {t u : TS} {D : Ends} {σ : St} {H : Hp} (Pv : St → Hp → Prop) (h1 : ∀ σ H, Pv σ H → u D σ H) (h2 : (∀ σ H, Pv σ H → u D σ H) → t { D with nx := u D } σ H) : tSeq t u D σ H := h2 h1
end L2
set_option Elab.async false
set_option linter.all false
set_option maxRecDepth 100000
set_option maxHeartbeats 4000000
namespace L2
open PySem PySem.Spec PyProof.Rows
inductive Dt where
  | non | bl (b : Bool) | int (i : Int) | str (x : Str) | tup (xs : List Dt) | lst (xs : List Dt)
mutual
def Dt.beq : Dt → Dt → Bool
  | .non, .non => true
  | .bl a, .bl b => a == b
  | .bl a, .int b => (if a then 1 else 0) == b
  | .int a, .bl b => a == (if b then 1 else 0)
  | .int a, .int b => a == b
  | .str a, .str b => a == b
  | .tup xs, .tup ys => Dt.beqs xs ys
  | .lst xs, .lst ys => Dt.beqs xs ys
  | _, _ => false
def Dt.beqs : List Dt → List Dt → Bool
  | [], [] => true
  | x :: xs, y :: ys => x.beq y && Dt.beqs xs ys
  | _, _ => false
end
mutual
def Dt.dep : Dt → Nat
  | .tup xs => Dt.deps xs + 1
  | .lst xs => Dt.deps xs + 1
  | _ => 0
def Dt.deps : List Dt → Nat
  | [] => 0
  | x :: xs => max x.dep (Dt.deps xs)
end
mutual
def DatAt (K : PySem.W.Frag) (H : Hp) : V → Dt → Prop
  | x, .non => x = .non
  | x, .bl b => x = .bl b
  | x, .int i => x = .int i
  | x, .str z => x = .str z
  | x, .tup ds => ∃ a xs, x = .ref a ∧ SqT K H a xs ∧ DatsAt K H xs ds
  | x, .lst ds => ∃ a xs, x = .ref a ∧ SqL K H a xs ∧ DatsAt K H xs ds
def DatsAt (K : PySem.W.Frag) (H : Hp) : List V → List Dt → Prop
  | [], [] => True
  | x :: xs, d :: ds => DatAt K H x d ∧ DatsAt K H xs ds
  | _, _ => False
end
theorem Dt.beq_refl (d : Dt) : d.beq d = true := by
  induction d using Dt.rec (motive_2 := fun xs => Dt.beqs xs xs = true) with
  | non => simp [Dt.beq]
  | bl b => simp [Dt.beq]
  | int b => simp [Dt.beq]
  | str b => simp [Dt.beq]
  | tup xs ih => simp [Dt.beq, ih]
  | lst xs ih => simp [Dt.beq, ih]
  | nil => simp [Dt.beqs]
  | cons x xs h1 h2 => simp [Dt.beqs, h1, h2]
theorem DatsAt.length {K : PySem.W.Frag} {H : Hp} : ∀ {xs : List V} {ds : List Dt}, DatsAt K H xs ds → xs.length = ds.length
  | [], [], _ => rfl
  | [], _ :: _, h => by simp [DatsAt] at h
  | _ :: _, [], h => by simp [DatsAt] at h
  | x :: xs, d :: ds, h => by
    rw [DatsAt] at h
    rw [List.length_cons, List.length_cons, DatsAt.length h.2]
theorem DatsAt.get {K : PySem.W.Frag} {H : Hp} : ∀ {xs : List V} {ds : List Dt} {i : Nat} {x : V}, DatsAt K H xs ds → xs[i]? = some x → ∃ d, ds[i]? = some d ∧ DatAt K H x d
  | [], _, _, _, _, e => by simp at e
  | _ :: _, [], _, _, h, _ => by simp [DatsAt] at h
  | x :: xs, d :: ds, 0, y, h, e => by
    rw [DatsAt] at h
    simp at e; subst e
    exact ⟨d, rfl, h.1⟩
  | x :: xs, d :: ds, i + 1, y, h, e => by
    rw [DatsAt] at h
    obtain ⟨d', h1, h2⟩ := DatsAt.get (i := i) (x := y) h.2 (by simpa using e)
    exact ⟨d', by simpa using h1, h2⟩
theorem Dt.deps_mem {d : Dt} : ∀ {ds : List Dt}, d ∈ ds → d.dep ≤ Dt.deps ds
  | [], h => by cases h
  | x :: xs, h => by
    rw [Dt.deps]
    rcases List.mem_cons.mp h with rfl | h
    · exact Nat.le_max_left ..
    · exact Nat.le_trans (Dt.deps_mem h) (Nat.le_max_right ..)
def beqAt (xs ys : List Dt) (j : Nat) : Bool := match xs[j]?, ys[j]? with
  | some x, some y => x.beq y
  | _, _ => false
theorem all_range_succ (n : Nat) (e : Nat → Bool) : (List.range (n + 1)).all e = (e 0 && (List.range n).all fun j => e (j + 1)) := by
  rw [List.range_succ_eq_map, List.all_cons, List.all_map]; rfl
theorem beqs_all : ∀ (xs ys : List Dt), xs.length = ys.length → (List.range xs.length).all (beqAt xs ys) = Dt.beqs xs ys
  | [], [], _ => by simp [Dt.beqs]
  | x :: xs, y :: ys, h => by
    have h' : xs.length = ys.length := by simpa using h
    rw [List.length_cons, all_range_succ, Dt.beqs, ← beqs_all xs ys h']
    rfl
theorem beqs_len : ∀ (xs ys : List Dt), xs.length ≠ ys.length → Dt.beqs xs ys = false
  | [], [], h => absurd rfl h
  | [], _ :: _, _ => by simp [Dt.beqs]
  | _ :: _, [], _ => by simp [Dt.beqs]
  | x :: xs, y :: ys, h => by
    have h' : xs.length ≠ ys.length := fun z => h (by simp [z])
    rw [Dt.beqs, beqs_len xs ys h', Bool.and_false]
section
variable {X : Cx} {pins : List (Addr × Obj)} {σ : St} {H : Hp} {s : Shared}
theorem list_not_tuple {a : Addr} {xs ys : List V} (I : Inv X pins σ H s) (h1 : SqL X.K H a xs) (h2 : SqT X.K H a ys) : False := by
  obtain ⟨its, _, p, _⟩ := I.list h1
  obtain ⟨its2, _, q, _⟩ := I.tuple h2
  exact SeqAt.ne_of_list_tuple p.isList (show s.heap.IsTuple a its2.toArray from q) rfl
theorem dat_inj (I : Inv X pins σ H s) (d : Dt) : ∀ (x : V) (d' : Dt), DatAt X.K H x d → DatAt X.K H x d' → d = d' := by
  induction d using Dt.rec (motive_2 := fun ds => ∀ (xs : List V) (ds' : List Dt), DatsAt X.K H xs ds → DatsAt X.K H xs ds' → ds = ds') with
  | non => intro x d' h h'; cases d' <;> simp_all [DatAt]
  | bl b => intro x d' h h'; cases d' <;> simp_all [DatAt]
  | int b => intro x d' h h'; cases d' <;> simp_all [DatAt]
  | str b => intro x d' h h'; cases d' <;> simp_all [DatAt]
  | tup ds ih =>
    intro x d' h h'
    rw [DatAt] at h
    obtain ⟨a, xs, rfl, hq, hd⟩ := h
    cases d' with
    | tup ds' =>
      rw [DatAt] at h'
      obtain ⟨a', xs', e, hq', hd'⟩ := h'
      cases e
      rw [I.tuple_inj hq' hq] at hd'
      rw [ih xs ds' hd hd']
    | lst ds' =>
      rw [DatAt] at h'
      obtain ⟨a', xs', e, hq', hd'⟩ := h'
      cases e
      exact (list_not_tuple I hq' hq).elim
    | _ => simp [DatAt] at h'
  | lst ds ih =>
    intro x d' h h'
    rw [DatAt] at h
    obtain ⟨a, xs, rfl, hq, hd⟩ := h
    cases d' with
    | lst ds' =>
      rw [DatAt] at h'
      obtain ⟨a', xs', e, hq', hd'⟩ := h'
      cases e
      rw [I.list_inj hq' hq] at hd'
      rw [ih xs ds' hd hd']
    | tup ds' =>
      rw [DatAt] at h'
      obtain ⟨a', xs', e, hq', hd'⟩ := h'
      cases e
      exact (list_not_tuple I hq hq').elim
    | _ => simp [DatAt] at h'
  | nil =>
    rename_i xs ds' h h'
    cases xs with
    | nil => cases ds' with
      | nil => rfl
      | cons _ _ => simp [DatsAt] at h'
    | cons _ _ => simp [DatsAt] at h
  | cons d ds h1 h2 =>
    rename_i xs ds' h h'
    cases xs with
    | nil => simp [DatsAt] at h
    | cons x xs => cases ds' with
      | nil => simp [DatsAt] at h'
      | cons d' ds' =>
        rw [DatsAt] at h h'
        rw [h1 x d' h.1 h'.1, h2 xs ds' h.2 h'.2]
theorem items_eq {A : Around} {xs ys : List V} {ds ds' : List Dt} {its its2 : List Value} (r1 : Vals xs its) (r2 : Vals ys its2) (h1 : DatsAt X.K H xs ds) (h2 : DatsAt X.K H ys ds')
    (ih : ∀ d ∈ ds, ∀ (d' : Dt) (x y : V) (u v : Value), DatAt X.K H x d → DatAt X.K H y d' → RelV x u → RelV y v → SeqAt.EqAt A s u v (d.beq d')) :
    ∀ j (a : j < its.toArray.size) (b : j < its2.toArray.size), SeqAt.EqAt A s its.toArray[j] its2.toArray[j] (beqAt ds ds' j) := fun j a b => by
  have a' : j < its.length := by simpa using a
  have b' : j < its2.length := by simpa using b
  have la := r1.length
  have lb := r2.length
  have ex : xs[j]? = some (xs[j]'(by omega)) := List.getElem?_eq_getElem (by omega)
  have ey : ys[j]? = some (ys[j]'(by omega)) := List.getElem?_eq_getElem (by omega)
  obtain ⟨u, eu, ru⟩ := r1.get ex
  obtain ⟨v, ev, rv⟩ := r2.get ey
  obtain ⟨d, ed, hd⟩ := h1.get ex
  obtain ⟨d', ed', hd'⟩ := h2.get ey
  have e1 : its.toArray[j] = u := by
    rw [List.getElem?_eq_getElem a'] at eu
    simpa using Option.some.inj eu
  have e2 : its2.toArray[j] = v := by
    rw [List.getElem?_eq_getElem b'] at ev
    simpa using Option.some.inj ev
  rw [e1, e2]
  have e3 : beqAt ds ds' j = d.beq d' := by unfold beqAt; rw [ed, ed']
  rw [e3]
  exact ih d (List.mem_of_getElem? ed) d' _ _ u v hd hd' ru rv
theorem rc_lists {A : Around} {a b : Addr} {xs ys : List V} {ds ds' : List Dt} (I : Inv X pins σ H s) (q1 : SqL X.K H a xs) (q2 : SqL X.K H b ys) (h1 : DatsAt X.K H xs ds) (h2 : DatsAt X.K H ys ds') (hu : A.units < cLine)
    (ih : ∀ d ∈ ds, ∀ (d' : Dt) (x y : V) (u v : Value), DatAt X.K H x d → DatAt X.K H y d' → RelV x u → RelV y v → SeqAt.EqAt A.in1 s u v (d.beq d')) : SeqAt.RcAt A s (.ref a) (.ref b) (Dt.beqs ds ds') := by
  obtain ⟨its, r1, p1, _⟩ := I.list q1
  obtain ⟨its2, r2, p2, _⟩ := I.list q2
  have l1 := r1.length
  have l2 := r2.length
  have l3 := h1.length
  have l4 := h2.length
  by_cases hl : ds.length = ds'.length
  · have := SeqAt.RcAt.lists p1.isList p2.isList (by simp; omega) hu (items_eq r1 r2 h1 h2 ih)
    rw [show its.toArray.size = ds.length by simp; omega, beqs_all ds ds' hl] at this
    exact this
  · rw [beqs_len ds ds' hl]
    exact SeqAt.RcAt.lists_lengths p1.isList p2.isList (by simp; omega) hu
theorem rc_tuples {A : Around} {a b : Addr} {xs ys : List V} {ds ds' : List Dt} (I : Inv X pins σ H s) (q1 : SqT X.K H a xs) (q2 : SqT X.K H b ys) (h1 : DatsAt X.K H xs ds) (h2 : DatsAt X.K H ys ds') (hu : A.units < cLine)
    (ih : ∀ d ∈ ds, ∀ (d' : Dt) (x y : V) (u v : Value), DatAt X.K H x d → DatAt X.K H y d' → RelV x u → RelV y v → SeqAt.EqAt A.in1 s u v (d.beq d')) : SeqAt.RcAt A s (.ref a) (.ref b) (Dt.beqs ds ds') := by
  obtain ⟨its, r1, p1, _⟩ := I.tuple q1
  obtain ⟨its2, r2, p2, _⟩ := I.tuple q2
  have l1 := r1.length
  have l2 := r2.length
  have l3 := h1.length
  have l4 := h2.length
  have := SeqAt.RcAt.tuples (show s.heap.IsTuple a its.toArray from p1) (show s.heap.IsTuple b its2.toArray from p2) hu (items_eq r1 r2 h1 h2 ih)
  by_cases hl : ds.length = ds'.length
  · rw [show min its.toArray.size its2.toArray.size = ds.length by simp; omega, beqs_all ds ds' hl, show (its.toArray.size == its2.toArray.size) = true by simp; omega, Bool.and_true] at this
    exact this
  · rw [show (its.toArray.size == its2.toArray.size) = false by simp; omega, Bool.and_false] at this
    rw [beqs_len ds ds' hl]
    exact this
theorem dat_eqAt (I : Inv X pins σ H s) (d : Dt) : ∀ (A : Around) (d' : Dt) (x y : V) (u v : Value), A.units + d.dep < cLine → DatAt X.K H x d → DatAt X.K H y d' → RelV x u → RelV y v → SeqAt.EqAt A s u v (d.beq d') := by
  have flat : ∀ {A : Around} {d d' : Dt} {x y : V} {u v : Value}, flatV x = true → flatV y = true → eqV x y = d.beq d' → RelV x u → RelV y v → SeqAt.EqAt A s u v (d.beq d') := fun fx fy e ru rv => e ▸ eqAt_V ru rv fx fy
  have lOf : ∀ {a : Addr} {xs : List V}, SqL X.K H a xs → ∃ its : Array Value, s.heap.IsList a its := fun q => let ⟨its, _, p, _⟩ := I.list q; ⟨_, p.isList⟩
  have tOf : ∀ {a : Addr} {xs : List V}, SqT X.K H a xs → ∃ its : Array Value, s.heap.IsTuple a its := fun q => let ⟨its, _, p, _⟩ := I.tuple q; ⟨_, p⟩
  have refs : ∀ {A : Around} {a b : Addr} {d d' : Dt}, DatAt X.K H (.ref a) d → DatAt X.K H (.ref b) d' → SeqAt.RcAt A s (.ref a) (.ref b) (d.beq d') → SeqAt.EqAt A s (.ref a) (.ref b) (d.beq d') := by
    intro A a b d d' h h' r
    by_cases e : a = b
    · subst e
      rw [← dat_inj I d _ _ h h', Dt.beq_refl]
      exact SeqAt.EqAt.same _
    · exact SeqAt.EqAt.of_refs e r
  induction d using Dt.rec (motive_2 := fun ds => ∀ d ∈ ds, ∀ (A : Around) (d' : Dt) (x y : V) (u v : Value), A.units + d.dep < cLine → DatAt X.K H x d → DatAt X.K H y d' → RelV x u → RelV y v → SeqAt.EqAt A s u v (d.beq d')) with
  | non =>
    intro A d' x y u v hu h h' ru rv
    rw [DatAt] at h
    subst h
    have hu' : A.units < cLine := by omega
    cases d' with
    | tup ds' =>
      rw [DatAt] at h'; obtain ⟨b, ys, rfl, q, _⟩ := h'
      cases ru; cases rv
      obtain ⟨its, p⟩ := tOf q
      exact SeqAt.EqAt.none_tuple p hu'
    | lst ds' =>
      rw [DatAt] at h'; obtain ⟨b, ys, rfl, q, _⟩ := h'
      cases ru; cases rv
      obtain ⟨its, p⟩ := lOf q
      exact SeqAt.EqAt.none_list p hu'
    | _ => rw [DatAt] at h'; subst h'; exact flat rfl rfl (by simp [Dt.beq, eqV]) ru rv
  | bl b0 =>
    intro A d' x y u v hu h h' ru rv
    rw [DatAt] at h
    subst h
    have hu' : A.units < cLine := by omega
    cases d' with
    | tup ds' =>
      rw [DatAt] at h'; obtain ⟨b, ys, rfl, q, _⟩ := h'
      cases ru; cases rv
      obtain ⟨its, p⟩ := tOf q
      exact SeqAt.EqAt.bool_tuple _ p hu'
    | lst ds' =>
      rw [DatAt] at h'; obtain ⟨b, ys, rfl, q, _⟩ := h'
      cases ru; cases rv
      obtain ⟨its, p⟩ := lOf q
      exact SeqAt.EqAt.bool_list _ p hu'
    | _ => rw [DatAt] at h'; subst h'; exact flat rfl rfl (by simp [Dt.beq, eqV]) ru rv
  | int i0 =>
    intro A d' x y u v hu h h' ru rv
    rw [DatAt] at h
    subst h
    have hu' : A.units < cLine := by omega
    cases d' with
    | tup ds' =>
      rw [DatAt] at h'; obtain ⟨b, ys, rfl, q, _⟩ := h'
      obtain ⟨t, rfl⟩ := ru; cases rv
      obtain ⟨its, p⟩ := tOf q
      exact SeqAt.EqAt.int_tuple _ _ p hu'
    | lst ds' =>
      rw [DatAt] at h'; obtain ⟨b, ys, rfl, q, _⟩ := h'
      obtain ⟨t, rfl⟩ := ru; cases rv
      obtain ⟨its, p⟩ := lOf q
      exact SeqAt.EqAt.int_list _ _ p hu'
    | _ => rw [DatAt] at h'; subst h'; exact flat rfl rfl (by simp [Dt.beq, eqV]) ru rv
  | str z0 =>
    intro A d' x y u v hu h h' ru rv
    rw [DatAt] at h
    subst h
    have hu' : A.units < cLine := by omega
    cases d' with
    | tup ds' =>
      rw [DatAt] at h'; obtain ⟨b, ys, rfl, q, _⟩ := h'
      obtain ⟨t, rfl⟩ := ru; cases rv
      obtain ⟨its, p⟩ := tOf q
      exact SeqAt.EqAt.str_tuple _ _ p hu'
    | lst ds' =>
      rw [DatAt] at h'; obtain ⟨b, ys, rfl, q, _⟩ := h'
      obtain ⟨t, rfl⟩ := ru; cases rv
      obtain ⟨its, p⟩ := lOf q
      exact SeqAt.EqAt.str_list _ _ p hu'
    | _ => rw [DatAt] at h'; subst h'; exact flat rfl rfl (by simp [Dt.beq, eqV]) ru rv
  | tup ds ih =>
    intro A d' x y u v hu h h' ru rv
    have hD := h
    have hD' := h'
    rw [DatAt] at h
    obtain ⟨a, xs, rfl, q, hd⟩ := h
    cases ru
    obtain ⟨its, p⟩ := tOf q
    have hu' : A.units < cLine := by omega
    cases d' with
    | non => rw [DatAt] at h'; subst h'; cases rv; exact SeqAt.EqAt.tuple_none p hu'
    | bl b => rw [DatAt] at h'; subst h'; cases rv; exact SeqAt.EqAt.tuple_bool _ p hu'
    | int b => rw [DatAt] at h'; subst h'; obtain ⟨t, rfl⟩ := rv; exact SeqAt.EqAt.tuple_int _ _ p hu'
    | str b => rw [DatAt] at h'; subst h'; obtain ⟨t, rfl⟩ := rv; exact SeqAt.EqAt.tuple_str _ _ p hu'
    | lst ds' =>
      rw [DatAt] at h'; obtain ⟨b, ys, rfl, q', _⟩ := h'
      cases rv
      obtain ⟨its2, p2⟩ := lOf q'
      exact SeqAt.EqAt.tuple_list p p2 hu'
    | tup ds' =>
      rw [DatAt] at h'; obtain ⟨b, ys, rfl, q', hd'⟩ := h'
      cases rv
      refine refs hD hD' ?_
      have := rc_tuples (A := A) I q q' hd hd' hu' fun d hm d' x y u v h1 h2 r1 r2 => ih d hm A.in1 d' x y u v (by
        have := Dt.deps_mem hm
        rw [Dt.dep] at hu
        show A.units + 1 + d.dep < cLine
        omega) h1 h2 r1 r2
      simpa [Dt.beq] using this
  | lst ds ih =>
    intro A d' x y u v hu h h' ru rv
    have hD := h
    have hD' := h'
    rw [DatAt] at h
    obtain ⟨a, xs, rfl, q, hd⟩ := h
    cases ru
    obtain ⟨its, p⟩ := lOf q
    have hu' : A.units < cLine := by omega
    cases d' with
    | non => rw [DatAt] at h'; subst h'; cases rv; exact SeqAt.EqAt.list_none p hu'
    | bl b => rw [DatAt] at h'; subst h'; cases rv; exact SeqAt.EqAt.list_bool _ p hu'
    | int b => rw [DatAt] at h'; subst h'; obtain ⟨t, rfl⟩ := rv; exact SeqAt.EqAt.list_int _ _ p hu'
    | str b => rw [DatAt] at h'; subst h'; obtain ⟨t, rfl⟩ := rv; exact SeqAt.EqAt.list_str _ _ p hu'
    | tup ds' =>
      rw [DatAt] at h'; obtain ⟨b, ys, rfl, q', _⟩ := h'
      cases rv
      obtain ⟨its2, p2⟩ := tOf q'
      exact SeqAt.EqAt.list_tuple p p2 hu'
    | lst ds' =>
      rw [DatAt] at h'; obtain ⟨b, ys, rfl, q', hd'⟩ := h'
      cases rv
      refine refs hD hD' ?_
      have := rc_lists (A := A) I q q' hd hd' hu' fun d hm d' x y u v h1 h2 r1 r2 => ih d hm A.in1 d' x y u v (by
        have := Dt.deps_mem hm
        rw [Dt.dep] at hu
        show A.units + 1 + d.dep < cLine
        omega) h1 h2 r1 r2
      simpa [Dt.beq] using this
  | nil =>
    rename_i d hd A d' x y u v a1 a2 a3 a4 a5
    cases hd
  | cons d ds h1 h2 =>
    rename_i d0 hd A d' x y u v a1 a2 a3 a4 a5
    rcases List.mem_cons.mp hd with e | hd
    · subst e; exact h1 A d' x y u v a1 a2 a3 a4 a5
    · exact h2 d0 hd A d' x y u v a1 a2 a3 a4 a5
def Dt.isSq : Dt → Bool
  | .tup _ => true
  | .lst _ => true
  | _ => false
def rEqD (K : PySem.W.Frag) (neg : Bool) : R2 := fun x y H Q => ∃ d d' : Dt, DatAt K H x d ∧ DatAt K H y d' ∧ d.isSq = true ∧ d'.isSq = true ∧ d.dep ≤ 40 ∧ Q (.bl (if neg then !d.beq d' else d.beq d')) H
theorem op_eqD (K : PySem.W.Frag) (hu : X.A.units + 64 < cLine) (hK : X.K = K := by rfl) : OpR X (compareOp .Eq) (rEqD K false) := by
  subst hK
  intro pins s σ H x y v u Q I rx ry h
  obtain ⟨d, d', h, h', sq, sq', hd, q⟩ := h
  have hA : ∀ e : Dt, e.dep ≤ 40 → X.A.in1.units + e.dep < cLine := fun e he => by show X.A.units + 1 + e.dep < cLine; omega
  have hu' : X.A.units < cLine := by omega
  cases d with
  | tup ds =>
    rw [DatAt] at h
    obtain ⟨a, xs, rfl, q1, hd1⟩ := h
    cases rx
    have ih : ∀ d ∈ ds, ∀ (d' : Dt) (x y : V) (u v : Value), DatAt X.K H x d → DatAt X.K H y d' → RelV x u → RelV y v → SeqAt.EqAt X.A.in1 s u v (d.beq d') := fun d hm d' x y u v h1 h2 r1 r2 =>
      dat_eqAt I d X.A.in1 d' x y u v (hA d (by have := Dt.deps_mem hm; rw [Dt.dep] at hd; omega)) h1 h2 r1 r2
    cases d' with
    | tup ds' =>
      rw [DatAt] at h'
      obtain ⟨b, ys, rfl, q2, hd2⟩ := h'
      cases ry
      exact rc_tuples I q1 q2 hd1 hd2 hu' ih _ _ _ _ ⟨.bl _, H, I, rfl, by simpa [Dt.beq] using q⟩
    | lst ds' =>
      rw [DatAt] at h'
      obtain ⟨b, ys, rfl, q2, hd2⟩ := h'
      cases ry
      obtain ⟨its, _, p, _⟩ := I.tuple q1
      obtain ⟨its2, _, p2, _⟩ := I.list q2
      exact SeqAt.RcAt.tuple_list (show s.heap.IsTuple a its.toArray from p) p2.isList hu' _ _ _ _ ⟨.bl _, H, I, rfl, by simpa [Dt.beq] using q⟩
    | _ => cases sq'
  | lst ds =>
    rw [DatAt] at h
    obtain ⟨a, xs, rfl, q1, hd1⟩ := h
    cases rx
    have ih : ∀ d ∈ ds, ∀ (d' : Dt) (x y : V) (u v : Value), DatAt X.K H x d → DatAt X.K H y d' → RelV x u → RelV y v → SeqAt.EqAt X.A.in1 s u v (d.beq d') := fun d hm d' x y u v h1 h2 r1 r2 =>
      dat_eqAt I d X.A.in1 d' x y u v (hA d (by have := Dt.deps_mem hm; rw [Dt.dep] at hd; omega)) h1 h2 r1 r2
    cases d' with
    | lst ds' =>
      rw [DatAt] at h'
      obtain ⟨b, ys, rfl, q2, hd2⟩ := h'
      cases ry
      exact rc_lists I q1 q2 hd1 hd2 hu' ih _ _ _ _ ⟨.bl _, H, I, rfl, by simpa [Dt.beq] using q⟩
    | tup ds' =>
      rw [DatAt] at h'
      obtain ⟨b, ys, rfl, q2, hd2⟩ := h'
      cases ry
      obtain ⟨its, _, p, _⟩ := I.list q1
      obtain ⟨its2, _, p2, _⟩ := I.tuple q2
      exact SeqAt.RcAt.list_tuple p.isList (show s.heap.IsTuple b its2.toArray from p2) hu' _ _ _ _ ⟨.bl _, H, I, rfl, by simpa [Dt.beq] using q⟩
    | _ => cases sq'
  | _ => cases sq
end
end L2
namespace L2
open PySem PySem.Spec PyProof.Rows
section
variable {X : Cx}
def rTuple (K : PySem.W.Frag) : List V → Hp → VK → Prop := fun xs H Q => ∃ (p : Addr) (ys : List V), xs = [.ref p] ∧ ((SqL K H p ys ∧ ∀ l, H l = none → Q (.ref l) (upd H l (.tup ys))) ∨ (SqT K H p ys ∧ Q (.ref p) H))
theorem call_tupleK (K : PySem.W.Frag) (hK : X.K = K := by rfl) : CallR X (.type "tuple") (rTuple K) := by subst hK; exact call_tuple_of
def Deck (H : Hp) (d : Addr) : Prop := ∃ ms : List Int, H d = some (.lst (ms.map V.int)) ∧ ms ≠ [] ∧ ∀ m ∈ ms, 0 ≤ m
theorem Deck.same {H H' : Hp} {d : Addr} (h : Deck H d) (s : Same H H') : Deck H' d := let ⟨ms, a, b, c⟩ := h; ⟨ms, s _ _ a, b, c⟩
theorem Deck.kb {H H' : Hp} {d e : Addr} (h : Deck H d) (s : KB e H H') (n : d ≠ e) : Deck H' d := let ⟨ms, a, b, c⟩ := h; ⟨ms, s _ _ a n, b, c⟩
theorem Deck.is {H : Hp} {d : Addr} (h : Deck H d) : ∃ xs, H d = some (.lst xs) := let ⟨ms, a, _⟩ := h; ⟨_, a⟩
end
end L2
namespace L2
open PySem
theorem dI {i j : Int} (h : i = j) : decide (V.int i = V.int j) = true := by rw [h]; simp
theorem dIn {i j : Int} (h : i ≠ j) : decide (V.int i = V.int j) = false := by simp [h]
theorem intItem {ns : List Int} {i : Nat} {x : V} (h : (ns.map V.int)[i]? = some x) : ∃ f, x = .int f ∧ ns[i]? = some f := by
  rw [List.getElem?_map] at h
  cases e : ns[i]? with
  | none => rw [e] at h; cases h
  | some f => rw [e] at h; exact ⟨f, (Option.some.inj h).symm, rfl⟩
end L2
set_option Elab.async false
set_option linter.all false
set_option maxRecDepth 100000
set_option maxHeartbeats 4000000
namespace L2
open PySem PySem.Spec PyProof.Rows
theorem strsAre_of {ys : List Str} : ∀ {us : List Value}, Vals (ys.map V.str) us → StrsAre us ys := by
  induction ys with
  | nil => intro us r; cases r; exact .nil
  | cons y ys ih =>
    intro us r
    rw [List.map_cons] at r
    cases r with
    | cons a b =>
      obtain ⟨t, rfl⟩ := a
      exact .cons y t (ih b)
theorem vals_strs : ∀ {us : List Value} {ys : List Str}, StrsAre us ys → Vals (ys.map V.str) us
  | _, _, .nil => .nil
  | _, _, .cons y t r => .cons ⟨t, rfl⟩ (vals_strs r)
theorem join_len (sep : Str) (ys : List Str) (h : (ys.map (·.length)).sum + ys.length * sep.length ≤ 16777216) : (Txt.join sep ys).length ≤ sizeLine := by
  have hok := joinOk_of h
  unfold JoinOk at hok
  rw [Bool.not_eq_true'] at hok
  have e : ys = (ys.map fun y => (y, (0 : Tok))).map (·.1) := by rw [List.map_map]; exact (List.map_id ys).symm
  rw [e] at hok ⊢
  exact joinFit_length hok
section
variable {X : Cx}
def rJoin (K : PySem.W.Frag) : V → List V → Hp → VK → Prop := fun x vs H Q => ∃ (sep : Str) (a : Addr) (ys : List Str), x = .str sep ∧ vs = [.ref a] ∧ SqL K H a (ys.map V.str) ∧ (ys.map (·.length)).sum + ys.length * sep.length ≤ 16777216 ∧ ∀ z : Str, z.length ≤ sizeLine → z = Txt.join sep ys → Q (.str z) H
theorem mt_joinK (K : PySem.W.Frag) (hK : X.K = K := by rfl) : MtM X "str.join" (rJoin K) := by
  subst hK
  intro pins s σ H x vs v us Q I rx rv h
  obtain ⟨sep, a, ys, rfl, rfl, hq, hz, q⟩ := h
  obtain ⟨t, rfl⟩ := rx
  obtain ⟨u, rfl, ru⟩ := rv.one
  cases ru
  obtain ⟨its, r, p, _⟩ := I.list hq
  exact join_list p.isList (show StrsAre its.toArray.toList ys from strsAre_of r) hz fun t' k => ⟨.str _, H, I.tok k, ⟨t', rfl⟩, q _ (join_len sep ys hz) rfl⟩
def rSortS (K : PySem.W.Frag) : List V → Hp → VK → Prop := fun xs H Q => ∃ (a : Addr) (ss : List Str), xs = [.ref a] ∧ SqL K H a (ss.map V.str) ∧ ss.length < 64 ∧
  ∀ (p : Addr) (ss' : List Str), H p = none → ss'.Perm ss → PyProof.Rows.sortedS ss' = true → Q (.ref p) (upd H p (.lst (ss'.map V.str)))
theorem call_sortSK (K : PySem.W.Frag) (hK : X.K = K := by rfl) : CallR X (.builtin "sorted") (rSortS K) := by
  subst hK
  intro pins s σ H xs us Q I r h
  obtain ⟨a, ss, rfl, hq, hl, q⟩ := h
  obtain ⟨u, rfl, ru⟩ := vals1 r
  cases ru
  obtain ⟨its, rv, p, hz⟩ := I.list hq
  have hlen := rv.length
  rw [List.length_map] at hlen
  refine sorted_strs p.isList (strsAre_of rv) (by omega) fun out ss' a1 a2 a3 => ?_
  obtain ⟨e, he⟩ := sortedAll_at s.heap its out
  have hp : s.heap.objs.size ≤ s.heap.objs.size + 1 := Nat.le_succ _
  refine ⟨.ref (s.heap.objs.size + 1), upd H (s.heap.objs.size + 1) (.lst (ss'.map V.str)), ?_, rfl, q _ ss' (I.hok.fresh hp) a2 a3⟩
  refine I.laid (t' := s.toks) (h' := sortedAll s.heap its out) (fun _ _ => sortedAll_old) hp ⟨?_, out.toList, e, vals_strs a1, ?_⟩
  · rw [List.length_map, a2.length_eq]
    rw [List.length_map] at hz
    exact hz
  · rw [he]
    first
      | done
      | rfl
def rSlS : V → Option Int → Option Int → Hp → VK → Prop := fun x lo hi H Q => ∃ z : Str, x = .str z ∧ z.length ≤ sizeLine ∧ Q (.str (Txt.slice z lo hi)) H
theorem isPart_part {v : Value} {o : Option Int} (p : IsPart v o) : ∃ l : Option (Int × Tok), v = partValue l ∧ l.map (·.1) = o := by
  cases p with
  | none => exact ⟨none, rfl, rfl⟩
  | int i t => exact ⟨some (i, t), rfl, rfl⟩
theorem sl_str : SlR X rSlS := by
  intro pins s σ H x v vl vu lo hi sl Q I rx hs pl pu h
  obtain ⟨z, rfl, hz, q⟩ := h
  obtain ⟨t, rfl⟩ := rx
  obtain ⟨l, rfl, hl⟩ := isPart_part pl
  obtain ⟨u, rfl, hu⟩ := isPart_part pu
  subst hl hu
  obtain ⟨o, ho, hc, hd⟩ := hs
  refine ⟨"str", _, PySem.F.slot_str_getitem.lookup, typeIs_str _ _ _, wpAny_getItem_str_slice (l := l) (u := u) (st := none) ⟨o, ho, hc, hd⟩ rfl ?_⟩
  exact post_val_or_str ⟨Nat.le_trans (Txt.slice_le z _ _) hz, fun t' k => ⟨.str _, H, I.tok k, ⟨t', rfl⟩, q⟩⟩
structure TopDict (K : PySem.W.Frag) (P : Params) (a : Addr) (tab : List (Str × Option V)) : Prop where
  ex : ∃ (es : Array DictEntry) (n : Nat), K.lookup a = some ⟨.type "dict", none, .dict es n, #[]⟩ ∧ PySem.W.KeysLit P es.toList ∧ ∀ x r, (x, r) ∈ tab → RelO r (findBy Value.isStrOf es x)
  lo : (a == sysModules) = false
def tTopGet (tab : List (Str × Option V)) (ty tx : TE) : TE := fun σ H Q => ty σ H fun y H1 => tx σ H1 fun z H2 => ∃ x r, y = .str x ∧ (x, r) ∈ tab ∧ Q (r.getD z) H2
theorem pe_topget {x : Str} {p apos cpos : Pos} {e f : Expr} {ty tx : TE} {a : Addr} {tab : List (Str × Option V)} (D : TopDict X.K X.w.params a tab) (hg : Gl X x) (hm : X.mg x = some (.ref a)) (he : PE X e ty) (hf : PE X f tx)
    (m : M2 X (.Name x p) "get" apos e f cpos := by exact ⟨rfl, rfl, rfl, rfl⟩) (hdb : (x == ("__debug__" : Str)) = false := by decide) : PE X (.Call (.Attribute (.Name x p) "get" apos) [e, f] [] cpos) (tTopGet tab ty tx) := by
  intro pins s σ H Q I h
  obtain ⟨es, n, hl, hk, ht⟩ := D.ex
  refine wpAny_Call_method m.base m.few m.line PySem.F.plainAttrs_dict PySem.F.slot_dict_get PySem.F.type_dict_get (ld_glob I hg hm ?_ hdb)
  have hm0 := PySem.W.mapOf_K (prog := X.prog) I.kIn hl hk
  refine ⟨hm0.typeIs, hm0.noDict, ?_⟩
  rw [m.trees]
  refine Calls.callWith_builtin rfl (Calls.evalArgs_plain (Calls.spliced_cons (thn (he pins s σ H _ I h) fun iv s2 ⟨y, H2, I2, ry, q2⟩ =>
    Calls.spliced_cons (thn (hf pins s2 σ H2 _ I2 q2) fun fv s3 ⟨z, H3, I3, rz, x', r, ey, hmem, q3⟩ => Calls.spliced_nil ?_))))
  subst ey
  obtain ⟨t, rfl⟩ := ry
  have hm3 := PySem.W.mapOf_K (prog := X.prog) I3.kIn hl hk
  refine call_meetsIn PySem.F.slot_dict_get hm3.typeIs PySem.F.entry_dict_get (PySem.F.args_dict_get_3 _ _ _) (meets_dict_get_default (strKind X.prog X.w) a (strKind_is X.prog X.w x' t) D.lo fv) ⟨_, hm3, ?_⟩
  refine ⟨r.getD z, H3, I3.tok _, ?_, q3⟩
  have := ht x' r hmem
  cases r with
  | none =>
    rw [this.none_of]
    exact rz
  | some v =>
    obtain ⟨u, eu, ru⟩ := this.some_of
    rw [eu]
    exact ru
theorem sqT_top {K : PySem.W.Frag} {H : Hp} {a : Addr} {xs : List V} {us : List Value} {n : Nat} (h : K.lookup a = some ⟨.type "tuple", none, .seq us.toArray n, #[]⟩) (r : Vals xs us) (hz : xs.length ≤ sizeLine) : SqT K H a xs :=
  .inr ⟨_, us.toArray, n, h, rfl, rfl, by rw [List.size_toArray, ← r.length]; exact hz, by simpa using r⟩
end
section
variable {X : Cx}
end
mutual
def Dt.noL : Dt → Bool
  | .lst _ => false
  | .tup xs => Dt.noLs xs
  | _ => true
def Dt.noLs : List Dt → Bool
  | [] => true
  | x :: xs => x.noL && Dt.noLs xs
end
def KTs (K : PySem.W.Frag) (H H' : Hp) : Prop := ∀ a xs, SqT K H a xs → SqT K H' a xs
theorem KTs.refl {K : PySem.W.Frag} (H : Hp) : KTs K H H := fun _ _ h => h
theorem KTs.trans {K : PySem.W.Frag} {H H1 H2 : Hp} (a : KTs K H H1) (b : KTs K H1 H2) : KTs K H H2 := fun c o h => b c o (a c o h)
theorem Same.kts {K : PySem.W.Frag} {H H' : Hp} (s : Same H H') : KTs K H H' := fun _ _ h => s.seqT h
theorem KB.kts {K : PySem.W.Frag} {d : Addr} {xs : List V} {H H' : Hp} (h : H d = some (.lst xs)) (k : KB d H H') : KTs K H H' := fun a ys e => by
  rcases e with (e | ⟨o, e⟩) | e
  · exact .inl (.inl (k _ _ e (ne_of e h (fun z => nomatch z))))
  · exact .inl (.inr ⟨o, k _ _ e (ne_of e h (fun z => nomatch z))⟩)
  · exact .inr e
theorem dat_stay {K : PySem.W.Frag} {H H' : Hp} (k : KTs K H H') (d : Dt) : ∀ x : V, d.noL = true → DatAt K H x d → DatAt K H' x d := by
  induction d using Dt.rec (motive_2 := fun ds => ∀ xs : List V, Dt.noLs ds = true → DatsAt K H xs ds → DatsAt K H' xs ds) with
  | non => intro x _ h; simpa [DatAt] using h
  | bl b => intro x _ h; simpa [DatAt] using h
  | int b => intro x _ h; simpa [DatAt] using h
  | str b => intro x _ h; simpa [DatAt] using h
  | tup ds ih =>
    intro x hn h
    rw [DatAt] at h ⊢
    rw [Dt.noL] at hn
    obtain ⟨a, xs, e, q, hd⟩ := h
    exact ⟨a, xs, e, k _ _ q, ih xs hn hd⟩
  | lst ds ih => intro x hn; simp [Dt.noL] at hn
  | nil =>
    rename_i xs hn h
    cases xs with
    | nil => simp [DatsAt]
    | cons _ _ => simp [DatsAt] at h
  | cons d ds h1 h2 =>
    rename_i xs hn h
    rw [Dt.noLs, Bool.and_eq_true] at hn
    cases xs with
    | nil => simp [DatsAt] at h
    | cons x xs =>
      rw [DatsAt] at h ⊢
      exact ⟨h1 x hn.1 h.1, h2 xs hn.2 h.2⟩
theorem dats_stay {K : PySem.W.Frag} {H H' : Hp} (k : KTs K H H') : ∀ (ds : List Dt) (xs : List V), Dt.noLs ds = true → DatsAt K H xs ds → DatsAt K H' xs ds
  | [], xs, _, h => by
    cases xs with
    | nil => simp [DatsAt]
    | cons _ _ => simp [DatsAt] at h
  | d :: ds, xs, hn, h => by
    rw [Dt.noLs, Bool.and_eq_true] at hn
    cases xs with
    | nil => simp [DatsAt] at h
    | cons x xs =>
      rw [DatsAt] at h ⊢
      exact ⟨dat_stay k d x hn.1 h.1, dats_stay k ds xs hn.2 h.2⟩
theorem dat_int {K : PySem.W.Frag} {H : Hp} {i : Int} : DatAt K H (.int i) (.int i) := by rw [DatAt]
theorem dat_str {K : PySem.W.Frag} {H : Hp} {z : Str} : DatAt K H (.str z) (.str z) := by rw [DatAt]
theorem dat_tup {K : PySem.W.Frag} {H : Hp} {a : Addr} {xs : List V} {ds : List Dt} (h : SqT K H a xs) (d : DatsAt K H xs ds) : DatAt K H (.ref a) (.tup ds) := by rw [DatAt]; exact ⟨a, xs, rfl, h, d⟩
theorem dat_lst {K : PySem.W.Frag} {H : Hp} {a : Addr} {xs : List V} {ds : List Dt} (h : SqL K H a xs) (d : DatsAt K H xs ds) : DatAt K H (.ref a) (.lst ds) := by rw [DatAt]; exact ⟨a, xs, rfl, h, d⟩
theorem dats_nil {K : PySem.W.Frag} {H : Hp} : DatsAt K H [] [] := by simp [DatsAt]
theorem dats_cons {K : PySem.W.Frag} {H : Hp} {x : V} {xs : List V} {d : Dt} {ds : List Dt} (h : DatAt K H x d) (t : DatsAt K H xs ds) : DatsAt K H (x :: xs) (d :: ds) := by rw [DatsAt]; exact ⟨h, t⟩
theorem dats_app {K : PySem.W.Frag} {H : Hp} : ∀ {xs ys : List V} {ds es : List Dt}, DatsAt K H xs ds → DatsAt K H ys es → DatsAt K H (xs ++ ys) (ds ++ es)
  | [], _, [], _, _, h => h
  | [], _, _ :: _, _, h, _ => by simp [DatsAt] at h
  | _ :: _, _, [], _, h, _ => by simp [DatsAt] at h
  | x :: xs, _, d :: ds, _, h, g => by
    rw [DatsAt] at h
    exact dats_cons h.1 (dats_app h.2 g)
theorem dats_strs {K : PySem.W.Frag} {H : Hp} : ∀ (ys : List Str), DatsAt K H (ys.map V.str) (ys.map Dt.str)
  | [] => dats_nil
  | y :: ys => dats_cons dat_str (dats_strs ys)
theorem noLs_app : ∀ (ds es : List Dt), Dt.noLs (ds ++ es) = (Dt.noLs ds && Dt.noLs es)
  | [], es => by simp [Dt.noLs]
  | d :: ds, es => by rw [List.cons_append, Dt.noLs, Dt.noLs, noLs_app ds es, Bool.and_assoc]
theorem strItem {ns : List Str} {i : Nat} {x : V} (h : (ns.map V.str)[i]? = some x) : ∃ f, x = .str f ∧ ns[i]? = some f := by
  rw [List.getElem?_map] at h
  cases e : ns[i]? with
  | none => rw [e] at h; cases h
  | some f => rw [e] at h; exact ⟨f, (Option.some.inj h).symm, rfl⟩
end L2
namespace L2
theorem seq_const {v : V} {i : Nat} {u : TS} {D : Ends} {σ : St} {H : Hp} (h : u D (σ.set i (some v)) H) : tSeq (tAsg (tC v) (gName i)) u D σ H := h
end L2
namespace L2
open PySem
def KB2 (d e : Addr) (H H' : Hp) : Prop := ∀ b o, H b = some o → b ≠ d → b ≠ e → H' b = some o
theorem KB2.trans {d e : Addr} {H H1 H2 : Hp} (a : KB2 d e H H1) (b : KB2 d e H1 H2) : KB2 d e H H2 := fun c o h n m => b c o (a c o h n m) n m
theorem KB.l {d e : Addr} {H H' : Hp} (k : KB d H H') : KB2 d e H H' := fun b o h n _ => k b o h n
theorem KB.r {d e : Addr} {H H' : Hp} (k : KB e H H') : KB2 d e H H' := fun b o h _ n => k b o h n
theorem Same.kb2 {d e : Addr} {H H' : Hp} (s : Same H H') : KB2 d e H H' := fun b o h _ _ => s b o h
theorem KB2.kts {K : PySem.W.Frag} {d e : Addr} {xs ys : List V} {H H' : Hp} (hd : H d = some (.lst xs)) (he : H e = some (.lst ys)) (k : KB2 d e H H') : KTs K H H' := fun a zs z => by
  rcases z with (z | ⟨o, z⟩) | z
  · exact .inl (.inl (k _ _ z (ne_of z hd (fun z => nomatch z)) (ne_of z he (fun z => nomatch z))))
  · exact .inl (.inr ⟨o, k _ _ z (ne_of z hd (fun z => nomatch z)) (ne_of z he (fun z => nomatch z))⟩)
  · exact .inr z
theorem KB2.seq {K : PySem.W.Frag} {d e : Addr} {H H' : Hp} {a : Addr} {xs : List V} (k : KB2 d e H H') (n : a ≠ d) (m : a ≠ e) (h : SqL K H a xs) : SqL K H' a xs := by
  rcases h with (h | ⟨o, h⟩) | h
  · exact .inl (.inl (k _ _ h n m))
  · exact .inl (.inr ⟨o, k _ _ h n m⟩)
  · exact .inr h
theorem FnOk.none {P : Program} {w : World} {K : PySem.W.Frag} {mg : Str → Option Value} {base : Heap} {CX : CXT} {k : Nat} {f : Addr} {fd : FuncData} {ps : List Str} {sp : Sp} (h : ∀ vs H Q E, ¬ sp vs H Q E) : FnOk P w K mg base CX k f fd ps sp :=
  ⟨fun vs H Q E q => (h _ _ _ _ q).elim, fun A outer s H args us vs Q E _ _ _ _ hs => (h _ _ _ _ hs).elim⟩
end L2
set_option Elab.async false
set_option linter.all false
set_option maxRecDepth 100000
set_option maxHeartbeats 4000000
namespace L2
open PySem PySem.Spec PyProof.Rows
section
variable {prog : Program} {w : World} {A : Around} {s : Shared} {R : Result → Shared → Prop}
end
section
variable {prog : Program} {w : World} {A : Around} {E : Value → Shared → Prop} {s : Shared}
end
theorem paired_reverse {α β : Type} {r : α → β → Prop} {xs : List α} {ys : List β} (h : Paired r xs ys) : Paired r xs.reverse ys.reverse := by
  induction h with
  | nil => exact .nil
  | cons a _ ih => rw [List.reverse_cons, List.reverse_cons]; exact paired_append ih (.cons a .nil)
section
variable {X : Cx}
end
section
variable {prog : Program} {w : World} {A : Around} {R : Result → Shared → Prop} {I : Addr} {fp wr : List Addr} {St : Nat → Heap → Prop} {its : Array Value} {val : Nat → Int} {kw : List (Str × Value)}
end
section
variable {prog : Program} {w : World} {A : Around} {E : Value → Shared → Prop} {s : Shared}
end
section
variable {X : Cx}
end
end L2
set_option Elab.async false
set_option linter.all false
set_option maxRecDepth 100000
set_option maxHeartbeats 4000000
namespace L2
open PySem PySem.Spec PyProof.Rows
open AutoSeq1 (wpAny_loadPart')
section
variable {prog : Program} {w : World} {A : Around} {E : Value → Shared → Prop} {s : Shared}
end
section
variable {prog : Program} {w : World} {A : Around} {E : Value → Shared → Prop} {s : Shared}
end
end L2
set_option Elab.async false
set_option linter.all false
set_option maxRecDepth 100000
set_option maxHeartbeats 4000000
namespace L2
open PySem PySem.Spec PyProof.Rows
section
variable {X : Cx}
def rAll (K : PySem.W.Frag) : List V → Hp → VK → Prop := fun xs H Q => ∃ (a : Addr) (bs : List Bool), xs = [.ref a] ∧ SqL K H a (bs.map V.bl) ∧ Q (.bl (bs.all id)) H
theorem vals_bools {bs : List Bool} {its : List Value} (r : Vals (bs.map V.bl) its) : its = bs.map Value.bool := by
  induction bs generalizing its with
  | nil => cases r; rfl
  | cons b bs ih =>
    cases r with
    | cons r1 r2 =>
      rw [List.map_cons, ih r2]
      exact congrArg (· :: _) r1
theorem call_allK (K : PySem.W.Frag) (hc : X.calm = true) (hK : X.K = K := by rfl) : CallR X (.builtin "all") (rAll K) := by
  subst hK
  intro pins s σ H xs us Q I r h
  obtain ⟨a, bs, rfl, hq, q⟩ := h
  obtain ⟨u, rfl, ru⟩ := vals1 r
  cases ru
  obtain ⟨its, rv, p, _⟩ := I.list hq
  have e := vals_bools rv
  have bl : a < s.heap.objs.size := by obtain ⟨o, e, _⟩ := p.isList; exact Heap.lt_size e
  refine call_all_walk ?_
  refine wpAny_pyIter_list p.isList ?_
  refine ⟨s.heap.objs.size, _, _, _, _, _, fun i => (bs.getD i false), rfl, Walks.list (A := X.A.in1) (I.ok.hd hc) _ a (Nat.ne_of_lt bl) its.toArray, ⟨⟨_, Heap.get?_push_size _ rfl, rfl, rfl⟩, p.isList.push _⟩, ?_, fun h' tk k => ?_⟩
  · intro i v s' Q' E' hv hQ'
    have : v = .bool (bs.getD i false) := by
      rw [List.getElem?_toArray, e, List.getElem?_map] at hv
      rw [List.getD_eq_getElem?_getD]
      cases eb : bs[i]? with
      | none => rw [eb] at hv; cases hv
      | some b => rw [eb] at hv; exact (Option.some.inj hv).symm
    rw [this]
    exact wpAny_truthy_bool hQ'
  · refine ⟨.bl (bs.all id), H, I.kept fun b o eo => k b o (fun z => Nat.ne_of_lt (Heap.lt_size eo) (List.mem_singleton.mp z)) (Heap.get?_push_of_some _ eo), ?_, q⟩
    have hl : its.toArray.size = bs.length := by simp [e]
    have ea : ∀ cs : List Bool, (List.range cs.length).all (fun i => cs.getD i false) = cs.all id := fun cs => by
      induction cs with
      | nil => rfl
      | cons c cs ih =>
        rw [List.length_cons, List.range_succ_eq_map, List.all_cons, List.all_map, List.all_cons, ← ih]
        rfl
    show _ = Value.bool _
    rw [hl, ea]
theorem strsAre_by : ∀ {vs : List Value} {ss : List Str}, vs.length = ss.length → (∀ (i : Nat) (v : Value) (x : Str), vs[i]? = some v → ss[i]? = some x → ∃ t, v = .str x t) → StrsAre vs ss
  | [], [], _, _ => .nil
  | [], _ :: _, h, _ => by cases h
  | _ :: _, [], h, _ => by cases h
  | v :: vs, x :: ss, h, k => by
    obtain ⟨t, rfl⟩ := k 0 v x rfl rfl
    exact .cons x t (strsAre_by (Nat.succ.inj h) fun i v y e1 e2 => k (i + 1) v y e1 e2)
end
end L2
set_option Elab.async false
set_option linter.all false
set_option maxRecDepth 100000
set_option maxHeartbeats 4000000
namespace L2
open PySem PySem.Spec PyProof.Rows
section
variable {X : Cx} {pins : List (Addr × Obj)} {σ : List (Option V)} {H : Hp} {s : Shared}
end
section
variable {X : Cx} {tg : Expr}
end
section
variable {X : Cx}
def rDict : List V → Hp → VK → Prop := fun xs H Q => ∃ (d : Addr) (kvs : List (Key × V)), xs = [.ref d] ∧ Rd H d (.dK kvs) ∧ ∀ p, H p = none → Q (.ref p) (upd H p (.dK kvs))
theorem call_dictK : CallR X (.type "dict") rDict := by
  intro pins s σ H xs us Q I r h
  obtain ⟨d, kvs, rfl, hd, q⟩ := h
  obtain ⟨u, rfl, ru⟩ := vals1 r
  cases ru
  obtain ⟨hz, lo, vs, rel, dd⟩ := dk_rd I.hok hd
  have hl : kvs.length = vs.length := rel.length
  refine kt_call_dict lo dd (by omega) fun h' dn sb => ?_
  have kp : ∀ b u, s.heap.get? b = some u → h'.get? b = some u := fun b u e => (sb.2 b (Nat.ne_of_lt (Heap.lt_size e))).trans (Heap.get?_push_of_some _ e)
  have bg : (s.heap.objs.size == sysModules) = false := beq_eq_false_iff_ne.mpr (Ne.symm (Nat.ne_of_lt I.big))
  exact ⟨.ref s.heap.objs.size, _, I.laid (a := s.heap.objs.size) (o := .dK kvs) (t' := s.toks) kp (Nat.le_refl _) ⟨hz, bg, vs, rel, dn⟩, rfl, q _ (I.hok.fresh (Nat.le_refl _))⟩
end
theorem valueAt_mem {vs : List (Key × Value)} (hn : (vs.map (·.1)).Nodup) {k : Key} {v : Value} (h : (k, v) ∈ vs) : valueAt vs k = some v := by
  induction vs with
  | nil => cases h
  | cons p vs ih =>
    rw [List.map_cons, List.nodup_cons] at hn
    unfold valueAt
    rw [List.find?_cons]
    rcases List.mem_cons.mp h with z | z
    · subst z
      simp
    · have ne : ¬ p.1 = k := fun e => hn.1 (e ▸ List.mem_map.mpr ⟨(k, v), z, rfl⟩)
      simp only [ne, decide_false]
      exact ih hn.2 z
section
variable {X : Cx}
end
end L2
set_option Elab.async false
set_option linter.all false
set_option maxRecDepth 100000
set_option maxHeartbeats 4000000
namespace L2
open PySem PySem.Spec PyProof.Rows
section
variable {X : Cx} {pins : List (Addr × Obj)} {σ : List (Option V)} {H : Hp} {s : Shared} {h' : Heap}
end
section
variable {X : Cx} {tg : Expr}
end
end L2
namespace L2
open PySem PySem.Spec PyProof.Rows
open PySem.AutoSeq1 (wpAny_loadPart')
open PySem.MeetsSeq PySem.MeetsSeq2 PySem.MeetsSeq3
section
variable {prog : Program} {w : World} {A : Around} {E : Value → Shared → Prop} {s : Shared}
end
section
variable {X : Cx}
end
end L2
set_option Elab.async false
set_option linter.all false
set_option maxRecDepth 100000
set_option maxHeartbeats 4000000
namespace L2
open PySem PySem.Spec PyProof.Rows
structure SetS (P : Program) (w : World) (h : Heap) (a : Addr) (es : Array (Int × Value)) (ep : Nat) (t : SetTable) (ks : List Str) : Prop where
  obj : ∃ o, h.get? a = some o ∧ o.ExactSet ∧ o.data = .set es ep t
  elems : ElemsOf (strKind P w) es.toList
  small : es.size < scanBound
  fits : t.fits es.size = true
  led : t.led = !w.params.followText "set-order"
  plain : es.size ≠ 0 → t.plain = false
  vals : StrsAre (es.toList.map (·.2)) ks
  once : ks.Nodup
theorem SetS.at {P : Program} {w : World} {h h' : Heap} {a : Addr} {es : Array (Int × Value)} {ep : Nat} {t : SetTable} {ks : List Str} (s : SetS P w h a es ep t ks) (k : ∀ o, h.get? a = some o → h'.get? a = some o) : SetS P w h' a es ep t ks := by
  obtain ⟨o, e, r⟩ := s.obj
  exact ⟨⟨o, k o e, r⟩, s.elems, s.small, s.fits, s.led, s.plain, s.vals, s.once⟩
theorem SetS.len {P : Program} {w : World} {h : Heap} {a : Addr} {es : Array (Int × Value)} {ep : Nat} {t : SetTable} {ks : List Str} (s : SetS P w h a es ep t ks) : es.size = ks.length := by
  have := s.vals.length
  rw [List.length_map, Array.length_toList] at this
  exact this
section
variable {P : Program} {w : World} {A : Around} {E : Value → Shared → Prop} {s : Shared}
end
end L2
set_option Elab.async false
set_option linter.all false
set_option maxRecDepth 100000
set_option maxHeartbeats 4000000
namespace L2
open PySem PySem.Spec PyProof.Rows
section
variable {P : Program} {w : World} {A : Around} {R : Result → Shared → Prop} {I S : Addr} {fp wr : List Addr} {G : Array GenState → Array GenState → Prop} {n : Nat} {Pv : Nat → Value → Prop} {St : Nat → Shared → Prop}
end
section
variable {P : Program} {w : World} {A : Around} {E : Value → Shared → Prop} {s : Shared}
end
end L2
set_option Elab.async false
set_option linter.all false
set_option maxRecDepth 100000
set_option maxHeartbeats 4000000
namespace L2
open PySem PySem.Spec PyProof.Rows
namespace SI
end SI
section
variable {P : Program} {w : World} {A : Around} {E : Value → Shared → Prop} {s : Shared}
end
section
variable {P : Program} {w : World} {A : Around} {E : Value → Shared → Prop}
end
end L2
set_option Elab.async false
set_option linter.all false
set_option maxRecDepth 100000
set_option maxHeartbeats 4000000
namespace L2
open PySem PySem.Spec PyProof.Rows
section
variable {P : Program} {w : World} {A : Around} {E : Value → Shared → Prop} {s : Shared}
end
section
variable {X : Cx}
end
end L2
set_option Elab.async false
set_option linter.all false
set_option maxRecDepth 100000
set_option maxHeartbeats 4000000
namespace L2
open PySem PySem.Spec PyProof.Rows
open PySem.AutoSeq1 (wpAny_loadPart')
section
variable {X : Cx}
end
theorem inV_strs (x : Str) (l : List Str) : inV (.str x) (l.map V.str) = decide (x ∈ l) := by
  induction l with
  | nil => rfl
  | cons y l ih =>
    unfold inV at ih ⊢
    rw [List.map_cons, List.any_cons, ih]
    show ((y == x) || _) = _
    by_cases e : y = x
    · simp [e]
    · have e' : ¬ x = y := fun z => e z.symm
      simp [e, e']
end L2
set_option Elab.async false
set_option linter.all false
set_option maxRecDepth 100000
namespace L2
open PySem PySem.Spec PyProof.Rows
section
variable {M : Model} {A : Around} {E : Value → Shared → Prop} {s : Shared} {base : Heap} {env : Env} {outer : List Env} {L e : Addr} {oe : Obj} {vs : Array Value} {Q : Unit → Shared → Prop}
end
end L2
set_option Elab.async false
set_option linter.all false
set_option maxRecDepth 100000
namespace L2
open PySem PySem.Spec PyProof.Rows
def ExcO (fresh : Bool) (a C : Addr) (dx : Option Addr) : Heap → Prop := fun h =>
  ∃ o vs, h.get? a = some o ∧ o.cls = .ref C ∧ o.dict = dx ∧ o.data = .fields vs ∧ vs.size = 6 ∧ (fresh = true → vs[1]? = some .none)
abbrev xo (fresh : Bool) (a C : Addr) (dx : Option Addr) : HO := .ext (ExcO fresh a C dx)
def Fly (n : Nat) (a : Addr) (H : Hp) (h : Heap) : Prop := ∃ o vs T oT ts, h.get? a = some o ∧ o.data = .fields vs ∧ vs[1]? = some (.ref T) ∧ T ≠ a ∧ n ≤ T ∧ H T = none ∧ h.get? T = some oT ∧ oT.data = .fields ts ∧ ts[3]? = some .none
theorem Fly.mono {n m : Nat} {a : Addr} {H : Hp} {h : Heap} (x : Fly n a H h) (q : m ≤ n) : Fly m a H h := by
  obtain ⟨o, vs, T, oT, ts, e1, e2, e3, e4, e5, r⟩ := x
  exact ⟨o, vs, T, oT, ts, e1, e2, e3, e4, Nat.le_trans q e5, r⟩
section
variable {X : Cx} {pins : List (Addr × Obj)} {σ : St} {H : Hp} {s : Shared} {h' : Heap} {a C T : Addr} {dx : Option Addr} {f : Bool} {oe : Obj} {hd : Option Addr}
end
def CXR (P : Program) (w : World) : CXT := fun outer H s E e s' => ∃ a C dx H', e = .ref a ∧ s'.os = s.os ∧ AllBare s'.gens ∧ Un (frs outer) [] H H' s.heap s'.heap ∧ HOk P w H' s'.heap ∧
  H' a = some (xo false a C dx) ∧ Fly s.heap.objs.size a H' s'.heap ∧ E (.ref a) dx H'
section
variable {P : Program} {w : World} {K : PySem.W.Frag} {mg : Str → Option Value} {base : Heap} {N : List Str} {qual : Str} {scope : Scope} {fa : Addr} {cd : Value} {A : Around} {outer : List Env} {s₀ : Shared} {H₀ : Hp} {E : XK}
theorem CXR.after {X : Cx} {pins : List (Addr × Obj)} {σ : St} {H : Hp} {s s' : Shared} {e : Value} {E' : XK} (I : Inv X pins σ H s) (c : CXR X.prog X.w X.stack H s E' e s') :
    ∃ a C dx H', e = .ref a ∧ Inv X pins σ H' s' ∧ H' a = some (xo false a C dx) ∧ Fly s.heap.objs.size a H' s'.heap ∧ E' (.ref a) dx H' := by
  obtain ⟨a, C, dx, H', e, os, bare, un, hok, Ha, fl, hE⟩ := c
  exact ⟨a, C, dx, H', e, I.call' (ch := []) os un hok bare (fun b z => absurd z (by simp)), Ha, fl, hE⟩
end
end L2
set_option Elab.async false
set_option linter.all false
set_option maxRecDepth 100000
set_option maxHeartbeats 1000000
namespace L2
open PySem PySem.Spec PyProof.Rows PySem.W PySem.Builtin PySem.Builtin.ObjectAttr
abbrev veM : List Value := [.type "ValueError", .type "Exception", .type "BaseException", .type "object"]
structure XC (K : PySem.W.Frag) (C : Addr) (bm : List Value) : Prop where
  obj : ∃ nm q N bs sn sub ab col dd k0 k1 k2 k3 k5, K.lookup C = some (excClassObj nm q C N bs bm true sn sub ab col dd k0 k1 k2 k3 k5 "ValueError.__new__")
  tl : tailIn K veM bm = true
  rf : ∀ self : Value, refuseLoop self "__setattr__" bm = pure ()
  ga : findIn K (.ref C) "__getattribute__" = some (some (.builtin "BaseException.__getattribute__"))
  gh : findIn K (.ref C) "__getattr__" = some none
  sa : findIn K (.ref C) "__setattr__" = some (some (.builtin "object.__setattr__"))
  cl : findIn K (.ref C) "__class__" = some (some (.builtin "object.__class__"))
  gt : specialIn K (.builtin "object.__class__") "__get__" = some (some (.builtin "getset_descriptor.__get__"))
  tk : takesIn K (.builtin "object.__class__") = some true
namespace XC
variable {K : PySem.W.Frag} {C : Addr} {bm : List Value}
theorem cls (c : XC K C bm) : ∃ cd, clsIn K C = some cd ∧ cd.mro = .ref C :: bm ∧ cd.hasDict = true := by
  obtain ⟨nm, q, N, bs, sn, sub, ab, col, dd, k0, k1, k2, k3, k5, e⟩ := c.obj
  unfold clsIn
  rw [e]
  exact ⟨_, rfl, rfl, rfl⟩
theorem mro (c : XC K C bm) (v : Value) : mroIn K C v = some ((Value.ref C :: bm).contains v) := by
  obtain ⟨cd, e, m, _⟩ := c.cls
  unfold mroIn
  rw [e, Option.bind_some, m]
  rfl
theorem tail (c : XC K C bm) {h : Heap} (X : K.In h) : OwnTail h veM bm := tail_of_in X c.tl
theorem has (c : XC K C bm) {h : Heap} (X : K.In h) {T : String} {b : Bool} (e : veM.contains (.type T) = b) : mroIn K C (.type T) = some b := by
  rw [c.mro, List.contains_cons, (c.tail X).hasType e]
  rfl
end XC
section
variable {prog : Program} {w : World} {A : Around} {E : Value → Shared → Prop} {s : Shared} {K : PySem.W.Frag} {x C D fI : Addr} {bm bmD : List Value} {ox : Obj} {od : Option Obj} {name : Str} {v : Value}
end
end L2
set_option Elab.async false
set_option linter.all false
set_option maxRecDepth 100000
set_option maxHeartbeats 1000000
namespace L2
open PySem PySem.Spec PyProof.Rows PySem.W
section
variable {prog : Program} {w : World} {A : Around} {E : Value → Shared → Prop} {K : PySem.W.Frag} {x C D fI : Addr} {bm bmD : List Value} {ox : Obj} {hp : Heap} {g : Array GenState} {d : Drawn} {t : Nat} {os : OsState}
end
end L2
set_option Elab.async false
set_option linter.all false
set_option maxRecDepth 100000
set_option maxHeartbeats 1000000
namespace L2
open PySem PySem.Spec PyProof.Rows
section
variable {X : Cx} {pins : List (Addr × Obj)} {σ : St} {H : Hp} {s : Shared} {a C D dx : Addr} {bm bmD : List Value} {f : Bool} {od : Option Addr}
end
section
variable {X : Cx} {e : Expr} {n : Str} {pos : Pos} {ta : TE}
end
end L2
set_option Elab.async false
set_option linter.all false
set_option maxRecDepth 100000
set_option maxHeartbeats 1000000
namespace L2
open PySem PySem.Spec PyProof.Rows
section
variable {X : Cx} {k : Nat} {e : Expr} {te : TE} {a b : Str} {j j' : Nat} {p1 p2 p3 pos : Pos}
end
section
variable {X : Cx} {D : Addr} {x : Str} {p pos apos : Pos} {e : Expr} {es : List Expr} {t : TA}
end
section
variable {X : Cx} {o value : Expr} {n : Str} {pos pos' : Pos} {ta tv : TE}
end
end L2
set_option Elab.async false
set_option linter.all false
set_option maxRecDepth 100000
set_option maxHeartbeats 1000000
namespace L2
open PySem PySem.Spec PyProof.Rows
section
variable {X : Cx} {k : Nat} {C fI : Addr} {bm : List Value} {fd : FuncData} {ps : List Str} {sp : Sp} {x : Str} {p pos : Pos} {e : Expr} {es : List Expr} {t : TA}
end
abbrev Cx.suite (X : Cx) (a : Addr) : Cx := { X with A := X.A.mark (some (.ref a)), calm := false, xe := fun _ _ => False }
section
variable {X : Cx} {pins : List (Addr × Obj)} {σ : St} {H : Hp} {s : Shared} {a : Addr}
theorem Inv.suite (I : Inv X pins σ H s) (a : Addr) : Inv (X.suite a) pins σ H s :=
  ⟨⟨I.ok.mod, I.ok.kind, I.ok.glob, I.ok.blt, I.ok.above, I.ok.inj, I.ok.has, I.ok.cab, fun z => (by cases z), I.ok.frames, I.ok.stk, I.ok.exf, I.ok.bs, I.ok.bsz, I.ok.noex, I.ok.exfs, I.ok.funs, I.ok.frf⟩, I.os, I.bare, I.base, I.loc, I.cell, I.free, I.freeC, I.pin, I.hok, I.len⟩
end
section
variable {X : Cx} {k : Nat} {D f : Addr} {bmD : List Value} {fd : FuncData} {ps : List Str} {sp : Sp} {x y n dn : Str} {px pf pc pa pd ph pos : Pos} {e : Expr} {es : List Expr} {t : TA} {i j : Nat} {b₀ : Stmt} {suite : List Stmt} {ts : TS}
end
end L2
set_option Elab.async false
set_option linter.all false
set_option maxRecDepth 100000
set_option maxHeartbeats 1000000
namespace L2
open PySem PySem.Spec PyProof.Rows
end L2
set_option Elab.async false
set_option linter.all false
set_option maxRecDepth 100000
set_option maxHeartbeats 1000000
namespace HT
open PySem PySem.Spec PyProof.Rows
section
variable {prog : Program} {w : World} {A : Around} {E : Value → Shared → Prop} {s : Shared}
end
end HT
namespace L2
open PySem PySem.Spec PyProof.Rows
section
variable {X : Cx}
end
end L2
set_option Elab.async false
set_option linter.all false
set_option maxRecDepth 100000
set_option maxHeartbeats 1000000
namespace L2
open PySem PySem.Spec PyProof.Rows
section
variable {X : Cx} {o e : Expr} {es : List Expr} {to ta : TE} {t : TA} {T : String} {name n : Str} {id : String} {apos cpos pos : Pos} {r : V → List V → Hp → VK → Prop}
end
end L2
set_option Elab.async false
set_option linter.all false
set_option maxRecDepth 100000
set_option maxHeartbeats 1000000
namespace L2
open PySem PySem.Spec PyProof.Rows
section
variable {prog : Program} {w : World} {A : Around} {E : Value → Shared → Prop} {s : Shared}
end
section
variable {X : Cx} {pos : Pos}
end
section
variable {X : Cx}
def rListD : List V → Hp → VK → Prop := fun xs H Q => ∃ (d : Addr) (kvs : List (Key × V)) (ss : List Str), xs = [.ref d] ∧ H d = some (.dK kvs) ∧ kvs.map (·.1) = ss.map Sum.inr ∧ ss.length < 64 ∧
  ∀ p, H p = none → Q (.ref p) (upd H p (.lst (ss.map V.str)))
theorem call_listD (hc : X.calm = true) : CallR X (.type "list") rListD := by
  intro pins s σ H xs us Q I r h
  obtain ⟨d, kvs, ss, rfl, hd, hk, h64, q⟩ := h
  obtain ⟨u, rfl, ru⟩ := vals1 r
  cases ru
  obtain ⟨hz, lo, vs, rel, dd⟩ := dk_of I.hok hd
  obtain ⟨ep, hat⟩ := dd.dictAt
  have hlk : kvs.length = ss.length := by have := congrArg List.length hk; simpa using this
  have hlv : kvs.length = vs.length := rel.length
  have hks : ∀ (i : Nat) (k : Key) (x : Value), vs[i]? = some (k, x) → ∃ y, ss[i]? = some y ∧ k = Sum.inr y := fun i k x e => by
    have h1 : (vs.map (·.1))[i]? = some k := by rw [List.getElem?_map, e]; rfl
    have h2 : vs.map (·.1) = ss.map Sum.inr := by
      rw [← hk]
      have : ∀ {l : List (Key × V)} {m : List (Key × Value)}, KV l m → m.map (·.1) = l.map (·.1) := fun {l m} q => by
        unfold KV at q
        induction q with
        | nil => rfl
        | cons a _ ih => rw [List.map_cons, List.map_cons, ih, a.1]
      exact this rel
    rw [h2, List.getElem?_map] at h1
    cases es : ss[i]? with
    | none => rw [es] at h1; cases h1
    | some y => rw [es] at h1; exact ⟨y, rfl, (Option.some.inj h1).symm⟩
  have src := PySem.W.kdl_dict (prog := X.prog) (w := X.w) (knd := mixKind X.prog X.w) (kvs := vs) (ep := ep) lo
  have hlt := src.there _ hat
  refine callType_codes (Q₁ := fun obj s₁ => obj = .ref s.heap.objs.size ∧ s₁ = { s with heap := s.heap.push { cls := .type "list", data := .seq #[] } }) F.called_list (F.typeCall_list_1 _) F.entry_list_init
    (code_list_new _ ⟨rfl, rfl⟩) fun obj s₁ h₁ => ?_
  obtain ⟨rfl, rfl⟩ := h₁
  have hS : (s.heap.push { cls := .type "list", data := .seq #[] }).get? s.heap.objs.size = some { cls := .type "list", data := .seq #[] } := Heap.get?_push_size _ rfl
  refine ⟨⟨_, hS, rfl⟩, F.args_list_init_2 _ _, ?_⟩
  show wpAny _ _ (do let old ← Builtin.List.listItems (.ref s.heap.objs.size); Builtin.List.listUpdate (.ref s.heap.objs.size) (fun _ => #[]); letGo old.toList.reverse; Builtin.List.listExtendWith (.ref s.heap.objs.size) (.ref d) .none) _ _ _
  refine wpAny_bind ?_
  unfold Builtin.List.listItems
  refine wpAny_bind (wpAny_seqItems hS rfl (wpAny_pure ?_))
  show wpAny _ _ (updateSeq s.heap.objs.size (fun _ => #[]) >>= fun _ => letGo (#[] : Array Value).toList.reverse >>= fun _ => Builtin.List.listExtendWith (.ref s.heap.objs.size) (.ref d) .none) _ _ _
  refine wpAny_bind (wpAny_updateSeq hS rfl ?_)
  have hS₂ := Heap.get?_update_self (Obj.mapSeq (fun _ => (#[] : Array Value))) hS rfl
  have oth : ∀ b o, b ≠ s.heap.objs.size → s.heap.get? b = some o → ((s.heap.push { cls := .type "list", data := .seq #[] }).update s.heap.objs.size (Obj.mapSeq (fun _ => (#[] : Array Value)))).get? b = some o :=
    fun b o hb e => (Heap.get?_update_other _ _ (Ne.symm hb)).trans (Heap.get?_push_of_some _ e)
  refine wpAny_bind (wpAny_letGo ?_)
  refine PySem.W.kdl_extend (A := X.A.in1) src (I.ok.hd hc) (src.keep _ _ hat fun b _ o e => oth b o (Nat.ne_of_lt (Heap.lt_size e)) e) s.heap.objs.size (Nat.ne_of_gt hlt.1) (Nat.ne_of_gt hlt.2) .none _ hS₂ (fun h' tk acc c' kk hS' it => ?_) (by omega)
  have hl : acc.toList.length = ss.length := by rw [Array.length_toList, it.1]; omega
  have hST : StrsAre acc.toList ss := strsAre_by hl fun i v x e1 e2 => by
    obtain ⟨kk, z, ek, ik⟩ := it.2 i v (by rw [← Array.getElem?_toList]; exact e1)
    obtain ⟨y, ey, rfl⟩ := hks i kk z ek
    rw [e2] at ey
    cases ey
    rw [mixKind_is] at ik
    rcases keyIs_shape ik with ⟨_, _, z, _⟩ | ⟨x', t, z, ev⟩
    · cases z
    · cases z
      exact ⟨t, ev⟩
  have rl : ∀ {vs : List Value} {xs : List Str}, StrsAre vs xs → Vals (xs.map V.str) vs := fun {vs xs} q => by
    induction q <;> first | exact .nil | (rename_i ih; exact .cons ⟨_, rfl⟩ ih)
  refine ⟨rfl, .ref s.heap.objs.size, _, I.laid (t' := tk) (o := .lst (ss.map V.str)) (fun b o e => kk b o (Nat.ne_of_lt (Heap.lt_size e)) (oth b o (Nat.ne_of_lt (Heap.lt_size e)) e)) (Nat.le_refl _) ?_, rfl, q _ (I.hok.fresh (Nat.le_refl _))⟩
  exact ⟨by rw [List.length_map]; exact Nat.le_trans (Nat.le_of_lt h64) (by decide), acc.toList, c', rl hST, by simpa using hS'⟩
end
section
open Builtin
end
end L2
set_option Elab.async false
set_option linter.all false
set_option maxRecDepth 100000
set_option maxHeartbeats 1000000
namespace L2
open PySem PySem.Spec PyProof.Rows
theorem hits_ints {A : Around} {s : Shared} {us : List (Key × Value)} (hn : (us.map (·.1)).Nodup) : ∀ {kvs : List (Key × V)} {vs ws : List (Key × Value)}, (∀ p ∈ kvs, ∃ i, p.2 = V.int i) → KV kvs vs → KV kvs ws → (∀ p ∈ ws, p ∈ us) → PySem.W.KeqHits A s us vs true := by
  intro kvs
  induction kvs with
  | nil => intro vs ws _ r1 _ _; cases r1; exact .nil
  | cons p ps ih =>
    intro vs ws hr r1 r2 hm
    cases r1 with
    | @cons _ q _ qs h t =>
      cases r2 with
      | @cons _ q' _ qs' h' t' =>
        obtain ⟨i, ei⟩ := hr p List.mem_cons_self
        obtain ⟨a, b⟩ := q
        obtain ⟨a', b'⟩ := q'
        have h2 := h.2
        have h2' := h'.2
        rw [ei] at h2 h2'
        obtain ⟨t1, z1⟩ : ∃ t, b = Value.int i t := h2
        obtain ⟨t2, z2⟩ : ∃ t, b' = Value.int i t := h2'
        have k1 : p.1 = a := h.1
        have k2 : p.1 = a' := h'.1
        subst z1 z2 k1
        have e := valueAt_mem hn (hm (a', Value.int i t2) List.mem_cons_self)
        rw [← k2] at e
        have hh := PySem.W.KeqHits.hit (e := (i == i)) (b := true) e (SeqAt.EqAt.int_int (A := A) (s := s) i t1 i t2) (ih (fun p hp => hr p (List.mem_cons_of_mem _ hp)) t t' fun p hp => hm p (List.mem_cons_of_mem _ hp))
        rw [beq_self_eq_true] at hh
        exact hh
section
variable {X : Cx}
def rDictI (b : Bool) : R2 := fun x y H Q => ∃ (a c : Addr) (kvs : List (Key × V)), x = .ref a ∧ y = .ref c ∧ Rd H a (.dK kvs) ∧ Rd H c (.dK kvs) ∧ (∀ p ∈ kvs, ∃ i, p.2 = .int i) ∧ Q (.bl b) H
theorem op_neDictI (hu : X.A.units < cLine) : OpR X (compareOp .NotEq) (rDictI false) := by
  intro pins s σ H x y v u Q I rx ry h
  obtain ⟨a, b, kvs, rfl, rfl, ha, hb, hr, q⟩ := h
  cases rx
  cases ry
  obtain ⟨z1, l1, vs, r1, d1⟩ := dk_rd I.hok ha
  obtain ⟨z2, l2, us, r2, d2⟩ := dk_rd I.hok hb
  obtain ⟨o, es, ep, _, _, _, _, _, hn⟩ := id d2
  refine PySem.W.keq_ne l1 l2 d1 d2 hu (fun _ => hits_ints hn hr r1 r2 fun p hp => hp) ⟨.bl false, H, I, ?_, q⟩
  rw [← r1.length, ← r2.length, beq_self_eq_true]
  rfl
end
end L2
set_option Elab.async false
set_option linter.all false
set_option maxRecDepth 100000
set_option maxHeartbeats 1000000
namespace L2
open PySem PySem.Spec PyProof.Rows
section
variable {X : Cx}
def tTopIx (tab : List (Str × Option V)) (ty : TE) : TE := fun σ H Q => ty σ H fun y H1 => ∃ x v, y = .str x ∧ (x, some v) ∈ tab ∧ Q v H1
theorem pe_topix {x : Str} {p pos : Pos} {e : Expr} {ty : TE} {a : Addr} {tab : List (Str × Option V)} (D : TopDict X.K X.w.params a tab) (hg : Gl X x) (hm : X.mg x = some (.ref a)) (he : PE X e ty) (hs : NoSl e)
    (hdb : (x == ("__debug__" : Str)) = false := by decide) : PE X (.Subscript (.Name x p) e pos) (tTopIx tab ty) := by
  intro pins s σ H Q I h
  obtain ⟨es, n, hl, hk, ht⟩ := D.ex
  refine subD_of PySem.F.slot_dict_getitem.lookup hs (ld_glob I hg hm (thn (he pins s σ H _ I h) fun iv s2 ⟨y, H2, I2, ry, x', v, ey, hmem, q2⟩ => ?_) hdb)
  subst ey
  obtain ⟨t, rfl⟩ := ry
  have hm3 := PySem.W.mapOf_K (prog := X.prog) I2.kIn hl hk
  obtain ⟨u, eu, ru⟩ := (ht x' (some v) hmem).some_of
  exact ⟨hm3.typeIs, wpAny_getItem_of (strKind_is X.prog X.w x' t) hm3 eu ⟨v, H2, I2.tok _, ru, q2⟩⟩
def tTopNotIn (tab : List (Str × Option V)) (ty : TE) : TE := fun σ H Q => ty σ H fun y H1 => ∃ x r, y = .str x ∧ (x, r) ∈ tab ∧ Q (.bl (!r.isSome)) H1
theorem pc_topnotin {x : Str} {p : Pos} {e : Expr} {ty : TE} {a : Addr} {tab : List (Str × Option V)} (D : TopDict X.K X.w.params a tab) (hg : Gl X x) (hm : X.mg x = some (.ref a)) (he : PE X e ty)
    (hdb : (x == ("__debug__" : Str)) = false := by decide) : PC X .NotIn e (.Name x p) (tTopNotIn tab ty) := by
  intro pins s σ H Q I h
  obtain ⟨es, n, hl, hk, ht⟩ := D.ex
  refine thn (he pins s σ H _ I h) fun iv s2 ⟨y, H2, I2, ry, x', r, ey, hmem, q2⟩ => ld_glob I2 hg hm ?_ hdb
  subst ey
  obtain ⟨t, rfl⟩ := ry
  have hm3 := PySem.W.mapOf_K (prog := X.prog) I2.kIn hl hk
  refine wpAny_notIn_of (strKind_is X.prog X.w x' t) D.lo hm3 ⟨.bl (!r.isSome), H2, I2.tok _, ?_, q2⟩
  have := ht x' r hmem
  rw [this.isSome_eq]
  rfl
theorem kit_bb {K : PySem.W.Frag} : PySem.W.kitOne K (.type "bool") (.type "bool") = some true := by rfl
end
end L2
set_option Elab.async false
set_option linter.all false
set_option maxRecDepth 100000
set_option maxHeartbeats 1000000
namespace HT
open PySem PySem.Spec PyProof.Rows
section
variable {prog : Program} {w : World} {A : Around} {E : Value → Shared → Prop} {s : Shared}
theorem adjust_rev (n : Nat) : Builtin.Slice.sliceAdjust none none (-1) (n : Int) = ((n : Int) - 1, -1) := by
  unfold Builtin.Slice.sliceAdjust
  have h1 : ((-1 : Int) < 0) := by omega
  simp only [h1, if_true]
theorem places_rev (n : Nat) : Builtin.Slice.slicePlaces ((n : Int) - 1) (-1) (-1) = n := by
  unfold Builtin.Slice.slicePlaces
  have h1 : ¬ ((-1 : Int) > 0) := by omega
  simp only [h1, if_false, Int.neg_neg, Int.ediv_one]
  split <;> omega
theorem sliceApplied_rev {sl : Addr} {n : Nat} {u : Tok} {Q : Int × Int × Nat → Shared → Prop} (hs : s.heap.IsSliceOf sl .none .none (.int (-1) u)) (h : Q ((n : Int) - 1, -1, n) s) :
    wpAny (model prog w) A (Builtin.Slice.sliceApplied (.ref sl) (pure (n : Int))) Q E s := by
  obtain ⟨os, hos, hcs, hds⟩ := id hs
  unfold Builtin.Slice.sliceApplied Builtin.Slice.sliceFields
  refine wpAny_bind (wpAny_bind (wpAny_field hos hds (x := .none) rfl (wpAny_bind (wpAny_field hos hds (x := .none) rfl (wpAny_bind (wpAny_field hos hds (x := .int (-1) u) rfl (wpAny_pure ?_)))))))
  refine wpAny_bind (slicePart_int ?_)
  show wpAny _ _ (if ((-1 : Int) == 0) = true then _ else _) _ _ s
  rw [if_neg (by decide)]
  refine wpAny_bind (slicePart_none (wpAny_bind (slicePart_none (wpAny_bind (wpAny_pure ?_)))))
  show wpAny _ _ (match Builtin.Slice.sliceAdjust none none (-1) (n : Int) with | (lo, hi) => pure (lo, (-1 : Int), Builtin.Slice.slicePlaces lo hi (-1))) _ _ s
  rw [adjust_rev n]
  show wpAny _ _ (pure (((n : Int) - 1), (-1 : Int), Builtin.Slice.slicePlaces ((n : Int) - 1) (-1) (-1))) _ _ s
  rw [places_rev n]
  exact wpAny_pure h
theorem pick_rev (xs : Array Value) : ((List.range xs.size).filterMap fun (k : Nat) => xs[((xs.size : Int) - 1 + (k : Int) * (-1)).toNat]?).toArray = xs.toList.reverse.toArray := by
  have e : (fun (k : Nat) => xs[((xs.size : Int) - 1 + (k : Int) * (-1)).toNat]?) = (fun i => xs[i]?) ∘ fun k => xs.size - 1 - k := by
    funext k
    show _ = xs[xs.size - 1 - k]?
    have : ((xs.size : Int) - 1 + (k : Int) * (-1)).toNat = xs.size - 1 - k := by omega
    rw [this]
  rw [e, ← List.filterMap_map, PySem.W.krv_range, List.filterMap_reverse, PySem.W.krv_all]
theorem getItem_tuple_rev {t sl : Addr} {items : Array Value} {u : Tok} {Q : Value → Shared → Prop} (ht : IsTup s.heap t items) (hs : s.heap.IsSliceOf sl .none .none (.int (-1) u))
    (h : Q (.ref s.heap.objs.size) { s with heap := s.heap.push { cls := .type "tuple", data := .seq items.toList.reverse.toArray } })
    (hsz : items.size ≤ sizeLine) : wpAny (model prog w) A (getItem (.ref t) (.ref sl)) Q E s := by
  have hdrop : sizeOk (.seq items.toList.reverse.toArray) := by
    show items.toList.reverse.toArray.size ≤ sizeLine
    rw [List.size_toArray, List.length_reverse, Array.length_toList]
    omega
  obtain ⟨os, hos, hcs, hds⟩ := id hs
  have hTs : s.TypeIs (.ref sl) "slice" := ⟨os, hos, hcs⟩
  unfold getItem
  try with_reducible refine wpAny_holding ?_
  first | refine wpAny_bind (wpAny_pure ?_) | skip
  refine wpAny_bind (wpAny_sequenceKey ht.typeIs (by decide) ?_)
  refine wpAny_bind (wpAny_callSpecial?_slot (name := Str.ofString "__getitem__") ht.typeIs PyProof.Rows.slot_tuple_getitem
    (wpAny_call_entry PyProof.Rows.slot_tuple_getitem ht.typeIs entry_tuple_getitem ?_ (args_tuple_getitem _ _)))
  show wpAny _ _ (Builtin.Tuple.tupleItemsOf (.ref t) >>= _) _ _ s
  refine wpAny_bind (tupleItemsOf_ ht ?_)
  refine wpAny_bind (wpAny_typeOf hTs ?_)
  rw [if_pos (by decide)]
  refine wpAny_bind (sliceApplied_rev hs ?_)
  have hno : ¬ ((((items.size : Int) - 1) == 0 && (-1 : Int) == 1 && items.size == items.size) = true) := by
    rw [show ((-1 : Int) == 1) = false by decide]; simp
  show wpAny _ _ (if (((items.size : Int) - 1) == 0 && (-1 : Int) == 1 && items.size == items.size) = true then _ else _) _ _ s
  rw [if_neg hno, pick_rev items]
  first
    | exact wpAny_bind (m := Builtin.Tuple.tupleExact _) (wpAny_newObj_type (wpAny_pure ⟨_, rfl, wpAny_pure h⟩) hdrop)
    | exact wpAny_bind (m := Builtin.Tuple.tupleExact _) (wpAny_newObj_type (wpAny_bind (wpAny_pure (wpAny_pure ⟨_, rfl, wpAny_pure h⟩))) hdrop)
    | exact wpAny_bind (wpAny_bind (m := Builtin.Tuple.tupleExact _) (wpAny_newObj_type (wpAny_pure (wpAny_pure ⟨_, rfl, wpAny_pure h⟩)) hdrop))
    | exact wpAny_bind (wpAny_bind (m := Builtin.Tuple.tupleExact _) (wpAny_newObj_type (wpAny_pure ⟨_, rfl, wpAny_pure h⟩) hdrop))
end
end HT
namespace L2
open PySem PySem.Spec PyProof.Rows
section
variable {X : Cx} {e : Expr} {lo hi : Option Expr} {st : Expr} {te : TE} {tl th tk : TO} {p2 pos : Pos}
def rRevT (K : PySem.W.Frag) (x : V) (l u k : Option Int) : Hp → VK → Prop := fun H Q => ∃ a xs, l = none ∧ u = none ∧ k = some (-1) ∧ x = .ref a ∧ SqT K H a xs ∧ ∀ p, H p = none → Q (.ref p) (upd H p (.tup xs.reverse))
def tRevT (K : PySem.W.Frag) (te : TE) (tl th tk : TO) : TE := fun σ H Q => te σ H fun x H1 => tl σ H1 fun l H2 => th σ H2 fun u H3 => tk σ H3 fun k H4 => rRevT K x l u k H4 Q
theorem pe_revT (K : PySem.W.Frag) (he : PE X e te) (hl : PO X lo tl) (hu : PO X hi th) (hk : PO X (some st) tk) (hK : X.K = K := by rfl) : PE X (.Subscript e (.Slice lo hi (some st) p2) pos) (tRevT K te tl th tk) := by
  subst hK
  intro pins s σ H Q I h
  refine Subscript_ (thn (he pins s σ H _ I h) fun v s1 ⟨x, H1, I1, r1, q1⟩ => ?_)
  refine wpAny_Slice (thn (hl pins s1 σ H1 _ I1 q1) fun vl s2 ⟨l, H2, I2, pl, q2⟩ => thn (hu pins s2 σ H2 _ I2 q2) fun vu s3 ⟨u, H3, I3, pu, q3⟩ => thn (hk pins s3 σ H3 _ I3 q3) fun vk s4 ⟨k, H4, I4, pk, q4⟩ => ?_)
  obtain ⟨a, xs, rfl, rfl, rfl, rfl, hx, q⟩ := q4
  cases pl
  cases pu
  cases pk with
  | int i t =>
    cases r1
    have I5 : Inv X pins σ H4 { s4 with heap := s4.heap.push { cls := .type "slice", data := .fields #[.none, .none, .int (-1) t] } } := I4.kept (t' := s4.toks) fun b ob q => Heap.get?_push_of_some _ q
    obtain ⟨its, r, ht, hz⟩ := I5.tuple hx
    have hlen : its.toArray.size = xs.length := by rw [List.size_toArray]; exact r.length.symm
    show wpAny (model X.prog X.w) X.A (subscriptTail e (.Slice lo hi (some st) p2) (.ref a) (.ref s4.heap.objs.size)) (EP X pins σ Q) X.xe { s4 with heap := s4.heap.push { cls := .type "slice", data := .fields #[.none, .none, .int (-1) t] } }
    refine tail_any (ops := [.ref a, .ref s4.heap.objs.size]) ht.typeIs PyProof.Rows.slot_tuple_getitem.lookup ?_ (by with_unfolding_all rfl)
    refine HT.getItem_tuple_rev ht (Heap.IsSliceOf.new ..) ?_ (by rw [hlen]; exact hz)
    have hp := I5.hok.fresh (Nat.le_refl _)
    refine ⟨.ref _, _, I5.laid (o := .tup xs.reverse) (t' := s4.toks) (fun _ _ q => Heap.get?_push_of_some _ q) (Nat.le_refl _) ?_, rfl, q _ hp⟩
    exact ⟨by rw [List.length_reverse]; exact hz, _, paired_reverse r, IsTup.new _ _⟩
def rAny (K : PySem.W.Frag) : List V → Hp → VK → Prop := fun xs H Q => ∃ (a : Addr) (bs : List Bool), xs = [.ref a] ∧ SqL K H a (bs.map V.bl) ∧ Q (.bl (bs.any id)) H
theorem call_anyK (K : PySem.W.Frag) (hc : X.calm = true) (hK : X.K = K := by rfl) : CallR X (.builtin "any") (rAny K) := by
  subst hK
  intro pins s σ H xs us Q I r h
  obtain ⟨a, bs, rfl, hq, q⟩ := h
  obtain ⟨u, rfl, ru⟩ := vals1 r
  cases ru
  obtain ⟨its, rv, p, _⟩ := I.list hq
  have e := vals_bools rv
  have bl : a < s.heap.objs.size := by obtain ⟨o, e, _⟩ := p.isList; exact Heap.lt_size e
  refine call_any_walk ?_
  refine wpAny_pyIter_list p.isList ?_
  refine ⟨s.heap.objs.size, _, _, _, _, _, fun i => (bs.getD i false), rfl, Walks.list (A := X.A.in1) (I.ok.hd hc) _ a (Nat.ne_of_lt bl) its.toArray, ⟨⟨_, Heap.get?_push_size _ rfl, rfl, rfl⟩, p.isList.push _⟩, ?_, fun h' tk k => ?_⟩
  · intro i v s' Q' E' hv hQ'
    have : v = .bool (bs.getD i false) := by
      rw [List.getElem?_toArray, e, List.getElem?_map] at hv
      rw [List.getD_eq_getElem?_getD]
      cases eb : bs[i]? with
      | none => rw [eb] at hv; cases hv
      | some b => rw [eb] at hv; exact (Option.some.inj hv).symm
    rw [this]
    exact wpAny_truthy_bool hQ'
  · refine ⟨.bl (bs.any id), H, I.kept fun b o eo => k b o (fun z => Nat.ne_of_lt (Heap.lt_size eo) (List.mem_singleton.mp z)) (Heap.get?_push_of_some _ eo), ?_, q⟩
    have hl : its.toArray.size = bs.length := by simp [e]
    have ea : ∀ cs : List Bool, (List.range cs.length).any (fun i => cs.getD i false) = cs.any id := fun cs => by
      induction cs with
      | nil => rfl
      | cons c cs ih =>
        rw [List.length_cons, List.range_succ_eq_map, List.any_cons, List.any_map, List.any_cons, ← ih]
        rfl
    show _ = Value.bool _
    rw [hl, ea]
end
end L2
set_option Elab.async false
set_option linter.all false
set_option maxRecDepth 100000
set_option maxHeartbeats 4000000
namespace My
open PySem L2
def top (i : Nat) : Stmt := PySem.Challenge.pw_figurejudge_k26_some_and_each_to_a_bound.main.body.getD i (.Pass ⟨0, 0, 0, 0⟩)
abbrev s_figures_of : Stmt := top 1
abbrev s_room_after : Stmt := top 3
abbrev s_sign_at : Stmt := top 4
abbrev s_inner_parts : Stmt := top 7
abbrev s_worth_of : Stmt := top 10
abbrev s_atom_holds : Stmt := top 11
abbrev s_turns_of : Stmt := top 12
abbrev s_turn_at : Stmt := top 13
abbrev s_holds_plainly : Stmt := top 14
abbrev s_l_deck : Stmt := top 16
abbrev s_l_next : Stmt := top 17
abbrev s_l_names : Stmt := top 18
abbrev s_l_row : Stmt := top 19
abbrev s_l_world : Stmt := top 20
abbrev s_l_term : Stmt := top 21
abbrev s_l_plain : Stmt := top 22
abbrev s_l_saying : Stmt := top 23
abbrev s_l_sign : Stmt := top 24
abbrev s_l_worth : Stmt := top 25
abbrev s_l_holds : Stmt := top 26
abbrev s_l_round : Stmt := top 27
abbrev s_law : Stmt := top 28
structure Adr where
  f_figures_of : Addr
  fd_figures_of : FuncData
  f_room_after : Addr
  fd_room_after : FuncData
  f_sign_at : Addr
  fd_sign_at : FuncData
  f_inner_parts : Addr
  fd_inner_parts : FuncData
  f_worth_of : Addr
  fd_worth_of : FuncData
  f_atom_holds : Addr
  fd_atom_holds : FuncData
  f_turns_of : Addr
  fd_turns_of : FuncData
  f_turn_at : Addr
  fd_turn_at : FuncData
  f_holds_plainly : Addr
  fd_holds_plainly : FuncData
  f_l_deck : Addr
  fd_l_deck : FuncData
  f_l_next : Addr
  fd_l_next : FuncData
  f_l_names : Addr
  fd_l_names : FuncData
  f_l_row : Addr
  fd_l_row : FuncData
  f_l_world : Addr
  fd_l_world : FuncData
  f_l_term : Addr
  fd_l_term : FuncData
  f_l_plain : Addr
  fd_l_plain : FuncData
  f_l_saying : Addr
  fd_l_saying : FuncData
  f_l_sign : Addr
  fd_l_sign : FuncData
  f_l_worth : Addr
  fd_l_worth : FuncData
  f_l_holds : Addr
  fd_l_holds : FuncData
  f_l_round : Addr
  fd_l_round : FuncData
  f_law : Addr
  fd_law : FuncData
structure Txt (K : PySem.W.Frag) (mg : Str → Option Value) (a : Adr) : Prop where
  F_figures_of : Fun K "figures_of" "figures_of" s_figures_of a.f_figures_of a.fd_figures_of
  m_figures_of : mg "figures_of" = some (.ref a.f_figures_of)
  k_figures_of : PySem.W.keepIn K (.ref a.f_figures_of) = true
  b_figures_of : Binds K a.fd_figures_of ["base", "number"] []
  F_room_after : Fun K "room_after" "room_after" s_room_after a.f_room_after a.fd_room_after
  m_room_after : mg "room_after" = some (.ref a.f_room_after)
  k_room_after : PySem.W.keepIn K (.ref a.f_room_after) = true
  b_room_after : Binds K a.fd_room_after ["moves", "room", "figures"] []
  F_sign_at : Fun K "sign_at" "sign_at" s_sign_at a.f_sign_at a.fd_sign_at
  m_sign_at : mg "sign_at" = some (.ref a.f_sign_at)
  k_sign_at : PySem.W.keepIn K (.ref a.f_sign_at) = true
  b_sign_at : Binds K a.fd_sign_at ["world", "name", "number"] []
  F_inner_parts : Fun K "inner_parts" "inner_parts" s_inner_parts a.f_inner_parts a.fd_inner_parts
  m_inner_parts : mg "inner_parts" = some (.ref a.f_inner_parts)
  k_inner_parts : PySem.W.keepIn K (.ref a.f_inner_parts) = true
  b_inner_parts : Binds K a.fd_inner_parts ["saying"] []
  F_worth_of : Fun K "worth_of" "worth_of" s_worth_of a.f_worth_of a.fd_worth_of
  m_worth_of : mg "worth_of" = some (.ref a.f_worth_of)
  k_worth_of : PySem.W.keepIn K (.ref a.f_worth_of) = true
  b_worth_of : Binds K a.fd_worth_of ["term", "values"] []
  F_atom_holds : Fun K "atom_holds" "atom_holds" s_atom_holds a.f_atom_holds a.fd_atom_holds
  m_atom_holds : mg "atom_holds" = some (.ref a.f_atom_holds)
  k_atom_holds : PySem.W.keepIn K (.ref a.f_atom_holds) = true
  b_atom_holds : Binds K a.fd_atom_holds ["world", "saying", "values"] []
  F_turns_of : Fun K "turns_of" "turns_of" s_turns_of a.f_turns_of a.fd_turns_of
  m_turns_of : mg "turns_of" = some (.ref a.f_turns_of)
  k_turns_of : PySem.W.keepIn K (.ref a.f_turns_of) = true
  b_turns_of : Binds K a.fd_turns_of ["saying", "most"] []
  F_turn_at : Fun K "turn_at" "turn_at" s_turn_at a.f_turn_at a.fd_turn_at
  m_turn_at : mg "turn_at" = some (.ref a.f_turn_at)
  k_turn_at : PySem.W.keepIn K (.ref a.f_turn_at) = true
  b_turn_at : Binds K a.fd_turn_at ["saying", "values", "turn"] []
  F_holds_plainly : Fun K "holds_plainly" "holds_plainly" s_holds_plainly a.f_holds_plainly a.fd_holds_plainly
  m_holds_plainly : mg "holds_plainly" = some (.ref a.f_holds_plainly)
  k_holds_plainly : PySem.W.keepIn K (.ref a.f_holds_plainly) = true
  b_holds_plainly : Binds K a.fd_holds_plainly ["world", "saying", "values", "most"] []
  F_l_deck : Fun K "_law_deck" "_law_deck" s_l_deck a.f_l_deck a.fd_l_deck
  m_l_deck : mg "_law_deck" = some (.ref a.f_l_deck)
  k_l_deck : PySem.W.keepIn K (.ref a.f_l_deck) = true
  b_l_deck : Binds K a.fd_l_deck ["_law_script", "_law_many"] []
  F_l_next : Fun K "_law_next" "_law_next" s_l_next a.f_l_next a.fd_l_next
  m_l_next : mg "_law_next" = some (.ref a.f_l_next)
  k_l_next : PySem.W.keepIn K (.ref a.f_l_next) = true
  b_l_next : Binds K a.fd_l_next ["_law_deck_here", "_law_many"] []
  F_l_names : Fun K "_law_names" "_law_names" s_l_names a.f_l_names a.fd_l_names
  m_l_names : mg "_law_names" = some (.ref a.f_l_names)
  k_l_names : PySem.W.keepIn K (.ref a.f_l_names) = true
  b_l_names : Binds K a.fd_l_names ["_law_deck_here", "_law_many", "_law_great"] []
  F_l_row : Fun K "_law_row" "_law_row" s_l_row a.f_l_row a.fd_l_row
  m_l_row : mg "_law_row" = some (.ref a.f_l_row)
  k_l_row : PySem.W.keepIn K (.ref a.f_l_row) = true
  b_l_row : Binds K a.fd_l_row ["_law_deck_here", "_law_base"] []
  F_l_world : Fun K "_law_world" "_law_world" s_l_world a.f_l_world a.fd_l_world
  m_l_world : mg "_law_world" = some (.ref a.f_l_world)
  k_l_world : PySem.W.keepIn K (.ref a.f_l_world) = true
  b_l_world : Binds K a.fd_l_world ["_law_deck_here"] []
  F_l_term : Fun K "_law_term" "_law_term" s_l_term a.f_l_term a.fd_l_term
  m_l_term : mg "_law_term" = some (.ref a.f_l_term)
  k_l_term : PySem.W.keepIn K (.ref a.f_l_term) = true
  b_l_term : Binds K a.fd_l_term ["_law_deck_here", "_law_names_here"] []
  F_l_plain : Fun K "_law_plain" "_law_plain" s_l_plain a.f_l_plain a.fd_l_plain
  m_l_plain : mg "_law_plain" = some (.ref a.f_l_plain)
  k_l_plain : PySem.W.keepIn K (.ref a.f_l_plain) = true
  b_l_plain : Binds K a.fd_l_plain ["_law_deck_here", "_law_names_here", "_law_rows"] []
  F_l_saying : Fun K "_law_saying" "_law_saying" s_l_saying a.f_l_saying a.fd_l_saying
  m_l_saying : mg "_law_saying" = some (.ref a.f_l_saying)
  k_l_saying : PySem.W.keepIn K (.ref a.f_l_saying) = true
  b_l_saying : Binds K a.fd_l_saying ["_law_deck_here", "_law_names_here", "_law_rows", "_law_box", "_law_deep"] []
  F_l_sign : Fun K "_law_sign" "_law_sign" s_l_sign a.f_l_sign a.fd_l_sign
  m_l_sign : mg "_law_sign" = some (.ref a.f_l_sign)
  k_l_sign : PySem.W.keepIn K (.ref a.f_l_sign) = true
  b_l_sign : Binds K a.fd_l_sign ["_law_world_here", "_law_name", "_law_number"] []
  F_l_worth : Fun K "_law_worth" "_law_worth" s_l_worth a.f_l_worth a.fd_l_worth
  m_l_worth : mg "_law_worth" = some (.ref a.f_l_worth)
  k_l_worth : PySem.W.keepIn K (.ref a.f_l_worth) = true
  b_l_worth : Binds K a.fd_l_worth ["_law_term_here", "_law_values"] []
  F_l_holds : Fun K "_law_holds" "_law_holds" s_l_holds a.f_l_holds a.fd_l_holds
  m_l_holds : mg "_law_holds" = some (.ref a.f_l_holds)
  k_l_holds : PySem.W.keepIn K (.ref a.f_l_holds) = true
  b_l_holds : Binds K a.fd_l_holds ["_law_world_here", "_law_saying_here", "_law_values", "_law_most"] []
  F_l_round : Fun K "_law_round" "_law_round" s_l_round a.f_l_round a.fd_l_round
  m_l_round : mg "_law_round" = some (.ref a.f_l_round)
  k_l_round : PySem.W.keepIn K (.ref a.f_l_round) = true
  b_l_round : Binds K a.fd_l_round ["_law_saying_here"] []
  F_law : Fun K "law" "law" s_law a.f_law a.fd_law
  m_law : mg "law" = some (.ref a.f_law)
  z_len : mg "len" = none
  z_range : mg "range" = none
  z_sorted : mg "sorted" = none
  z_dict : mg "dict" = none
  z_sum : mg "sum" = none
  z_min : mg "min" = none
  z_int : mg "int" = none
  z_tuple : mg "tuple" = none
  z_max : mg "max" = none
  z_list : mg "list" = none
  z_all : mg "all" = none
  z_any : mg "any" = none
  z_isinstance : mg "isinstance" = none
  z_bool : mg "bool" = none
structure Term where
  num : Int
  parts : List (Str × Int)
def partDt (p : Str × Int) : Dt := .tup [.str p.1, .int p.2]
def Term.dt (t : Term) : Dt := .tup [.int t.num, .tup (t.parts.map partDt)]
inductive Say where
  | same (t u : Term) | less (t u : Term) | sign (a : Str) (t : Term) (s : Int) | alike (a : Str) (t : Term) (b : Str) (u : Term)
  | no (f : Say) | and (f g : Say) | or (f g : Say) | some (n : Str) (f : Say) | each (n : Str) (f : Say)
def Say.dt : Say → Dt
  | .same t u => .tup [.str "same", t.dt, u.dt]
  | .less t u => .tup [.str "less", t.dt, u.dt]
  | .sign a t s => .tup [.str "sign", .str a, t.dt, .int s]
  | .alike a t b u => .tup [.str "alike", .str a, t.dt, .str b, u.dt]
  | .no f => .tup [.str "not", f.dt]
  | .and f g => .tup [.str "and", f.dt, g.dt]
  | .or f g => .tup [.str "or", f.dt, g.dt]
  | .some n f => .tup [.str "some", .str n, f.dt]
  | .each n f => .tup [.str "each", .str n, f.dt]
def Say.deep : Say → Nat
  | .no f => f.deep + 1
  | .and f g => max f.deep g.deep + 1
  | .or f g => max f.deep g.deep + 1
  | .some _ f => f.deep + 1
  | .each _ f => f.deep + 1
  | _ => 0
theorem parts_noL : ∀ ps : List (Str × Int), Dt.noLs (ps.map partDt) = true
  | [] => by simp [Dt.noLs]
  | p :: ps => by rw [List.map_cons, Dt.noLs, parts_noL ps]; simp [partDt, Dt.noL, Dt.noLs]
theorem Term.noL (t : Term) : t.dt.noL = true := by simp [Term.dt, Dt.noL, Dt.noLs, parts_noL]
theorem Say.noL (s : Say) : s.dt.noL = true := by
  induction s <;> simp [Say.dt, Dt.noL, Dt.noLs, Term.noL, *]
theorem parts_dep : ∀ ps : List (Str × Int), Dt.deps (ps.map partDt) ≤ 1
  | [] => by simp [Dt.deps]
  | p :: ps => by
    have := parts_dep ps
    rw [List.map_cons, Dt.deps]
    simp [partDt, Dt.dep, Dt.deps]
    omega
theorem Term.dep (t : Term) : t.dt.dep ≤ 3 := by
  have := parts_dep t.parts
  simp [Term.dt, Dt.dep, Dt.deps]
  omega
theorem Say.dep (s : Say) : s.dt.dep ≤ s.deep + 4 := by
  induction s with
  | same t u => have := t.dep; have := u.dep; simp [Say.dt, Dt.dep, Dt.deps, Say.deep]; omega
  | less t u => have := t.dep; have := u.dep; simp [Say.dt, Dt.dep, Dt.deps, Say.deep]; omega
  | sign a t s => have := t.dep; simp [Say.dt, Dt.dep, Dt.deps, Say.deep]; omega
  | alike a t b u => have := t.dep; have := u.dep; simp [Say.dt, Dt.dep, Dt.deps, Say.deep]; omega
  | no f ih => simp [Say.dt, Dt.dep, Dt.deps, Say.deep]; omega
  | and f g ih1 ih2 => simp [Say.dt, Dt.dep, Dt.deps, Say.deep]; omega
  | or f g ih1 ih2 => simp [Say.dt, Dt.dep, Dt.deps, Say.deep]; omega
  | some n f ih => simp [Say.dt, Dt.dep, Dt.deps, Say.deep]; omega
  | each n f ih => simp [Say.dt, Dt.dep, Dt.deps, Say.deep]; omega
def Deck2 (H : Hp) (d : Addr) : Prop := ∃ ms : List Int, H d = some (.lst (ms.map V.int))
theorem Deck2.same {H H' : Hp} {d : Addr} (h : Deck2 H d) (s : Same H H') : Deck2 H' d := let ⟨ms, a⟩ := h; ⟨ms, s _ _ a⟩
theorem Deck2.kb {H H' : Hp} {d e : Addr} (h : Deck2 H d) (s : KB e H H') (n : d ≠ e) : Deck2 H' d := let ⟨ms, a⟩ := h; ⟨ms, s _ _ a n⟩
theorem Deck2.is {H : Hp} {d : Addr} (h : Deck2 H d) : ∃ xs, H d = some (.lst xs) := let ⟨ms, a⟩ := h; ⟨_, a⟩
theorem Deck2.ne {H : Hp} {d e : Addr} (h : Deck2 H d) (n : H e = none) : d ≠ e := let ⟨ms, a⟩ := h; ne_of_none a n
theorem Deck2.kts {K : PySem.W.Frag} {H H' : Hp} {d : Addr} (h : Deck2 H d) (s : KB d H H') : KTs K H H' := let ⟨ms, a⟩ := h; KB.kts a s
def spDeck2 (K : PySem.W.Frag) : Sp := fun vs H Q _ => ∃ (a : Addr) (ns : List Int), vs = [.ref a, .int 400] ∧ SqL K H a (ns.map V.int) ∧ ns.length ≤ 63 ∧
  ∀ (D : Addr) (H' : Hp), H D = none → Same H H' → Deck2 H' D → Q (.ref D) H'
def spNext2 : Sp := fun vs H Q _ => ∃ (d : Addr) (m : Int), vs = [.ref d, .int m] ∧ Deck2 H d ∧ 0 < m ∧ ∀ (r : Int) (H' : Hp), 0 ≤ r → r < m → KB d H H' → Deck2 H' d → Q (.int r) H'
section
variable {P : Program} {w : World} {K : PySem.W.Frag} {mg : Str → Option Value} {base : Heap}
theorem sc_l_next : FnScope ["_law_deck_here", "_law_many"] ["_law_deck_here", "_law_many"] (defScope s_l_next) := ⟨rfl, rfl, rfl, by decide +kernel, rfl, by decide +kernel, by decide +kernel⟩
theorem ok_l_next {a : Adr} (T : Txt K mg a) : FnOk P w K mg base CX0 1 a.f_l_next a.fd_l_next ["_law_deck_here", "_law_many"] spNext2 := by
  refine T.F_l_next.ok sc_l_next (fun vs H Q E h => ?_) (fun cdv A outer s H vs Q E hr h => ?_)
  · obtain ⟨d, m, rfl, _⟩ := h
    rfl
  · obtain ⟨d, m, rfl, ⟨ms, hd⟩, hm, k⟩ := h
    refine ⟨_, (pss_cons (ps_if (pt_cmpR op_eq (pe_callB (call_lenK K) (by rfl) T.z_len bt_len (pa_cons (pv 0) pa_nil)) pe_int (nomark _))
      (pss_one (ps_ret pe_int))
      pss_nil)
    (pss_one (ps_ret (pe_op op_modP (pe_bm0 PySem.F.plainAttrs_list PySem.F.slot_list_pop PySem.F.type_list_pop mt_pop (pv 0)) (pv 1))))), ?_⟩
    refine ⟨_, rfl, _, ms.length, rfl, .inl ⟨_, .of hd, by rw [List.length_map]⟩, rfl, _, rfl, ?_⟩
    refine ite2 (fun hl => ?_) (fun hl => ?_)
    · exact k 0 H (Int.le_refl _) hm (KB.refl d H) ⟨ms, hd⟩
    · have hl' : 0 < ms.length := by
        by_cases z : ms.length = 0
        · exact absurd (dI (show ((ms.length : Nat) : Int) = 0 by omega)) hl
        · omega
      obtain ⟨x, hx⟩ : ∃ x, ms[ms.length - 1]? = some x := ⟨_, List.getElem?_eq_getElem (by omega)⟩
      refine ⟨_, rfl, .inl ⟨rfl, _, .of hd⟩, d, _, V.int x, rfl, rfl, hd, ?_, _, rfl, _, _, rfl, rfl, cpos hm, ?_⟩
      · rw [List.length_map, List.getElem?_map, hx]; rfl
      · exact k _ _ (Int.emod_nonneg _ (by omega)) (Int.emod_lt_of_pos _ hm) KB.write ⟨ms.dropLast, by rw [upd_same, List.map_dropLast]⟩
theorem sc_l_deck : FnScope ["_law_script", "_law_many", "_law_deck_here", "_law_k", "_law_cell", "_law_j", "_law_number"] ["_law_script", "_law_many"] (defScope s_l_deck) := ⟨rfl, rfl, rfl, by decide +kernel, rfl, by decide +kernel, by decide +kernel⟩
theorem cutTake (ms : List Int) (n : Nat) : cutV (ms.map V.int) none (some (n : Int)) = (ms.take n).map V.int := by
  unfold cutV
  rw [show HT.sIx (ms.map V.int).length 0 none = 0 from rfl, HT.sIx_nat]
  rw [List.drop_zero, List.length_map, Nat.sub_zero, ← List.map_take]
  congr 1
  by_cases h : n ≤ ms.length
  · rw [Nat.min_eq_left h]
  · rw [Nat.min_eq_right (by omega), List.take_of_length_le (Nat.le_refl _), List.take_of_length_le (by omega)]
theorem ok_l_deck {a : Adr} (T : Txt K mg a) : FnOk P w K mg base CX0 1 a.f_l_deck a.fd_l_deck ["_law_script", "_law_many"] (spDeck2 K) := by
  refine T.F_l_deck.ok sc_l_deck (fun vs H Q E h => ?_) (fun cdv A outer s H vs Q E hr h => ?_)
  · obtain ⟨a, ns, rfl, _⟩ := h
    rfl
  · obtain ⟨sa, ns, rfl, hS, hns, k⟩ := h
    refine ⟨_, (pss_cons (ps_set (i := 2) sc_l_deck.nd rfl (Or.inl rfl) (pe_lst pa_nil))
    (pss_cons (ps_for PassesOwn.never rfl (pi_range1 rfl T.z_range (pa_cons (pe_callB (call_min2 rfl) (by rfl) T.z_min bt_min (pa_cons pe_int (pa_cons (pe_callB (call_lenK K) (by rfl) T.z_len bt_len (pa_cons (pv 0) pa_nil)) pa_nil))) pa_nil)) (pg_name (i := 3) sc_l_deck.nd rfl (Or.inl rfl))
      (pss_cons (ps_set (i := 4) sc_l_deck.nd rfl (Or.inl rfl) (pe_ix (ix_listK K) (pv 0) (pv 3) (fun _ _ => rfl)))
      (pss_one (ps_if (pt_cmpR op_ge (pv 4) (pe_op op_pow pe_int pe_int) (nomark _))
        (pss_one (ps_for PassesOwn.never rfl (pi_range1 rfl T.z_range (pa_cons pe_int pa_nil)) (pg_name (i := 5) sc_l_deck.nd rfl (Or.inl rfl))
          (pss_one (ps_if (pt_cmpR op_gt (pv 4) pe_int (nomark _))
            (pss_cons (ps_expr (pe_bm PySem.F.plainAttrs_list PySem.F.slot_list_append PySem.F.type_list_append mt_append (pv 2) (pa_cons (pe_op op_modP (pv 4) pe_int) pa_nil)))
            (pss_one (ps_set (i := 4) sc_l_deck.nd rfl (Or.inl rfl) (pe_op op_fdivB (pv 4) pe_int))))
            pss_nil))))
        (pss_cons (ps_set (i := 6) sc_l_deck.nd rfl (Or.inl rfl) (pe_op op_modP (pe_op op_add (pe_op op_add (pe_op op_mul (pe_op op_modP (pv 4) pe_int) pe_int) (pe_op op_mul pe_int (pv 3))) pe_int) pe_int))
        (pss_cons (ps_set (i := 6) sc_l_deck.nd rfl (Or.inl rfl) (pe_op op_modP (pe_op op_add (pe_op op_mul (pv 6) (pe_op op_add (pe_op op_fdivB (pv 6) pe_int) pe_int)) (pe_op op_mul pe_int (pv 3))) pe_int))
        (pss_one (ps_expr (pe_bm PySem.F.plainAttrs_list PySem.F.slot_list_extend PySem.F.type_list_extend mt_extend (pv 2) (pa_cons (pe_lst (pa_cons (pe_op op_modP (pv 6) pe_int) (pa_cons (pe_op op_modP (pe_op op_modP (pe_op op_mul (pv 6) pe_int) pe_int) pe_int) pa_nil))) pa_nil))))))))))
    (pss_cons (ps_for PassesOwn.never rfl (pi_range2 rfl T.z_range (pa_cons (pe_callB (call_lenK K) (by rfl) T.z_len bt_len (pa_cons (pv 2) pa_nil)) (pa_cons (pv 1) pa_nil))) (pg_name (i := 3) sc_l_deck.nd rfl (Or.inl rfl))
      (pss_cons (ps_set (i := 6) sc_l_deck.nd rfl (Or.inl rfl) pe_int)
      (pss_cons (ps_if (pt_cmpR op_gt (pe_callB (call_lenK K) (by rfl) T.z_len bt_len (pa_cons (pv 0) pa_nil)) pe_int (nomark _))
        (pss_one (ps_set (i := 6) sc_l_deck.nd rfl (Or.inl rfl) (pe_op op_modP (pe_ix (ix_listK K) (pv 0) (pe_op op_modP (pv 3) (pe_callB (call_min2 rfl) (by rfl) T.z_min bt_min (pa_cons pe_int (pa_cons (pe_callB (call_lenK K) (by rfl) T.z_len bt_len (pa_cons (pv 0) pa_nil)) pa_nil)))) (fun _ _ => rfl)) pe_int)))
        pss_nil)
      (pss_cons (ps_set (i := 6) sc_l_deck.nd rfl (Or.inl rfl) (pe_op op_modP (pe_op op_add (pe_op op_add (pe_op op_mul (pv 6) pe_int) (pe_op op_mul pe_int (pv 3))) pe_int) pe_int))
      (pss_cons (ps_set (i := 6) sc_l_deck.nd rfl (Or.inl rfl) (pe_op op_modP (pe_op op_add (pe_op op_mul (pv 6) (pe_op op_add (pe_op op_fdivB (pv 6) pe_int) pe_int)) (pe_op op_mul pe_int (pv 3))) pe_int))
      (pss_one (ps_expr (pe_bm PySem.F.plainAttrs_list PySem.F.slot_list_append PySem.F.type_list_append mt_append (pv 2) (pa_cons (pe_op op_modP (pe_op op_modP (pe_op op_mul (pv 6) pe_int) pe_int) pe_int) pa_nil)))))))))
    (pss_cons (ps_set (i := 2) sc_l_deck.nd rfl (Or.inl rfl) (pe_slice (sl_listK K) (pv 2) po_none (po_some (pv 1))))
    (pss_cons (ps_expr (pe_bm0 PySem.F.plainAttrs_list PySem.F.slot_list_reverse PySem.F.type_list_reverse mt_reverse (pv 2)))
    (pss_one (ps_ret (pv 2)))))))), ?_⟩
    refine ⟨by decide, fun d hd => ?_⟩
    have s0 : Same H (upd H d (.lst [])) := Same.new hd
    have lenS : ∀ {H' : Hp}, Same H H' → LenV K (.ref sa) H' ns.length := fun s => .inl ⟨_, s.seq hS, by rw [List.length_map]⟩
    have m31 : ∀ x : Int, 0 ≤ x % 2147483629 ∧ x % 2147483629 < 2147483629 := fun x => ⟨Int.emod_nonneg _ (by decide), Int.emod_lt_of_pos _ (by decide)⟩
    have mul1 : ∀ x y : Int, CMul (x % 2147483629) y := fun x y => .inl (by have := m31 x; constructor <;> omega)
    refine ⟨_, rfl, _, ns.length, rfl, lenS s0, 63, (ns.length : Int), rfl, _, rfl, by split <;> omega, by split <;> omega,
      for_range (fun i σ H' => ∃ (ms : List Int) (v3 v4 v5 v6 : Option V), σ = [some (.ref sa), some (.int 400), some (.ref d), v3, v4, v5, v6] ∧ Same H H' ∧ H' d = some (.lst (ms.map V.int)) ∧ ms.length ≤ 60 * i)
        ⟨[], none, none, none, none, rfl, s0, upd_same, by simp⟩ ?_ ?_⟩
    · rintro i σ H1 hi ⟨ms, v3, v4, v5, v6, rfl, s1, e1, hl⟩
      have hi' : i < ns.length := by split at hi <;> omega
      have hi63 : i < 63 := by split at hi <;> omega
      obtain ⟨c, hc⟩ : ∃ c, ns[i]? = some c := ⟨_, List.getElem?_eq_getElem hi'⟩
      refine ⟨_, rfl, _, rfl, sa, _, _, V.int c, rfl, rfl, s1.seq hS, ?_, ?_⟩
      · rw [show (0 : Int) + (i : Int) = (i : Int) by omega]
        exact atI_nat (by rw [List.getElem?_map, hc]; rfl)
      refine ⟨_, rfl, _, _, rfl, rfl, ⟨by decide, by decide, by decide⟩, _, _, rfl, rfl, _, rfl, ?_⟩
      refine ite2 (fun _ => ?_) (fun _ => ?_)
      · refine ⟨(60 : Int), rfl, by decide, by decide, for_range (fun j σ H2 => ∃ (ms : List Int) (c : Int) (v5 v6 : Option V), σ = [some (.ref sa), some (.int 400), some (.ref d), some (.int (0 + (i : Int))), some (.int c), v5, v6] ∧ Same H H2 ∧ H2 d = some (.lst (ms.map V.int)) ∧ ms.length ≤ 60 * i + j)
          ⟨ms, c, v5, v6, rfl, s1, e1, hl⟩ ?_ ?_⟩
        · rintro j σ H2 hj ⟨ms, c, v5, v6, rfl, s2, e2, hl2⟩
          have hj' : j < 60 := hj
          refine ⟨_, rfl, _, _, rfl, rfl, _, rfl, ?_⟩
          refine ite2 (fun _ => ?_) (fun _ => ?_)
          · refine ⟨_, rfl, .inl ⟨rfl, _, .of e2⟩, _, rfl, _, _, rfl, rfl, cpos (by decide), d, _, _, rfl, rfl, e2, ?_, ?_⟩
            · rw [List.length_map]; exact Nat.lt_of_lt_of_le (show ms.length < 10000 by omega) (by decide)
            refine ⟨_, rfl, _, _, rfl, rfl, ⟨by decide, by decide⟩, ms ++ [c % 720720], c / 720720, _, _, rfl, s2.kbn hd KB.write, ?_, ?_⟩
            · rw [upd_same, List.map_append]; rfl
            · rw [List.length_append]; show ms.length + 1 ≤ _; omega
          · exact ⟨ms, c, _, _, rfl, s2, e2, by omega⟩
        · rintro σ H2 ⟨ms, c, v5, v6, rfl, s2, e2, hl2⟩
          have hl2' : ms.length ≤ 60 * i + 60 := hl2
          exact ⟨ms, _, _, _, _, rfl, s2, e2, by omega⟩
      · refine ⟨_, rfl, _, _, rfl, rfl, cpos (by decide), _, _, rfl, rfl, .inr (by decide), _, rfl, _, _, rfl, rfl, .inl (by decide), _, _, rfl, rfl, _, _, rfl, rfl, _, _, rfl, rfl, cpos (by decide), ?_⟩
        refine ⟨_, rfl, _, rfl, _, _, rfl, rfl, ⟨by decide, by decide⟩, _, _, rfl, rfl, _, _, rfl, rfl, mul1 _ _, _, rfl, _, _, rfl, rfl, .inl (by decide), _, _, rfl, rfl, _, _, rfl, rfl, cpos (by decide), ?_⟩
        refine ⟨_, rfl, .inl ⟨rfl, _, .of e1⟩, _, rfl, _, _, rfl, rfl, cpos (by decide), _, rfl, _, _, rfl, rfl, .inr (by decide), _, _, rfl, rfl, cpos (by decide), _, _, rfl, rfl, cpos (by decide), by show 2 ≤ sizeLine; decide, fun L hL => ?_⟩
        have ndL : d ≠ L := ne_of_none e1 hL
        refine ⟨d, L, _, _, rfl, rfl, by rw [upd_ne ndL]; exact e1, upd_same, ?_, ?_⟩
        · rw [List.length_map]; exact Nat.le_trans (show ms.length + 2 ≤ 10000 by omega) (by decide)
        refine ⟨ms ++ [?x1, ?x2], _, _, _, _, rfl, (s1.trans (Same.new hL)).kbn hd KB.write, ?eq, ?len⟩
        case eq => rw [upd_same, List.map_append]; rfl
        case len => rw [List.length_append]; show ms.length + 2 ≤ _; omega
    · rintro σ H1 ⟨ms, v3, v4, v5, v6, rfl, s1, e1, hl⟩
      have hl' : ms.length ≤ 3780 := by split at hl <;> omega
      refine ⟨_, rfl, _, ms.length, rfl, .inl ⟨_, .of e1, by rw [List.length_map]⟩, _, rfl, (ms.length : Int), 400, rfl, by omega, for_range (fun j σ H' => ∃ (ms' : List Int) (v3 v4 v5 v6 : Option V), σ = [some (.ref sa), some (.int 400), some (.ref d), v3, v4, v5, v6] ∧ Same H H' ∧ H' d = some (.lst (ms'.map V.int)) ∧ ms'.length = ms.length + j)
        ⟨ms, v3, v4, v5, v6, rfl, s1, e1, rfl⟩ ?_ ?_⟩
      · rintro j σ H2 hj ⟨ms', v3, v4, v5, v6, rfl, s2, e2, hl2⟩
        dsimp only [gName]
        refine seq_const ?_
        refine seq_rest (t := tIfS _ _ _) (u := tSeq _ _) (fun σ H' => ∃ (x : Int), σ = [some (.ref sa), some (.int 400), some (.ref d), some (.int ((ms.length : Int) + (j : Int))), v4, v5, some (.int x)] ∧ H' = H2) ?_ (fun rest => ?_)
        · rintro σ H3 ⟨x, rfl, rfl⟩
          refine ⟨_, rfl, _, _, rfl, rfl, .inr (by decide), _, rfl, _, _, rfl, rfl, .inl (by decide), _, _, rfl, rfl, _, _, rfl, rfl, _, _, rfl, rfl, cpos (by decide), ?_⟩
          refine ⟨_, rfl, _, rfl, _, _, rfl, rfl, ⟨by decide, by decide⟩, _, _, rfl, rfl, _, _, rfl, rfl, mul1 _ _, _, rfl, _, _, rfl, rfl, .inl (by decide), _, _, rfl, rfl, _, _, rfl, rfl, cpos (by decide), ?_⟩
          refine ⟨_, rfl, .inl ⟨rfl, _, .of e2⟩, _, rfl, _, _, rfl, rfl, .inr (by decide), _, _, rfl, rfl, cpos (by decide), _, _, rfl, rfl, cpos (by decide), d, _, _, rfl, rfl, e2, ?_, ?_⟩
          · rw [List.length_map]; exact Nat.lt_of_lt_of_le (show ms'.length < 10000 by omega) (by decide)
          refine ⟨ms' ++ [?y1], _, _, _, _, rfl, s2.kbn hd KB.write, ?eq2, ?len2⟩
          case eq2 => rw [upd_same, List.map_append]; rfl
          case len2 => rw [List.length_append, hl2]; rfl
        · refine ⟨_, rfl, _, ns.length, rfl, lenS s2, _, _, rfl, rfl, _, rfl, ?_⟩
          refine ite2 (fun hp => ?_) (fun _ => rest _ _ ⟨11, rfl, rfl⟩)
          have hp' : 0 < ns.length := by have := of_decide_eq_true hp; omega
          refine ⟨_, rfl, _, rfl, _, rfl, _, ns.length, rfl, lenS s2, 63, (ns.length : Int), rfl, _, _, rfl, rfl, cpos (by split <;> omega), ?_⟩
          obtain ⟨q, hq1, hq2⟩ : ∃ q : Nat, ((ms.length : Int) + (j : Int)) % (if (ns.length : Int) < 63 then (ns.length : Int) else 63) = (q : Int) ∧ q < ns.length := by
            refine ⟨(((ms.length : Int) + (j : Int)) % (if (ns.length : Int) < 63 then (ns.length : Int) else 63)).toNat, ?_, ?_⟩
            · have := Int.emod_nonneg ((ms.length : Int) + (j : Int)) (show (if (ns.length : Int) < 63 then (ns.length : Int) else 63) ≠ 0 by split <;> omega)
              omega
            · have := Int.emod_nonneg ((ms.length : Int) + (j : Int)) (show (if (ns.length : Int) < 63 then (ns.length : Int) else 63) ≠ 0 by split <;> omega)
              have h2 := Int.emod_lt_of_pos ((ms.length : Int) + (j : Int)) (show (0 : Int) < (if (ns.length : Int) < 63 then (ns.length : Int) else 63) by split <;> omega)
              split at h2 <;> split <;> omega
          obtain ⟨c, hc⟩ : ∃ c, ns[q]? = some c := ⟨_, List.getElem?_eq_getElem hq2⟩
          refine ⟨sa, _, _, V.int c, rfl, rfl, s2.seq hS, ?_, _, _, rfl, rfl, cpos (by decide), rest _ _ ⟨_, rfl, rfl⟩⟩
          rw [hq1]
          exact atI_nat (by rw [List.getElem?_map, hc]; rfl)
      · rintro σ H2 ⟨ms', v3, v4, v5, v6, rfl, s2, e2, hl2⟩
        refine ⟨_, rfl, _, rfl, _, rfl, d, _, rfl, .of e2, fun D hD => ?_⟩
        rw [show (some (400 : Int)) = some ((400 : Nat) : Int) from rfl, cutTake]
        refine ⟨_, rfl, .inl ⟨rfl, _, .of upd_same⟩, D, _, rfl, rfl, upd_same, ?_⟩
        exact ⟨_, rfl, k D _ (s2.free hD) ((s2.trans (Same.new hD)).kbn (s2.free hD) KB.write) ⟨(ms'.take 400).reverse, by rw [upd_same, List.map_reverse]⟩⟩
end
end My
set_option Elab.async false
set_option linter.all false
set_option maxRecDepth 100000
set_option maxHeartbeats 4000000
namespace My
open PySem L2
def abc (g : Bool) : Str := if g then "ABCDEFGHIJKLMNOPQRSTUVWXYZ" else "abcdefghijklmnopqrstuvwxyz"
theorem abc_len (g : Bool) : (abc g).cps.toList.length = 26 := by cases g <;> decide +kernel
theorem abc_len' (g : Bool) : (abc g).length ≤ sizeLine := by
  have : (abc g).length = 26 := by cases g <;> decide +kernel
  rw [this]; decide
theorem abc_at (g : Bool) (r : Int) (h0 : 0 ≤ r) (h1 : r < 26) : ∃ c, atI (abc g).cps.toList r = some c := by
  obtain ⟨n, hn⟩ : ∃ n : Nat, r = (n : Int) := ⟨r.toNat, by omega⟩
  subst hn
  exact ⟨_, atI_nat (List.getElem?_eq_getElem (by rw [abc_len]; omega))⟩
theorem strApp (a y : PySem.Str) : (a ++ y).cps.toList = a.cps.toList ++ y.cps.toList := by
  show (a.cps ++ y.cps).toList = _
  rw [Array.toList_append]
def letC (g : Bool) (x : Int) : Nat := (abc g).cps.toList.getD x.toNat 0
theorem letC_at {g : Bool} {x : Int} {c : Nat} (h0 : 0 ≤ x) (h1 : x < 26) (h : atI (abc g).cps.toList x = some c) : c = letC g x := by
  obtain ⟨n, rfl⟩ : ∃ n : Nat, x = (n : Int) := ⟨x.toNat, by omega⟩
  have e : atI (abc g).cps.toList (n : Int) = (abc g).cps.toList[n]? := by
    have := List.getElem?_eq_getElem (l := (abc g).cps.toList) (i := n) (by rw [abc_len]; omega)
    rw [atI_nat this, this]
  rw [e] at h
  unfold letC
  rw [Int.toNat_natCast, List.getD_eq_getElem?_getD, h]
  rfl
theorem letC_inj {g : Bool} {x y : Int} (x0 : 0 ≤ x) (x1 : x < 26) (y0 : 0 ≤ y) (y1 : y < 26) (h : letC g x = letC g y) : x = y := by
  have key : ∀ g : Bool, ∀ i j : Fin 26, (abc g).cps.toList.getD i.val 0 = (abc g).cps.toList.getD j.val 0 → i = j := by decide +kernel
  have := key g ⟨x.toNat, by omega⟩ ⟨y.toNat, by omega⟩ h
  have e : x.toNat = y.toNat := Fin.mk.inj this
  omega
def shI (rs : List Int) (pl : Int) (i j : Nat) : Int := (rs.getD j 0 + (i : Int) * (if (j : Int) = pl then 1 else 0)) % 26
theorem shI_lt (rs : List Int) (pl : Int) (i j : Nat) : 0 ≤ shI rs pl i j ∧ shI rs pl i j < 26 := ⟨Int.emod_nonneg _ (by decide), Int.emod_lt_of_pos _ (by decide)⟩
def cw (g : Bool) (rs : List Int) (pl : Int) (i : Nat) : List Nat := (List.range rs.length).map fun j => letC g (shI rs pl i j)
theorem cw_len (g : Bool) (rs : List Int) (pl : Int) (i : Nat) : (cw g rs pl i).length = rs.length := by simp [cw]
theorem cw_at {g : Bool} {rs : List Int} {pl : Int} {i j : Nat} (h : j < rs.length) : (cw g rs pl i)[j]? = some (letC g (shI rs pl i j)) := by
  unfold cw
  rw [List.getElem?_map, List.getElem?_range h]
  rfl
theorem cw_inj {g : Bool} {rs : List Int} {pl : Int} {i k : Nat} (p0 : 0 ≤ pl) (p1 : pl < rs.length) (hi : i < 26) (hk : k < 26) (h : cw g rs pl i = cw g rs pl k) : i = k := by
  have hp : pl.toNat < rs.length := by omega
  have e1 := cw_at (g := g) (pl := pl) (i := i) hp
  rw [h, cw_at hp] at e1
  have e2 := letC_inj (shI_lt rs pl k _).1 (shI_lt rs pl k _).2 (shI_lt rs pl i _).1 (shI_lt rs pl i _).2 (Option.some.inj e1)
  unfold shI at e2
  rw [if_pos (by omega)] at e2
  omega
theorem cw_alike {g : Bool} {rs : List Int} {pl : Int} {i k j : Nat} (h : (j : Int) ≠ pl) (hj : j < rs.length) : (cw g rs pl i)[j]? = (cw g rs pl k)[j]? := by
  rw [cw_at hj, cw_at hj]
  unfold shI
  rw [if_neg h, Int.mul_zero, Int.mul_zero]
def nots : List (List Nat) := [("not" : Str).cps.toList, ("and" : Str).cps.toList, ("or" : Str).cps.toList]
def fw (g : Bool) (rs : List Int) (pl lo : Int) (i : Nat) : List Nat :=
  if cw g rs pl i ∈ nots then (cw g rs pl i).dropLast else if lo = 1 ∧ i % 2 = 1 ∧ rs.length < 3 then cw g rs pl i ++ [letC g 16] else cw g rs pl i
theorem fw_inj {g : Bool} {rs : List Int} {pl lo : Int} {i k : Nat} (l0 : 0 < rs.length) (p0 : 0 ≤ pl) (p1 : pl < rs.length) (hi : i < 26) (hk : k < 26) (h : fw g rs pl lo i = fw g rs pl lo k) : i = k := by
  have li := cw_len g rs pl i
  have lk := cw_len g rs pl k
  unfold fw at h
  by_cases ni : cw g rs pl i ∈ nots
  · rw [if_pos ni] at h
    by_cases nk : cw g rs pl k ∈ nots
    · rw [if_pos nk] at h
      refine cw_inj (g := g) p0 p1 hi hk ?_
      unfold nots at ni nk
      simp only [List.mem_cons, List.not_mem_nil, or_false] at ni nk
      have at_ : ∀ j : Nat, (j : Int) ≠ pl → j < rs.length → (cw g rs pl i)[j]? = (cw g rs pl k)[j]? := fun j a b => cw_alike a b
      rcases ni with a | a | a <;> rcases nk with b | b | b <;> first | (rw [a, b]; done) | skip
      all_goals (exfalso; rw [a, b] at at_; rw [a] at li; rw [b] at lk)
      · have l3 : rs.length = 3 := by rw [← li]; decide
        have h0 := at_ 0
        have h1 := at_ 1
        by_cases z : pl = 0
        · exact absurd (h1 (by omega) (by omega)) (by decide)
        · exact absurd (h0 (by omega) (by omega)) (by decide)
      · rw [← lk] at li; exact absurd li (by decide)
      · have l3 : rs.length = 3 := by rw [← li]; decide
        have h0 := at_ 0
        have h1 := at_ 1
        by_cases z : pl = 0
        · exact absurd (h1 (by omega) (by omega)) (by decide)
        · exact absurd (h0 (by omega) (by omega)) (by decide)
      · rw [← lk] at li; exact absurd li (by decide)
      · rw [← lk] at li; exact absurd li (by decide)
      · rw [← lk] at li; exact absurd li (by decide)
    · rw [if_neg nk] at h
      have := congrArg List.length h
      rw [List.length_dropLast, li] at this
      split at this
      · rw [List.length_append, lk] at this; simp at this <;> omega
      · rw [lk] at this; omega
  · rw [if_neg ni] at h
    by_cases nk : cw g rs pl k ∈ nots
    · rw [if_pos nk] at h
      have := congrArg List.length h
      rw [List.length_dropLast, lk] at this
      split at this
      · rw [List.length_append, li] at this; simp at this <;> omega
      · rw [li] at this; omega
    · rw [if_neg nk] at h
      split at h <;> split at h
      · exact cw_inj p0 p1 hi hk (List.append_cancel_right h)
      · have := congrArg List.length h; rw [List.length_append, li, lk] at this; simp at this
      · have := congrArg List.length h; rw [List.length_append, li, lk] at this; simp at this
      · exact cw_inj p0 p1 hi hk h
theorem join_codes : ∀ l : List Nat, (Txt.join ("" : Str) (l.map fun c => (⟨#[c]⟩ : Str))).cps.toList = l := by
  intro l
  unfold Txt.join
  rw [StrLaws.glued_eq_join]
  induction l with
  | nil => rfl
  | cons c l ih =>
    cases l with
    | nil => rfl
    | cons c2 l =>
      rw [List.map_cons, List.map_cons] at *
      show ((⟨#[c]⟩ : Str) ++ ("" : Str) ++ Str.join "" ((⟨#[c2]⟩ : Str) :: l.map fun c => (⟨#[c]⟩ : Str))).cps.toList = _
      rw [strApp, strApp, ih]
      rfl
theorem nodup_by {α : Type} {l : List α} : l.Nodup ↔ ∀ i j : Nat, i < j → j < l.length → l[i]? ≠ l[j]? := by
  unfold List.Nodup
  rw [List.pairwise_iff_getElem]
  constructor
  · intro h i j hij hj e
    rw [List.getElem?_eq_getElem (by omega), List.getElem?_eq_getElem hj] at e
    exact h i j (by omega) hj hij (Option.some.inj e)
  · intro h i j hi hj hij e
    exact h i j hij hj (by rw [List.getElem?_eq_getElem hi, List.getElem?_eq_getElem hj, e])
theorem nodup_set {α : Type} {l : List α} (h : l.Nodup) {y : α} (hy : y ∉ l) (q : Nat) : (l.set q y).Nodup := by
  rw [nodup_by] at h ⊢
  intro i j hij hj
  rw [List.length_set] at hj
  intro e
  rw [List.getElem?_set, List.getElem?_set] at e
  have hm : ∀ t, t < l.length → l[t]? ≠ some y := fun t _ z => hy (List.mem_of_getElem? z)
  by_cases a : q = i <;> by_cases b : q = j
  · omega
  · rw [if_pos a, if_neg b, if_pos (by omega)] at e; exact hm j hj e.symm
  · rw [if_neg a, if_pos b, if_pos (by omega)] at e; exact hm i (by omega) e
  · rw [if_neg a, if_neg b] at e; exact h i j hij hj e
def wdS (g : Bool) (rs : List Int) (pl lo : Int) (i : Nat) : Str := ⟨(fw g rs pl lo i).toArray⟩
theorem wd_nodup {g : Bool} {rs : List Int} {pl lo : Int} (l0 : 0 < rs.length) (p0 : 0 ≤ pl) (p1 : pl < rs.length) (m : Nat) (hm : m ≤ 26) : ((List.range m).map (wdS g rs pl lo)).Nodup := by
  rw [nodup_by]
  intro i j hij hj e
  rw [List.length_map, List.length_range] at hj
  rw [List.getElem?_map, List.getElem?_map, List.getElem?_range (by omega), List.getElem?_range hj] at e
  have e1 : wdS g rs pl lo i = wdS g rs pl lo j := Option.some.inj e
  have e2 : fw g rs pl lo i = fw g rs pl lo j := by
    have := congrArg (fun z : Str => z.cps.toList) e1
    simpa [wdS] using this
  have := fw_inj l0 p0 p1 (by omega) (by omega) e2
  omega
theorem str_codes {x y : Str} (h : x.cps.toList = y.cps.toList) : x = y := by
  obtain ⟨a⟩ := x
  obtain ⟨b⟩ := y
  have : a = b := Array.toList_inj.mp h
  rw [this]
theorem inV_strs (z : Str) : ∀ l : List Str, inV (.str z) (l.map V.str) = decide (z ∈ l)
  | [] => by simp [inV]
  | x :: l => by
    have ih := inV_strs z l
    unfold inV at ih ⊢
    rw [List.map_cons, List.any_cons, ih]
    show ((x == z) || _) = _
    by_cases e : x = z
    · subst e; simp
    · have e' : ¬ z = x := fun q => e q.symm
      simp [e, e']
theorem nots_in {z : Str} {l : List Nat} (e : z.cps.toList = l) : z ∈ (["not", "and", "or"] : List Str) ↔ l ∈ nots := by
  unfold nots
  subst e
  simp only [List.mem_cons, List.not_mem_nil, or_false]
  constructor
  · rintro (rfl | rfl | rfl)
    · exact .inl rfl
    · exact .inr (.inl rfl)
    · exact .inr (.inr rfl)
  · rintro (h | h | h)
    · exact .inl (str_codes h)
    · exact .inr (.inl (str_codes h))
    · exact .inr (.inr (str_codes h))
theorem slice_nots {z : Str} (h : z ∈ (["not", "and", "or"] : List Str)) : (Txt.slice z none (some (-1))).cps.toList = z.cps.toList.dropLast := by
  simp only [List.mem_cons, List.not_mem_nil, or_false] at h
  rcases h with rfl | rfl | rfl <;> decide +kernel
theorem wd_cut {g : Bool} {rs : List Int} {pl lo : Int} {i : Nat} {z : Str} (e : z.cps.toList = cw g rs pl i) (h : z ∈ (["not", "and", "or"] : List Str)) : Txt.slice z none (some (-1)) = wdS g rs pl lo i := by
  refine str_codes ?_
  rw [slice_nots h, e]
  show _ = (fw g rs pl lo i).toArray.toList
  unfold fw
  rw [if_pos ((nots_in e).mp h)]
theorem wd_app {g : Bool} {rs : List Int} {pl lo : Int} {i : Nat} {z : Str} {c : Nat} (e : z.cps.toList = cw g rs pl i) (h : z ∉ (["not", "and", "or"] : List Str)) (hc : c = letC g 16) (h1 : lo = 1) (h2 : i % 2 = 1) (h3 : z.length < 3) : z ++ (⟨#[c]⟩ : Str) = wdS g rs pl lo i := by
  refine str_codes ?_
  rw [strApp, e]
  show _ = (fw g rs pl lo i).toArray.toList
  unfold fw
  have l : rs.length < 3 := by rw [← cw_len g rs pl i, ← e]; exact h3
  rw [if_neg (fun q => h ((nots_in e).mpr q)), if_pos ⟨h1, h2, l⟩, hc]
theorem wd_same {g : Bool} {rs : List Int} {pl lo : Int} {i : Nat} {z : Str} (e : z.cps.toList = cw g rs pl i) (h : z ∉ (["not", "and", "or"] : List Str)) (h1 : ¬ (lo = 1 ∧ i % 2 = 1 ∧ z.length < 3)) : z = wdS g rs pl lo i := by
  refine str_codes ?_
  rw [e]
  show _ = (fw g rs pl lo i).toArray.toList
  unfold fw
  have l : rs.length = z.length := by rw [← cw_len g rs pl i, ← e]; rfl
  rw [if_neg (fun q => h ((nots_in e).mpr q)), if_neg (by rw [l]; exact h1)]
def seven : List Str := ["ora", "orb", "ort", "orz", "orr", "oro", "ors"]
theorem drop_one {n : Str} : ∀ (cs : List Str), cs.Nodup → cs.length ≤ (cs.filter fun c => !decide (n = c)).length + 1
  | [], _ => by simp
  | c :: cs, h => by
    rw [List.nodup_cons] at h
    by_cases e : n = c
    · subst e
      have : (cs.filter fun c => !decide (n = c)) = cs := by
        rw [List.filter_eq_self]
        intro x hx
        have : n ≠ x := fun z => h.1 (z ▸ hx)
        simp [this]
      simp [this]
    · have := drop_one (n := n) cs h.2
      simp [e]
      omega
theorem enough : ∀ (ns cs : List Str), cs.Nodup → cs.length ≤ (cs.filter fun c => !(inV (.str c) (ns.map V.str))).length + ns.length
  | [], cs, _ => by
    have : (cs.filter fun c => !(inV (.str c) (([] : List Str).map V.str))) = cs := by
      rw [List.filter_eq_self]; intro x hx; rfl
    rw [this]; simp
  | n :: ns, cs, h => by
    have h1 := enough ns cs h
    have h2 := drop_one (n := n) (cs.filter fun c => !(inV (.str c) (ns.map V.str))) (h.sublist List.filter_sublist)
    have e : (cs.filter fun c => !(inV (.str c) ((n :: ns).map V.str))) = (cs.filter fun c => !(inV (.str c) (ns.map V.str))).filter fun c => !decide (n = c) := by
      rw [List.filter_filter]
      congr 1
      funext c
      unfold inV
      rw [List.map_cons, List.any_cons]
      show (!((n == c) || _)) = _
      rw [Bool.not_or]
      congr 1
      first | done | (by_cases z : n = c <;> simp [z])
    rw [e, List.length_cons]
    omega
def spNames : Sp := fun vs H Q _ => ∃ (d : Addr) (m : Nat) (g : Bool), vs = [.ref d, .int m, .bl g] ∧ Deck2 H d ∧ m ≤ 6 ∧
  ∀ (N : Addr) (ss : List Str) (H' : Hp), H N = none → KB d H H' → Deck2 H' d → H' N = some (.lst (ss.map V.str)) → ss.length = m → ss.Nodup → Q (.ref N) H'
section
variable {P : Program} {w : World} {K : PySem.W.Frag} {mg : Str → Option Value} {base : Heap}
theorem sc_l_names : FnScope ["_law_deck_here", "_law_many", "_law_great", "_law_letters", "_law_base", "_law_place", "_law_longer", "_law_names_here", "_law_k", "_law_word", "_law_some"] ["_law_deck_here", "_law_many", "_law_great"] (defScope s_l_names) := ⟨rfl, rfl, rfl, by decide +kernel, rfl, by decide +kernel, by decide +kernel⟩
theorem ok_l_names {a : Adr} (T : Txt K mg a) : FnOk P w K mg base CX0 2 a.f_l_names a.fd_l_names ["_law_deck_here", "_law_many", "_law_great"] spNames := by
  have G_l_next : FnOk P w K mg base CX0 1 a.f_l_next a.fd_l_next ["_law_deck_here", "_law_many"] spNext2 := ok_l_next T
  refine T.F_l_names.ok sc_l_names (fun vs H Q E h => ?_) (fun cdv A outer s H vs Q E hr h => ?_)
  · obtain ⟨d, m, g, rfl, _⟩ := h
    rfl
  · obtain ⟨d, m, g, rfl, hd, hm, k⟩ := h
    have hr_l_next : Room 1 _ := hr
    refine ⟨_, (pss_cons (ps_set (i := 3) sc_l_names.nd rfl (Or.inr rfl) (pe_ix (ix_listK K) (pe_lst (pa_cons pe_str (pa_cons pe_str pa_nil))) (pe_callTy call_int1 (by rfl) T.z_int bt_int (pa_cons (pv 2) pa_nil)) (fun _ _ => rfl)))
    (pss_cons (ps_set (i := 4) sc_l_names.nd rfl (Or.inr rfl) (pe_comp (CompScope.mk' (esc := defScope s_l_names) (N := ["_law_deck_here", "_law_many", "_law_great", "_law_letters", "_law_base", "_law_place", "_law_longer", "_law_names_here", "_law_k", "_law_word", "_law_some"]) (own := ["_law_k"]) (frn := ["_law_deck_here"]) (frj := [0]) rfl rfl (by decide +kernel)) rfl (pi_range1 rfl T.z_range (pa_cons (pe_op op_add pe_int (pe_call G_l_next hr_l_next rfl T.m_l_next T.k_l_next T.b_l_next .nil pass0 (pa_cons (pv 0) (pa_cons pe_int pa_nil)))) pa_nil)) (fun _ _ _ _ => (pg_name (i := 0) (show List.Nodup (["_law_k", "_law_deck_here"] : List Str) by decide +kernel) rfl (Or.inl rfl))) (fun _ _ _ _ => pifs_nil) (fun _ _ _ _ => (pe_call G_l_next hr_l_next rfl T.m_l_next T.k_l_next T.b_l_next .nil pass0 (pa_cons (pv 1) (pa_cons pe_int pa_nil))))))
    (pss_cons (ps_set (i := 5) sc_l_names.nd rfl (Or.inr rfl) (pe_call G_l_next hr_l_next rfl T.m_l_next T.k_l_next T.b_l_next .nil pass0 (pa_cons (pv 0) (pa_cons (pe_callB (call_lenK K) (by rfl) T.z_len bt_len (pa_cons (pv 4) pa_nil)) pa_nil))))
    (pss_cons (ps_set (i := 6) sc_l_names.nd rfl (Or.inl rfl) (pe_call G_l_next hr_l_next rfl T.m_l_next T.k_l_next T.b_l_next .nil pass0 (pa_cons (pv 0) (pa_cons pe_int pa_nil))))
    (pss_cons (ps_set (i := 7) sc_l_names.nd rfl (Or.inr rfl) (pe_lst pa_nil))
    (pss_cons (ps_for PassesOwn.never rfl (pi_range1 rfl T.z_range (pa_cons (pv 1) pa_nil)) (pg_name (i := 8) sc_l_names.nd rfl (Or.inr rfl))
      (pss_cons (ps_set (i := 9) sc_l_names.nd rfl (Or.inl rfl) (pe_bm PySem.F.plainAttrs_str PySem.F.slot_str_join PySem.F.type_str_join (mt_joinK K) pe_str (pa_cons (pe_comp (CompScope.mk' (esc := defScope s_l_names) (N := ["_law_deck_here", "_law_many", "_law_great", "_law_letters", "_law_base", "_law_place", "_law_longer", "_law_names_here", "_law_k", "_law_word", "_law_some"]) (own := ["_law_j"]) (frn := ["_law_letters", "_law_base", "_law_k", "_law_place"]) (frj := [3, 4, 8, 5]) rfl rfl (by decide +kernel)) rfl (pi_range1 rfl T.z_range (pa_cons (pe_callB (call_lenK K) (by rfl) T.z_len bt_len (pa_cons (pv 4) pa_nil)) pa_nil)) (fun _ _ _ _ => (pg_name (i := 0) (show List.Nodup (["_law_j", "_law_letters", "_law_base", "_law_k", "_law_place"] : List Str) by decide +kernel) rfl (Or.inl rfl))) (fun _ _ _ _ => pifs_nil) (fun _ _ _ _ => (pe_ix ix_str (pv 1) (pe_op op_modP (pe_op op_add (pe_ix (ix_listK K) (pv 2) (pv 0) (fun _ _ => rfl)) (pe_op op_mul (pv 3) (pe_callTy call_int1 (by rfl) T.z_int bt_int (pa_cons (pe_cmpR op_eq (pv 0) (pv 4) (nomark _)) pa_nil)))) pe_int) (fun _ _ => rfl)))) pa_nil)))
      (pss_cons (ps_if (pt_cmpR (op_inK K) (pv 9) (pe_lst (pa_cons pe_str (pa_cons pe_str (pa_cons pe_str pa_nil)))) (by with_unfolding_all rfl))
        (pss_one (ps_set (i := 9) sc_l_names.nd rfl (Or.inl rfl) (pe_slice sl_str (pv 9) po_none (po_some (pe_un un_neg pe_int)))))
        (pss_one (ps_if (PW.pt (pw_and (pt_cmpR op_eq (pv 6) pe_int (nomark _)) (pw_and (pt_cmpR op_eq (pe_op op_modP (pv 8) pe_int) pe_int (nomark _)) (pw_and1 (pt_cmpR op_lt (pe_callB (call_lenK K) (by rfl) T.z_len bt_len (pa_cons (pv 9) pa_nil)) pe_int (nomark _))))))
          (pss_one (ps_set (i := 9) sc_l_names.nd rfl (Or.inl rfl) (pe_op op_add_str (pv 9) (pe_ix ix_str (pv 3) pe_int (fun _ _ => rfl)))))
          pss_nil)))
      (pss_one (ps_expr (pe_bm PySem.F.plainAttrs_list PySem.F.slot_list_append PySem.F.type_list_append mt_append (pv 7) (pa_cons (pv 9) pa_nil)))))))
    (pss_cons (ps_if (PW.pt (pw_and (pt_cmpR op_gt (pv 1) pe_int (nomark _)) (pw_and (pt_not (pt_truth (pv 2) (fun _ => rfl))) (pw_and1 (pt_cmpR op_eq (pe_call G_l_next hr_l_next rfl T.m_l_next T.k_l_next T.b_l_next .nil pass0 (pa_cons (pv 0) (pa_cons pe_int pa_nil))) pe_int (nomark _))))))
      (pss_cons (ps_setComp (i := 10) (CompScope.mk' (esc := defScope s_l_names) (N := ["_law_deck_here", "_law_many", "_law_great", "_law_letters", "_law_base", "_law_place", "_law_longer", "_law_names_here", "_law_k", "_law_word", "_law_some"]) (own := ["_law_word"]) (frn := ["_law_names_here"]) (frj := [7]) rfl rfl (by decide +kernel)) rfl (pi_list (pe_lst (pa_cons pe_str (pa_cons pe_str (pa_cons pe_str (pa_cons pe_str (pa_cons pe_str (pa_cons pe_str (pa_cons pe_str pa_nil))))))))) (fun _ _ _ _ => (pg_name (i := 0) (show List.Nodup (["_law_word", "_law_names_here"] : List Str) by decide +kernel) rfl (Or.inl rfl))) (fun _ _ _ _ => (pifs_one (pt_cmpR (op_notInK K) (pv 0) (pv 1) (by with_unfolding_all rfl)))) (fun _ _ _ _ => (pv 0)) sc_l_names.nd rfl rfl)
      (pss_one (ps_asg (pe_ix (ix_listK K) (pv 10) pe_int (fun _ _ => rfl)) (pg_sub (pv 7) (pe_call G_l_next hr_l_next rfl T.m_l_next T.k_l_next T.b_l_next .nil pass0 (pa_cons (pv 0) (pa_cons (pv 1) pa_nil))) set_list))))
      pss_nil)
    (pss_one (ps_ret (pv 7)))))))))), ?_⟩
    refine ⟨by show 2 ≤ sizeLine; decide, fun L hL => ⟨_, rfl, .inr ⟨g, rfl, L, _, _, .str (abc g), rfl, rfl, .of upd_same, by cases g <;> rfl, ?_⟩⟩⟩
    have s1 := Same.new (o := .lst [.str "abcdefghijklmnopqrstuvwxyz", .str "ABCDEFGHIJKLMNOPQRSTUVWXYZ"]) hL
    have d1 := hd.same s1
    refine ⟨_, rfl, d, 3, rfl, d1, by decide, fun t H2 t0 t1 k2 d2 => ⟨_, _, rfl, rfl, _, rfl, by omega, by omega, fun B hB => ?_⟩⟩
    have nBd : B ≠ d := (d2.ne hB).symm
    refine comp_range (fun i σ H' => ∃ (rs : List Int) (v : Option V), σ = [v, some (.ref d)] ∧ KB d H2 H' ∧ Deck2 H' d ∧ H' B = some (.lst (rs.map V.int)) ∧ rs.length = i)
      ⟨[], none, rfl, (Same.new hB).kb, d2.same (Same.new hB), upd_same, rfl⟩ ?_ ?_
    · rintro i σ H3 hi ⟨rs, v, rfl, k3, d3, e3, lr⟩
      refine ⟨_, rfl, d, 26, rfl, d3, by decide, fun r H4 r0 r1 k4 d4 => ?_⟩
      refine ⟨rs.map V.int, k4 _ _ e3 nBd, ?_, rs ++ [r], _, rfl, ?_, d4.kb KB.write nBd.symm, ?_, ?_⟩
      · rw [List.length_map]; exact Nat.lt_of_lt_of_le (show rs.length < 100 by omega) (by decide)
      · intro b o e n
        rw [upd_ne (ne_of_none e hB)]
        exact k4 b o (k3 b o e n) n
      · rw [upd_same, List.map_append]; rfl
      · rw [List.length_append, lr]; rfl
    rintro σ H3 ⟨rs, v, rfl, k3, d3, e3, lr⟩
    have lr' : 0 < rs.length ∧ rs.length ≤ 3 := by omega
    refine ⟨_, rfl, _, rfl, _, rs.length, rfl, .inl ⟨_, .of e3, by rw [List.length_map]⟩, d, (rs.length : Int), rfl, d3, by omega, fun pl H4 p0 p1 k4 d4 => ?_⟩
    have e4 := k4 _ _ e3 nBd
    refine ⟨_, rfl, d, 2, rfl, d4, by decide, fun lo H5 l0 l1 k5 d5 => ?_⟩
    have e5 := k5 _ _ e4 nBd
    refine ⟨by decide, fun N hN => ?_⟩
    have nNd : N ≠ d := (d5.ne hN).symm
    have nBN : B ≠ N := ne_of_none e5 hN
    have kAll : KB d H H5 := (((s1.kb).trans k2).trans k3).trans (k4.trans k5)
    have hN0 : H N = none := by
      cases z : H N with
      | none => rfl
      | some o =>
        have := kAll N o z nNd
        rw [hN] at this; cases this
    refine ⟨_, rfl, m, rfl, by omega, by omega, for_range (n := (m : Int).toNat) (fun i σ H' => ∃ (ss : List Str) (v8 v9 : Option V), σ = [some (.ref d), some (.int m), some (.bl g), some (.str (abc g)), some (.ref B), some (.int pl), some (.int lo), some (.ref N), v8, v9, none] ∧ KB d H H' ∧ Deck2 H' d ∧ H' B = some (.lst (rs.map V.int)) ∧ H' N = some (.lst (ss.map V.str)) ∧ ss.length = i ∧ ss = (List.range i).map (wdS g rs pl lo))
      ⟨[], none, none, rfl, kAll.trans (Same.new hN).kb, d5.same (Same.new hN), by rw [upd_ne nBN]; exact e5, upd_same, rfl, rfl⟩ ?_ ?_⟩
    · rintro i σ H6 hi ⟨ss, v8, v9, rfl, k6, d6, e6, n6, ls, ess⟩
      rw [Int.toNat_natCast] at hi
      refine ⟨rfl, _, rfl, _, rs.length, rfl, .inl ⟨_, .of e6, by rw [List.length_map]⟩, _, rfl, by omega, by omega, fun C hC => ?_⟩
      refine comp_range (fun j σ H' => ∃ (ys : List Str) (v : Option V), σ = [v, some (.str (abc g)), some (.ref B), some (.int (0 + (i : Int))), some (.int pl)] ∧ Same H6 H' ∧ H' C = some (.lst (ys.map V.str)) ∧ ys.length = j ∧ (ys.map (·.length)).sum = j ∧ ys = (List.range j).map fun t => (⟨#[letC g (shI rs pl i t)]⟩ : Str))
        ⟨[], none, rfl, Same.new hC, upd_same, rfl, rfl, rfl⟩ ?_ ?_
      · rintro j σ H7 hj ⟨ys, v, rfl, s7, e7, ly, ly2, eys⟩
        rw [Int.toNat_natCast] at hj
        obtain ⟨q, hq⟩ : ∃ q, rs[j]? = some q := ⟨_, List.getElem?_eq_getElem hj⟩
        refine ⟨_, rfl, _, rfl, _, rfl, B, _, _, V.int q, rfl, rfl, .of (s7 _ _ e6), ?_, _, rfl, _, rfl, _, rfl, rfl, .inr ⟨_, rfl, _, _, rfl, rfl, .inl (by constructor <;> omega), _, _, rfl, rfl, _, _, rfl, rfl, cpos (by decide), ?_⟩⟩
        · rw [show (0 : Int) + (j : Int) = (j : Int) by omega]
          exact atI_nat (by rw [List.getElem?_map, hq]; rfl)
        generalize hx : (q + (0 + (i : Int)) * (if decide (V.int (0 + (j : Int)) = V.int pl) then 1 else 0)) % 26 = x
        have x0 : 0 ≤ x := by rw [← hx]; exact Int.emod_nonneg _ (by decide)
        have x1 : x < 26 := by rw [← hx]; exact Int.emod_lt_of_pos _ (by decide)
        obtain ⟨c, hc⟩ := abc_at g x x0 x1
        refine ⟨abc g, x, c, rfl, by rw [← hx], abc_len' g, hc, ys.map V.str, e7, ?_, ys ++ [⟨#[c]⟩], _, rfl, s7.kbn hC KB.write, ?_, ?_, ?_, ?_⟩
        · rw [List.length_map]; exact Nat.lt_of_lt_of_le (show ys.length < 100 by omega) (by decide)
        · rw [upd_same, List.map_append]; rfl
        · rw [List.length_append, ly]; rfl
        · rw [List.map_append, List.sum_append, ly2]; rfl
        · have ex : x = shI rs pl i j := by
            rw [← hx]
            unfold shI
            rw [List.getD_eq_getElem?_getD, hq]
            have e1 : (0 : Int) + (i : Int) = (i : Int) := by omega
            have e2 : (if decide (V.int (0 + (j : Int)) = V.int pl) = true then (1 : Int) else 0) = if (j : Int) = pl then 1 else 0 := by
              by_cases z : (j : Int) = pl
              · rw [dI (by omega), if_pos z]; rfl
              · rw [dIn (by omega), if_neg z]; rfl
            rw [e1, e2]
            rfl
          rw [letC_at x0 x1 hc, ex, List.range_succ, List.map_append, eys]
          rfl
      rintro σ H7 ⟨ys, v, rfl, s7, e7, ly, ly2, eys⟩
      rw [Int.toNat_natCast] at ly ly2 eys
      refine ⟨"", C, ys, rfl, rfl, .of e7, ?_, fun z hz hze => ?_⟩
      · rw [ly2, ly]
        have : (Str.length ("" : Str)) = 0 := rfl
        rw [this]; omega
      have zlen : z.length ≤ sizeLine := hz
      have zc : z.cps.toList = cw g rs pl i := by
        rw [hze, eys, show ((List.range rs.length).map fun t => (⟨#[letC g (shI rs pl i t)]⟩ : Str)) = (cw g rs pl i).map fun c => (⟨#[c]⟩ : Str) by unfold cw; rw [List.map_map]; rfl]
        exact join_codes _
      dsimp only [gName]
      have k7 : KB d H H7 := k6.trans s7.kb
      refine seq_rest (t := tIfS _ _ _) (u := tDrop _) (fun σ H' => ∃ z : Str, σ = [some (.ref d), some (.int m), some (.bl g), some (.str (abc g)), some (.ref B), some (.int pl), some (.int lo), some (.ref N), some (.int (0 + (i : Int))), some (.str z), none] ∧ Same H7 H' ∧ z = wdS g rs pl lo i) ?_ (fun rest => ?_)
      · rintro σ H8 ⟨z, rfl, s8, ez⟩
        have n8 := s8 _ _ (s7 _ _ n6)
        refine ⟨_, rfl, .inl ⟨rfl, _, .of n8⟩, _, rfl, N, _, _, rfl, rfl, n8, ?_, ?_⟩
        · rw [List.length_map]; exact Nat.lt_of_lt_of_le (show ss.length < 100 by omega) (by decide)
        refine ⟨ss ++ [z], _, _, rfl, ?_, ((d6.same s7).same s8).kb KB.write nNd.symm, ?_, ?_, ?_, by rw [List.range_succ, List.map_append, ess, ez]; rfl⟩
        · intro b o e n
          rw [upd_ne (ne_of_none e hN0)]
          exact s8 _ _ (k7 b o e n)
        · rw [upd_ne nBN]; exact s8 _ _ (s7 _ _ e6)
        · rw [upd_same, List.map_append]; rfl
        · rw [List.length_append, ls]; rfl
      · refine ⟨_, rfl, by show 3 ≤ sizeLine; decide, fun W hW => ⟨W, _, rfl, .inl (.of upd_same), rfl, rfl, _, rfl, ?_⟩⟩
        have sW := Same.new (o := .lst [.str "not", .str "and", .str "or"]) hW
        rw [show inV (V.str z) [V.str "not", V.str "and", V.str "or"] = decide (z ∈ (["not", "and", "or"] : List Str)) from inV_strs z ["not", "and", "or"]]
        refine ite2 (fun hn => ?_) (fun hn => ?_)
        · exact ⟨_, rfl, _, rfl, _, rfl, z, rfl, hz, rest _ _ ⟨_, rfl, sW, wd_cut zc (of_decide_eq_true hn)⟩⟩
        · have hn' : z ∉ (["not", "and", "or"] : List Str) := fun q => hn (decide_eq_true q)
          refine ⟨_, rfl, rfl, _, rfl, ?_⟩
          refine ite2 (fun h1 => ?_) (fun h1 => iteF (rest _ _ ⟨z, rfl, sW, wd_same zc hn' fun q => h1 (dI q.1)⟩))
          have h1' : lo = 1 := V.int.inj (of_decide_eq_true h1)
          refine ⟨_, rfl, _, _, rfl, rfl, cpos (by decide), rfl, _, rfl, ?_⟩
          refine ite2 (fun h2 => ?_) (fun h2 => iteF (rest _ _ ⟨z, rfl, sW, wd_same zc hn' fun q => h2 (dI (by have := q.2.1; omega))⟩))
          have h2' : i % 2 = 1 := by
            have : (0 + (i : Int)) % 2 = 1 := V.int.inj (of_decide_eq_true h2)
            omega
          refine ⟨_, rfl, _, z.length, rfl, ⟨hz, rfl⟩, _, _, rfl, rfl, _, rfl, ?_⟩
          refine ite2 (fun hl => ?_) (fun hl => rest _ _ ⟨z, rfl, sW, wd_same zc hn' fun q => hl (decide_eq_true (by have := q.2.2; omega))⟩)
          have hl' : z.length < 3 := by have := of_decide_eq_true hl; omega
          obtain ⟨c, hc⟩ := abc_at g 16 (by decide) (by decide)
          refine ⟨_, rfl, _, rfl, abc g, 16, c, rfl, rfl, abc_len' g, hc, z, ⟨#[c]⟩, rfl, rfl, ?_, rest _ _ ⟨_, rfl, sW, wd_app zc hn' (letC_at (by decide) (by decide) hc) h1' h2' hl'⟩⟩
          show z.length + 1 ≤ sizeLine
          exact Nat.le_trans (show z.length + 1 ≤ 10 by omega) (by decide)
    · rintro σ H6 ⟨ss, v8, v9, rfl, k6, d6, e6, n6, ls, ess⟩
      rw [Int.toNat_natCast] at ls ess
      have nd : ss.Nodup := by rw [ess]; exact wd_nodup lr'.1 p0 p1 m (by omega)
      have fin : ∀ (σ : St) (H' : Hp), (∃ (ss : List Str) (v8 v9 v10 : Option V), σ = [some (.ref d), some (.int m), some (.bl g), some (.str (abc g)), some (.ref B), some (.int pl), some (.int lo), some (.ref N), v8, v9, v10] ∧ KB d H H' ∧ Deck2 H' d ∧ H' N = some (.lst (ss.map V.str)) ∧ ss.length = m ∧ ss.Nodup) →
          ∃ v, σ[7]? = some (some v) ∧ Q v H' := by
        rintro σ H' ⟨ss, v8, v9, v10, rfl, k7, d7, n7, l7, u7⟩
        exact ⟨_, rfl, k N ss H' hN0 k7 d7 n7 l7 u7⟩
      refine ⟨_, rfl, _, _, rfl, rfl, _, rfl, ?_⟩
      refine ite2 (fun hm0 => ?_) (fun _ => iteF (fin _ _ ⟨ss, _, _, _, rfl, k6, d6, n6, ls, nd⟩))
      have hm0' : 0 < m := by have := of_decide_eq_true hm0; omega
      refine ⟨_, rfl, g, rfl, ?_⟩
      refine ite2 (fun _ => ?_) (fun _ => iteF (fin _ _ ⟨ss, _, _, _, rfl, k6, d6, n6, ls, nd⟩))
      refine ⟨_, rfl, d, 6, rfl, d6, by decide, fun r H7 r0 r1 k7 d7 => ⟨rfl, _, rfl, ?_⟩⟩
      have n7 := k7 _ _ n6 nNd
      have k67 := k6.trans k7
      refine ite2 (fun _ => ?_) (fun _ => fin _ _ ⟨ss, _, _, _, rfl, k67, d7, n7, ls, nd⟩)
      refine ⟨by show 7 ≤ sizeLine; decide, fun S hS => ⟨S, rfl, ⟨_, .of upd_same⟩, fun C hC => ?_⟩⟩
      have nNS : N ≠ S := ne_of_none n7 hS
      have n7S := (Same.new (o := .lst [.str "ora", .str "orb", .str "ort", .str "orz", .str "orr", .str "oro", .str "ors"]) hS) _ _ n7
      have nSC : S ≠ C := ne_of_none upd_same hC
      refine comp_list (xs := seven.map V.str) (fun i σ H' => ∃ v : Option V, σ = [v, some (.ref N)] ∧ KB C (upd H7 S (.lst [.str "ora", .str "orb", .str "ort", .str "orz", .str "orr", .str "oro", .str "ors"])) H' ∧ H' C = some (.lst (((seven.take i).filter fun c => !(inV (.str c) (ss.map V.str))).map V.str)))
        ⟨none, rfl, (Same.new hC).kb, upd_same⟩ (fun i σ H' _ ⟨_, _, h, _⟩ => .of (h _ _ upd_same nSC)) ?_ ?_
      · rintro i x σ H8 hx ⟨v, rfl, k8, e8⟩
        obtain ⟨c, rfl, hc⟩ := strItem hx
        have nNC : N ≠ C := ne_of_none n7S hC
        refine ⟨_, rfl, _, rfl, N, _, rfl, .inl (.of (k8 _ _ n7S nNC)), rfl, ?_, _, rfl, ?_⟩
        · rw [List.all_map]; exact List.all_eq_true.mpr fun _ _ => rfl
        have et : seven.take (i + 1) = seven.take i ++ [c] := by rw [List.take_add_one, hc]; rfl
        refine ite2 (fun hin => ?_) (fun hin => ?_)
        · refine ⟨_, rfl, _, e8, ?_, _, rfl, k8.trans KB.write, ?_⟩
          · rw [List.length_map]
            refine Nat.lt_of_le_of_lt (List.length_filter_le _ _) ?_
            rw [List.length_take]
            exact Nat.lt_of_le_of_lt (Nat.min_le_right _ _) (by decide)
          · rw [upd_same, et, List.filter_append, List.map_append]
            have hin' : (!(inV (.str c) (ss.map V.str))) = true := hin
            simp [hin']
        · refine ⟨_, rfl, k8, ?_⟩
          have hin' : (!(inV (.str c) (ss.map V.str))) = false := by
            cases z : (!(inV (.str c) (ss.map V.str))) with
            | false => rfl
            | true => exact absurd z hin
          rw [e8, et, List.filter_append]
          simp [hin']
      rintro σ H8 ⟨v, rfl, k8, e8⟩
      have nNC : N ≠ C := ne_of_none n7S hC
      have n8 := k8 _ _ n7S nNC
      have hlen := enough ss seven (by decide +kernel)
      have h7 : seven.length = 7 := rfl
      rw [show seven.take (seven.map V.str).length = seven from rfl] at e8
      obtain ⟨y, ys, hy⟩ : ∃ y ys, (seven.filter fun c => !(inV (.str c) (ss.map V.str))) = y :: ys := by
        cases z : (seven.filter fun c => !(inV (.str c) (ss.map V.str))) with
        | nil => rw [z] at hlen; simp at hlen; omega
        | cons y ys => exact ⟨y, ys, rfl⟩
      rw [hy] at e8
      refine ⟨_, rfl, C, _, 0, .str y, rfl, rfl, .of e8, atI_nat (j := 0) rfl, ?_⟩
      have nCd : C ≠ d := by
        obtain ⟨xd, exd⟩ := (d7.same (Same.new (o := .lst [.str "ora", .str "orb", .str "ort", .str "orz", .str "orr", .str "oro", .str "ors"]) hS)).is
        exact (ne_of_none exd hC).symm
      have d8 : Deck2 H8 d := (d7.same (Same.new (o := .lst [.str "ora", .str "orb", .str "ort", .str "orz", .str "orr", .str "oro", .str "ors"]) hS)).kb k8 nCd.symm
      refine ⟨_, rfl, _, rfl, _, rfl, d, m, rfl, d8, by omega, fun r' H9 r0' r1' k9 d9 => ?_⟩
      have n9 := k9 _ _ n8 nNd
      obtain ⟨q, hq⟩ : ∃ q : Nat, r' = (q : Int) := ⟨r'.toNat, by omega⟩
      subst hq
      refine ⟨N, _, _, q, rfl, rfl, n9, ?_, ?_⟩
      · unfold ixN; rw [if_pos (by omega), List.length_map, if_pos (by omega)]; rfl
      have hyn : y ∉ ss := by
        have : y ∈ seven.filter fun c => !(inV (.str c) (ss.map V.str)) := by rw [hy]; exact List.mem_cons_self
        have := (List.mem_filter.mp this).2
        rw [inV_strs] at this
        intro z
        rw [decide_eq_true z] at this
        cases this
      refine fin _ _ ⟨ss.set q y, _, _, _, rfl, ?_, d9.kb KB.write nNd.symm, ?_, ?_, nodup_set nd hyn q⟩
      · intro b o e n
        have n1 : b ≠ N := ne_of_none e hN0
        rw [upd_ne n1]
        have e7 := k67 b o e n
        have n2 : b ≠ S := ne_of_none e7 hS
        have e7' := (Same.new (o := .lst [.str "ora", .str "orb", .str "ort", .str "orz", .str "orr", .str "oro", .str "ors"]) hS) _ _ e7
        exact k9 _ _ (k8 _ _ e7' (ne_of_none e7' hC)) n
      · rw [upd_same, List.map_set]
      · rw [List.length_set, ls]
end
end My
set_option Elab.async false
set_option linter.all false
set_option maxRecDepth 100000
set_option maxHeartbeats 4000000
namespace My
open PySem L2
def Say.word : Say → Str
  | .same _ _ => "same" | .less _ _ => "less" | .sign _ _ _ => "sign" | .alike _ _ _ _ => "alike" | .no _ => "not" | .and _ _ => "and" | .or _ _ => "or" | .some _ _ => "some" | .each _ _ => "each"
def Say.inner : Say → List Say
  | .no f => [f] | .and f g => [f, g] | .or f g => [f, g] | .some _ f => [f] | .each _ f => [f] | _ => []
def Say.spots : Say → List Nat
  | .no _ => [1] | .and _ _ => [1, 2] | .or _ _ => [1, 2] | .some _ _ => [2] | .each _ _ => [2] | _ => []
structure PAdr where
  d : Addr
  no : Addr
  an : Addr
  or : Addr
  so : Addr
  ea : Addr
def partTab (b : PAdr) : List (Str × Option V) :=
  [("not", some (.ref b.no)), ("and", some (.ref b.an)), ("or", some (.ref b.or)), ("some", some (.ref b.so)), ("each", some (.ref b.ea)), ("same", none), ("less", none), ("sign", none), ("alike", none)]
structure TopsP (K : PySem.W.Frag) (pr : Params) (mg : Str → Option Value) (b : PAdr) : Prop where
  m_PART : mg "PART_SPOTS" = some (.ref b.d)
  D_PART : TopDict K pr b.d (partTab b)
  no : ∀ H, SqT K H b.no [.int 1]
  an : ∀ H, SqT K H b.an [.int 1, .int 2]
  or : ∀ H, SqT K H b.or [.int 1, .int 2]
  so : ∀ H, SqT K H b.so [.int 2]
  ea : ∀ H, SqT K H b.ea [.int 2]
theorem TopsP.spots {K : PySem.W.Frag} {pr : Params} {mg : Str → Option Value} {b : PAdr} (U : TopsP K pr mg b) (f : Say) (H : Hp) (e : Addr) (he : SqT K H e []) :
    ∃ r p, (f.word, r) ∈ partTab b ∧ r.getD (.ref e) = .ref p ∧ SqT K H p (f.spots.map fun (n : Nat) => V.int (n : Int)) := by
  cases f with
  | same t u => exact ⟨none, e, by simp [partTab, Say.word], rfl, he⟩
  | less t u => exact ⟨none, e, by simp [partTab, Say.word], rfl, he⟩
  | sign a t s => exact ⟨none, e, by simp [partTab, Say.word], rfl, he⟩
  | alike a t c u => exact ⟨none, e, by simp [partTab, Say.word], rfl, he⟩
  | no f => exact ⟨some (.ref b.no), b.no, by simp [partTab, Say.word], rfl, U.no H⟩
  | and f g => exact ⟨some (.ref b.an), b.an, by simp [partTab, Say.word], rfl, U.an H⟩
  | or f g => exact ⟨some (.ref b.or), b.or, by simp [partTab, Say.word], rfl, U.or H⟩
  | some n f => exact ⟨some (.ref b.so), b.so, by simp [partTab, Say.word], rfl, U.so H⟩
  | each n f => exact ⟨some (.ref b.ea), b.ea, by simp [partTab, Say.word], rfl, U.ea H⟩
theorem dats_inv {K : PySem.W.Frag} {H : Hp} {xs : List V} {d : Dt} {ds : List Dt} (h : DatsAt K H xs (d :: ds)) : ∃ y ys, xs = y :: ys ∧ DatAt K H y d ∧ DatsAt K H ys ds := by
  cases xs with
  | nil => simp [DatsAt] at h
  | cons y ys => rw [DatsAt] at h; exact ⟨y, ys, rfl, h.1, h.2⟩
theorem dat_tup_inv {K : PySem.W.Frag} {H : Hp} {x : V} {ds : List Dt} (h : DatAt K H x (.tup ds)) : ∃ a xs, x = .ref a ∧ SqT K H a xs ∧ DatsAt K H xs ds := by rw [DatAt] at h; exact h
theorem Say.isTup (f : Say) : ∃ ds, f.dt = .tup (.str f.word :: ds) := by
  cases f <;> exact ⟨_, rfl⟩
theorem say_at {K : PySem.W.Frag} {H : Hp} {x : V} (f : Say) (h : DatAt K H x f.dt) : ∃ a xs, x = .ref a ∧ SqT K H a xs ∧ xs[0]? = some (.str f.word) ∧
    ∀ (i n : Nat), f.spots[i]? = some n → ∃ y g, xs[n]? = some y ∧ f.inner[i]? = some g ∧ DatAt K H y g.dt := by
  obtain ⟨ds, e⟩ := f.isTup
  have h' := h
  rw [e] at h'
  obtain ⟨a, xs, rfl, hq, hd⟩ := dat_tup_inv h'
  obtain ⟨y0, ys, rfl, h0, hd1⟩ := dats_inv hd
  clear hd
  refine ⟨a, _, rfl, hq, by rw [DatAt] at h0; rw [h0]; rfl, ?_⟩
  have one : ∀ {i n m : Nat}, ([m] : List Nat)[i]? = some n → i = 0 ∧ n = m := fun {i n m} z => by
    cases i with
    | zero => simp at z; exact ⟨rfl, z.symm⟩
    | succ i => simp at z
  have two : ∀ {i n m k : Nat}, ([m, k] : List Nat)[i]? = some n → (i = 0 ∧ n = m) ∨ (i = 1 ∧ n = k) := fun {i n m k} z => by
    match i with
    | 0 => simp at z; exact .inl ⟨rfl, z.symm⟩
    | 1 => simp at z; exact .inr ⟨rfl, z.symm⟩
    | i + 2 => simp at z
  cases f with
  | same t u => intro i n z; simp [Say.spots] at z
  | less t u => intro i n z; simp [Say.spots] at z
  | sign b t s => intro i n z; simp [Say.spots] at z
  | alike b t c u => intro i n z; simp [Say.spots] at z
  | no f =>
    cases e
    obtain ⟨y1, ys, rfl, h1, _⟩ := dats_inv hd1
    intro i n z
    obtain ⟨rfl, rfl⟩ := one z
    exact ⟨y1, f, rfl, rfl, h1⟩
  | and f g =>
    cases e
    obtain ⟨y1, ys, rfl, h1, hd2⟩ := dats_inv hd1
    obtain ⟨y2, ys, rfl, h2, _⟩ := dats_inv hd2
    intro i n z
    rcases two z with ⟨rfl, rfl⟩ | ⟨rfl, rfl⟩
    · exact ⟨y1, f, rfl, rfl, h1⟩
    · exact ⟨y2, g, rfl, rfl, h2⟩
  | or f g =>
    cases e
    obtain ⟨y1, ys, rfl, h1, hd2⟩ := dats_inv hd1
    obtain ⟨y2, ys, rfl, h2, _⟩ := dats_inv hd2
    intro i n z
    rcases two z with ⟨rfl, rfl⟩ | ⟨rfl, rfl⟩
    · exact ⟨y1, f, rfl, rfl, h1⟩
    · exact ⟨y2, g, rfl, rfl, h2⟩
  | some m f =>
    cases e
    obtain ⟨y1, ys, rfl, h1, hd2⟩ := dats_inv hd1
    obtain ⟨y2, ys, rfl, h2, _⟩ := dats_inv hd2
    intro i n z
    obtain ⟨rfl, rfl⟩ := one z
    exact ⟨y2, f, rfl, rfl, h2⟩
  | each m f =>
    cases e
    obtain ⟨y1, ys, rfl, h1, hd2⟩ := dats_inv hd1
    obtain ⟨y2, ys, rfl, h2, _⟩ := dats_inv hd2
    intro i n z
    obtain ⟨rfl, rfl⟩ := one z
    exact ⟨y2, f, rfl, rfl, h2⟩
theorem spots_len (f : Say) : f.spots.length = f.inner.length := by cases f <;> rfl
theorem inner_small (f : Say) : f.inner.length ≤ 2 := by cases f <;> simp [Say.inner]
theorem says_noL : ∀ fs : List Say, Dt.noLs (fs.map Say.dt) = true
  | [] => by simp [Dt.noLs]
  | f :: fs => by rw [List.map_cons, Dt.noLs, says_noL fs, f.noL]; rfl
def spInner (K : PySem.W.Frag) : Sp := fun vs H Q _ => ∃ (x : V) (f : Say), vs = [x] ∧ DatAt K H x f.dt ∧ ∀ (D : Addr) (xs : List V) (H' : Hp), H D = none → Same H H' → H' D = some (.lst xs) → DatsAt K H' xs (f.inner.map Say.dt) → Q (.ref D) H'
section
variable {P : Program} {w : World} {K : PySem.W.Frag} {mg : Str → Option Value} {base : Heap}
theorem sc_inner_parts : FnScope ["saying"] ["saying"] (defScope s_inner_parts) := ⟨rfl, rfl, rfl, by decide +kernel, rfl, by decide +kernel, by decide +kernel⟩
theorem ok_inner_parts {a : Adr} {b : PAdr} (T : Txt K mg a) (U : TopsP K w.params mg b) : FnOk P w K mg base CX0 1 a.f_inner_parts a.fd_inner_parts ["saying"] (spInner K) := by
  refine T.F_inner_parts.ok sc_inner_parts (fun vs H Q E h => ?_) (fun cdv A outer s H vs Q E hr h => ?_)
  · obtain ⟨x, f, rfl, _⟩ := h
    rfl
  · obtain ⟨x, f, rfl, hf, k⟩ := h
    obtain ⟨a, xs, rfl, hq, h0, hsp⟩ := say_at f hf
    refine ⟨_, (pss_one (ps_ret (pe_comp (CompScope.mk' (esc := defScope s_inner_parts) (N := ["saying"]) (own := ["spot"]) (frn := ["saying"]) (frj := [0]) rfl rfl (by decide +kernel)) rfl (pi_tup (pe_topget U.D_PART rfl U.m_PART (pe_ix (ix_tupK K) (pv 0) pe_int (fun _ _ => rfl)) (pe_tup pa_nil))) (fun _ _ _ _ => (pg_name (i := 0) (show List.Nodup (["spot", "saying"] : List Str) by decide +kernel) rfl (Or.inl rfl))) (fun _ _ _ _ => pifs_nil) (fun _ _ _ _ => (pe_ix (ix_tupK K) (pv 1) (pv 0) (fun _ _ => rfl)))))), ?_⟩
    refine ⟨_, rfl, a, xs, 0, .str f.word, rfl, rfl, hq, atI_nat (j := 0) h0, by decide, fun e he => ?_⟩
    have s1 := Same.new (o := .tup []) he
    obtain ⟨r, p, hr1, hr2, hr3⟩ := U.spots f (upd H e (.tup [])) e (.of upd_same)
    refine ⟨f.word, r, rfl, hr1, p, hr2, ⟨_, hr3⟩, fun C hC => ?_⟩
    refine comp_tup (xs := f.spots.map fun (n : Nat) => V.int (n : Int)) (fun i σ H' => ∃ (ys : List V) (v : Option V), σ = [v, some (.ref a)] ∧ Same (upd H e (.tup [])) H' ∧ H' C = some (.lst ys) ∧ DatsAt K H' ys ((f.inner.take i).map Say.dt) ∧ ys.length = i)
      ⟨[], none, rfl, Same.new hC, upd_same, dats_nil, rfl⟩ (fun i σ H' _ ⟨_, _, _, h, _⟩ => h.seqT hr3) ?_ ?_
    · rintro i y σ H1 hy ⟨ys, v, rfl, s2, e2, dt2, ly⟩
      rw [List.getElem?_map] at hy
      cases en : f.spots[i]? with
      | none => rw [en] at hy; cases hy
      | some n =>
        rw [en] at hy
        have ey : y = .int (n : Int) := (Option.some.inj hy).symm
        subst ey
        obtain ⟨z, g, hz, hg, hdz⟩ := hsp i n en
        have kt : KTs K H H1 := (s1.trans s2).kts
        refine ⟨_, rfl, _, rfl, a, xs, _, z, rfl, rfl, kt _ _ hq, atI_nat hz, ys, e2, ?_, ys ++ [z], _, rfl, s2.kbn hC KB.write, upd_same, ?_, ?_⟩
        · have : i < f.spots.length := (List.getElem?_eq_some_iff.mp en).1
          have h2 := inner_small f
          rw [spots_len] at this
          exact Nat.lt_of_lt_of_le (show ys.length < 10 by omega) (by decide)
        · have e1 : f.inner.take (i + 1) = f.inner.take i ++ [g] := by rw [List.take_add_one, hg]; rfl
          rw [e1, List.map_append]
          have kk : KTs K H1 (upd H1 C (.lst (ys ++ [z]))) := KB.kts e2 KB.write
          exact dats_app (dats_stay kk _ _ (says_noL _) dt2) (dats_cons (dat_stay (kt.trans kk) _ _ g.noL hdz) dats_nil)
        · rw [List.length_append, ly]; rfl
    · rintro σ H1 ⟨ys, v, rfl, s2, e2, dt2, ly⟩
      rw [List.length_map, spots_len, List.take_length] at dt2
      exact k C ys H1 (s1.free hC) (s1.trans s2) e2 dt2
end
theorem term_at {K : PySem.W.Frag} {H : Hp} {x : V} {t : Term} (h : DatAt K H x t.dt) : ∃ a p ys, x = .ref a ∧ SqT K H a [.int t.num, .ref p] ∧ SqT K H p ys ∧ DatsAt K H ys (t.parts.map partDt) := by
  obtain ⟨a, xs, rfl, hq, hd⟩ := dat_tup_inv (show DatAt K H x (.tup [.int t.num, .tup (t.parts.map partDt)]) from h)
  obtain ⟨y0, ys, rfl, h0, hd1⟩ := dats_inv hd
  obtain ⟨y1, ys, rfl, h1, hd2⟩ := dats_inv hd1
  have e : ys = [] := by
    have := hd2.length
    simpa using this
  subst e
  rw [DatAt] at h0
  subst h0
  obtain ⟨p, zs, rfl, hp, hz⟩ := dat_tup_inv h1
  exact ⟨a, p, zs, rfl, hq, hp, hz⟩
theorem part_one {K : PySem.W.Frag} {H : Hp} {x : V} {p : Str × Int} (h : DatAt K H x (partDt p)) : ∃ a, x = .ref a ∧ SqT K H a [.str p.1, .int p.2] := by
  obtain ⟨a, xs, rfl, hq, hd⟩ := dat_tup_inv (show DatAt K H x (.tup [.str p.1, .int p.2]) from h)
  obtain ⟨y0, ys, rfl, h0, hd1⟩ := dats_inv hd
  obtain ⟨y1, ys, rfl, h1, hd2⟩ := dats_inv hd1
  have e : ys = [] := by
    have := hd2.length
    simpa using this
  subst e
  rw [DatAt] at h0
  rw [DatAt] at h1
  subst h0 h1
  exact ⟨a, rfl, hq⟩
theorem take_snoc {α : Type} {xs : List α} {i : Nat} {x : α} (h : xs[i]? = some x) : xs.take (i + 1) = xs.take i ++ [x] := by rw [List.take_add_one, h]; rfl
theorem dgetR {H : Hp} {D : Addr} {kvs : List (Key × V)} {x : Str} {v : V} (h : Rd H D (.dK kvs)) (e : valV kvs (Sum.inr x) = some v) : DGet H D (.str x) (some v) := .inl ⟨kvs, Sum.inr x, h, rfl, e.symm⟩
def getI (kvs : List (Key × V)) (x : Str) : Int := match valV kvs (Sum.inr x) with
  | some (.int i) => i
  | _ => 0
theorem getI_of {kvs : List (Key × V)} {x : Str} {i : Int} (h : valV kvs (Sum.inr x) = some (.int i)) : getI kvs x = i := by unfold getI; rw [h]
def wsum (kvs : List (Key × V)) (prs : List (Str × Int)) : Int := (prs.map fun q => q.2 * getI kvs q.1).sum
theorem wsum_app (kvs : List (Key × V)) (a b : List (Str × Int)) : wsum kvs (a ++ b) = wsum kvs a + wsum kvs b := by
  unfold wsum; rw [List.map_append, List.sum_append]
def HasI (kvs : List (Key × V)) (x : Str) : Prop := ∃ i, valV kvs (Sum.inr x) = some (.int i)
theorem HasI.put {kvs : List (Key × V)} {x : Str} (h : HasI kvs x) (y : Str) (i : Int) : HasI (putK kvs (Sum.inr y) (.int i)) x := by
  obtain ⟨j, e⟩ := h
  unfold HasI
  rw [valV_put]
  by_cases z : (Sum.inr x : Key) = Sum.inr y
  · rw [if_pos z]; exact ⟨i, rfl⟩
  · rw [if_neg z]; exact ⟨j, e⟩
theorem HasI.new (kvs : List (Key × V)) (y : Str) (i : Int) : HasI (putK kvs (Sum.inr y) (.int i)) y := by
  unfold HasI
  rw [valV_put, if_pos rfl]; exact ⟨i, rfl⟩
theorem HasI.get {kvs : List (Key × V)} {x : Str} (h : HasI kvs x) : valV kvs (Sum.inr x) = some (.int (getI kvs x)) := by
  obtain ⟨j, e⟩ := h
  rw [getI_of e, e]
theorem ints_put {kvs : List (Key × V)} (h : ∀ p ∈ kvs, ∃ i, p.2 = V.int i) (k : Key) (j : Int) : ∀ p ∈ putK kvs k (.int j), ∃ i, p.2 = V.int i := by
  intro p hp
  unfold putK at hp
  split at hp
  · obtain ⟨q, hq, e⟩ := List.mem_map.mp hp
    split at e
    · rw [← e]; exact ⟨j, rfl⟩
    · rw [← e]; exact h q hq
  · rcases List.mem_append.mp hp with z | z
    · exact h p z
    · rw [List.mem_singleton.mp z]; exact ⟨j, rfl⟩
def spWorth (K : PySem.W.Frag) : Sp := fun vs H Q _ => ∃ (x : V) (t : Term) (d : Addr) (kvs : List (Key × V)), vs = [x, .ref d] ∧ DatAt K H x t.dt ∧ Rd H d (.dK kvs) ∧ (∀ q ∈ t.parts, HasI kvs q.1 ∧ 0 ≤ q.2 ∧ q.2 ≤ 100) ∧ t.parts.length ≤ 100 ∧
  ∀ H', Same H H' → Q (.int (t.num + wsum kvs t.parts)) H'
theorem same_rd {H H' : Hp} {d : Addr} {u : HO} (s : Same H H') (h : Rd H d u) : Rd H' d u := by
  rcases h with h | ⟨o, h⟩
  · exact .inl (s _ _ h)
  · exact .inr ⟨o, s _ _ h⟩
section
variable {P : Program} {w : World} {K : PySem.W.Frag} {mg : Str → Option Value} {base : Heap}
theorem sc_worth_of : FnScope ["term", "values"] ["term", "values"] (defScope s_worth_of) := ⟨rfl, rfl, rfl, by decide +kernel, rfl, by decide +kernel, by decide +kernel⟩
theorem ok_worth_of {a : Adr} (T : Txt K mg a) : FnOk P w K mg base CX0 1 a.f_worth_of a.fd_worth_of ["term", "values"] (spWorth K) := by
  refine T.F_worth_of.ok sc_worth_of (fun vs H Q E h => ?_) (fun cdv A outer s H vs Q E hr h => ?_)
  · obtain ⟨x, t, d, kvs, rfl, _⟩ := h
    rfl
  · obtain ⟨x, t, d, kvs, rfl, hx, hd, hp, hl, k⟩ := h
    obtain ⟨ta, pa, ys, rfl, q1, q2, q3⟩ := term_at hx
    refine ⟨_, (pss_one (ps_ret (pe_op op_add (pe_ix (ix_tupK K) (pv 0) pe_int (fun _ _ => rfl)) (pe_callB (call_sumK K) (by rfl) T.z_sum bt_sum (pa_cons (pe_comp (CompScope.mk' (esc := defScope s_worth_of) (N := ["term", "values"]) (own := ["part"]) (frn := ["values"]) (frj := [1]) rfl rfl (by decide +kernel)) rfl (pi_tup (pe_ix (ix_tupK K) (pv 0) pe_int (fun _ _ => rfl))) (fun _ _ _ _ => (pg_name (i := 0) (show List.Nodup (["part", "values"] : List Str) by decide +kernel) rfl (Or.inl rfl))) (fun _ _ _ _ => pifs_nil) (fun _ _ _ _ => (pe_op op_mul (pe_ix (ix_tupK K) (pv 0) pe_int (fun _ _ => rfl)) (pe_dget (hu_of hr) (pv 1) (pe_ix (ix_tupK K) (pv 0) pe_int (fun _ _ => rfl)) (fun _ _ => rfl))))) pa_nil))))), ?_⟩
    refine ⟨_, rfl, ta, _, _, _, rfl, rfl, q1, atI_nat (j := 0) (v := .int t.num) rfl, _, rfl, ta, _, _, _, rfl, rfl, q1, atI_nat (j := 1) (v := .ref pa) rfl, pa, rfl, ⟨_, q2⟩, fun C hC => ?_⟩
    refine comp_tup (xs := ys) (fun j σ H' => ∃ v : Option V, σ = [v, some (.ref d)] ∧ Same H H' ∧ H' C = some (.lst (((t.parts.take j).map fun q => q.2 * getI kvs q.1).map V.int)))
      ⟨none, ?sg, Same.new hC, upd_same⟩ (fun j σ H' _ ⟨_, _, s, _⟩ => s.seqT q2) ?_ ?_
    case sg => rfl
    · rintro j y σ H3 hy ⟨v, rfl, s3, eC⟩
      obtain ⟨dd, ed, hdd⟩ := q3.get hy
      rw [List.getElem?_map] at ed
      cases ep : t.parts[j]? with
      | none => rw [ep] at ed; cases ed
      | some pp =>
        rw [ep] at ed
        have ed' : partDt pp = dd := Option.some.inj ed
        subst ed'
        obtain ⟨qa, rfl, hqa⟩ := part_one hdd
        obtain ⟨hI, h0, h1⟩ := hp pp (List.mem_of_getElem? ep)
        refine ⟨_, rfl, qa, _, _, _, rfl, rfl, s3.seqT hqa, atI_nat (j := 1) (v := .int pp.2) rfl, _, rfl, _, rfl, qa, _, _, _, rfl, rfl, s3.seqT hqa, atI_nat (j := 0) (v := .str pp.1) rfl, d, .int (getI kvs pp.1), rfl, dgetR (same_rd s3 hd) hI.get, _, _, rfl, rfl, .inl (by constructor <;> omega), _, eC, ?_, _, rfl, s3.kbn hC KB.write, ?_⟩
        · rw [List.length_map, List.length_map, List.length_take]
          exact Nat.lt_of_le_of_lt (show min j t.parts.length ≤ 100 by omega) (by decide)
        · rw [upd_same, take_snoc ep, List.map_append, List.map_append]; rfl
    rintro σ H3 ⟨v, rfl, s3, eC⟩
    have ly : ys.length = t.parts.length := by rw [q3.length, List.length_map]
    rw [ly, List.take_length] at eC
    exact ⟨C, _, rfl, .of eC, _, _, rfl, rfl, k H3 s3⟩
end
abbrev Kvs := List (Key × V)
def worthV (kvs : Kvs) (t : Term) : Int := t.num + wsum kvs t.parts
def Say.look : Say → Bool
  | .no _ => true | .or _ _ => true | .some _ _ => true
  | _ => false
def Say.said : Say → Bool
  | .or _ _ => true | .some _ _ => true
  | _ => false
def Say.atom : Say → Bool
  | .same _ _ => true | .less _ _ => true | .sign _ _ _ => true | .alike _ _ _ _ => true
  | _ => false
def Say.items (most : Nat) : Say → Kvs → List (Say × Kvs)
  | .no f, kvs => [(f, kvs)]
  | .and f g, kvs => [(f, kvs), (g, kvs)]
  | .or f g, kvs => [(f, kvs), (g, kvs)]
  | .some n f, kvs => (List.range most).map fun i => (f, putK kvs (Sum.inr n) (.int ((i : Nat) : Int)))
  | .each n f, kvs => (List.range most).map fun i => (f, putK kvs (Sum.inr n) (.int ((i : Nat) : Int)))
  | _, _ => []
def atomV (sg : Str → Nat → Nat) : Say → Kvs → Bool
  | .same t u, kvs => decide (worthV kvs t = worthV kvs u)
  | .less t u, kvs => decide (worthV kvs t < worthV kvs u)
  | .sign a t s, kvs => decide (((sg a (worthV kvs t).toNat : Nat) : Int) = s)
  | .alike a t b u, kvs => decide (((sg a (worthV kvs t).toNat : Nat) : Int) = ((sg b (worthV kvs u).toNat : Nat) : Int))
  | _, _ => false
def hp (sg : Str → Nat → Nat) (most : Nat) : Say → Kvs → Bool
  | .no f, kvs => !hp sg most f kvs
  | .and f g, kvs => hp sg most f kvs && hp sg most g kvs
  | .or f g, kvs => hp sg most f kvs || hp sg most g kvs
  | .some n f, kvs => (List.range most).any fun i => hp sg most f (putK kvs (Sum.inr n) (.int ((i : Nat) : Int)))
  | .each n f, kvs => (List.range most).all fun i => hp sg most f (putK kvs (Sum.inr n) (.int ((i : Nat) : Int)))
  | .same t u, kvs => atomV sg (.same t u) kvs
  | .less t u, kvs => atomV sg (.less t u) kvs
  | .sign a t s, kvs => atomV sg (.sign a t s) kvs
  | .alike a t b u, kvs => atomV sg (.alike a t b u) kvs
theorem hp_atom {sg : Str → Nat → Nat} {most : Nat} {f : Say} {kvs : Kvs} (h : f.atom = true) : hp sg most f kvs = atomV sg f kvs := by
  cases f <;> first | (simp [Say.atom] at h; done) | simp [hp]
theorem hp_items {sg : Str → Nat → Nat} {most : Nat} {f : Say} {kvs : Kvs} (h : f.atom = false) :
    hp sg most f kvs = if ((f.items most kvs).any fun q => hp sg most q.1 q.2 == f.look) = true then f.said else !f.said := by
  cases f with
  | no f => simp only [hp, Say.items, Say.look, Say.said, List.any_cons, List.any_nil]; exact (by decide : ∀ x : Bool, (!x) = if (x == true || false) = true then false else !false) _
  | and f g => simp only [hp, Say.items, Say.look, Say.said, List.any_cons, List.any_nil]; exact (by decide : ∀ x y : Bool, (x && y) = if (x == false || (y == false || false)) = true then false else !false) _ _
  | or f g => simp only [hp, Say.items, Say.look, Say.said, List.any_cons, List.any_nil]; exact (by decide : ∀ x y : Bool, (x || y) = if (x == true || (y == true || false)) = true then true else !true) _ _
  | some n f =>
    simp only [hp, Say.items, Say.look, Say.said, List.any_map]
    have e : (fun i : Nat => hp sg most f (putK kvs (Sum.inr n) (.int ((i : Nat) : Int)))) = ((fun q : Say × Kvs => hp sg most q.1 q.2 == true) ∘ fun i : Nat => (f, putK kvs (Sum.inr n) (.int ((i : Nat) : Int)))) := by
      funext i
      show _ = (hp sg most f _ == true)
      cases hp sg most f (putK kvs (Sum.inr n) (.int ((i : Nat) : Int))) <;> rfl
    rw [← e]
    exact (by decide : ∀ x : Bool, x = if x = true then true else !true) _
  | each n f =>
    simp only [hp, Say.items, Say.look, Say.said, List.any_map]
    rw [List.all_eq_not_any_not]
    have e : (fun i : Nat => !hp sg most f (putK kvs (Sum.inr n) (.int ((i : Nat) : Int)))) = ((fun q : Say × Kvs => hp sg most q.1 q.2 == false) ∘ fun i : Nat => (f, putK kvs (Sum.inr n) (.int ((i : Nat) : Int)))) := by
      funext i
      show _ = (hp sg most f _ == false)
      cases hp sg most f (putK kvs (Sum.inr n) (.int ((i : Nat) : Int))) <;> rfl
    rw [← e]
    exact (by decide : ∀ x : Bool, (!x) = if x = true then false else !false) _
  | _ => simp [Say.atom] at h
structure Ent where
  f : Say
  kvs : Kvs
  turn : Nat
def Ent.val (sg : Str → Nat → Nat) (most : Nat) (e : Ent) (t : Bool) : Bool :=
  if e.f.atom = true then atomV sg e.f e.kvs
  else if 0 < e.turn ∧ t = e.f.look then e.f.said
  else if (((e.f.items most e.kvs).drop e.turn).any fun q => hp sg most q.1 q.2 == e.f.look) = true then e.f.said else !e.f.said
theorem Ent.val_zero {sg : Str → Nat → Nat} {most : Nat} {f : Say} {kvs : Kvs} {t : Bool} : Ent.val sg most ⟨f, kvs, 0⟩ t = hp sg most f kvs := by
  unfold Ent.val
  cases h : f.atom with
  | true => rw [if_pos rfl]; exact (hp_atom h).symm
  | false => rw [if_neg (by simp), if_neg (by simp), List.drop_zero]; exact (hp_items h).symm
theorem Ent.val_next {sg : Str → Nat → Nat} {most : Nat} {f g : Say} {kvs kvs' : Kvs} {n : Nat} {t : Bool} (h : f.atom = false) (hd : ¬ (0 < n ∧ t = f.look)) (hi : (f.items most kvs)[n]? = some (g, kvs')) :
    Ent.val sg most ⟨f, kvs, n⟩ t = Ent.val sg most ⟨f, kvs, n + 1⟩ (hp sg most g kvs') := by
  unfold Ent.val
  have ed : (f.items most kvs).drop n = (g, kvs') :: (f.items most kvs).drop (n + 1) := by
    obtain ⟨hl, hv⟩ := List.getElem?_eq_some_iff.mp hi
    rw [List.drop_eq_getElem_cons hl, hv]
  rw [if_neg (show ¬ f.atom = true by rw [h]; simp), if_neg (show ¬ f.atom = true by rw [h]; simp), if_neg hd]
  show (if ((List.drop n (f.items most kvs)).any _) = true then _ else _) = _
  rw [ed, List.any_cons]
  by_cases z : hp sg most g kvs' = f.look
  · rw [if_pos (show 0 < n + 1 ∧ hp sg most g kvs' = f.look from ⟨Nat.succ_pos _, z⟩)]
    rw [z, beq_self_eq_true, Bool.true_or, if_pos rfl]
  · rw [if_neg (show ¬ (0 < n + 1 ∧ hp sg most g kvs' = f.look) from fun c => z c.2)]
    rw [show (hp sg most g kvs' == f.look) = false from beq_eq_false_iff_ne.mpr z, Bool.false_or]
theorem Ent.val_end {sg : Str → Nat → Nat} {most : Nat} {f : Say} {kvs : Kvs} {n : Nat} {t : Bool} (h : f.atom = false) (hd : ¬ (0 < n ∧ t = f.look)) (hl : (f.items most kvs).length ≤ n) : Ent.val sg most ⟨f, kvs, n⟩ t = !f.said := by
  unfold Ent.val
  rw [if_neg (show ¬ f.atom = true by rw [h]; simp), if_neg hd]
  show (if ((List.drop n (f.items most kvs)).any _) = true then _ else _) = _
  rw [List.drop_eq_nil_of_le hl]
  simp
theorem Ent.val_found {sg : Str → Nat → Nat} {most : Nat} {f : Say} {kvs : Kvs} {n : Nat} {t : Bool} (h : f.atom = false) (hd : 0 < n ∧ t = f.look) : Ent.val sg most ⟨f, kvs, n⟩ t = f.said := by
  unfold Ent.val
  rw [if_neg (show ¬ f.atom = true by rw [h]; simp), if_pos hd]
def Say.cost (most : Nat) : Say → Nat
  | .no f => 1 + (1 + f.cost most)
  | .and f g => 1 + ((1 + f.cost most) + (1 + g.cost most))
  | .or f g => 1 + ((1 + f.cost most) + (1 + g.cost most))
  | .some _ f => 1 + most * (1 + f.cost most)
  | .each _ f => 1 + most * (1 + f.cost most)
  | _ => 1
def Ent.cost (most : Nat) (e : Ent) : Nat := 1 + (((e.f.items most e.kvs).drop e.turn).map fun q => 1 + q.1.cost most).sum
theorem sum_const {α : Type} (c : Nat) : ∀ l : List α, (l.map fun _ => c).sum = l.length * c
  | [] => by simp
  | _ :: l => by rw [List.map_cons, List.sum_cons, sum_const c l, List.length_cons, Nat.add_mul, Nat.one_mul, Nat.add_comm]
theorem Ent.cost_zero {most : Nat} {f : Say} {kvs : Kvs} : Ent.cost most ⟨f, kvs, 0⟩ = f.cost most := by
  unfold Ent.cost
  rw [List.drop_zero]
  cases f with
  | some n f =>
    simp only [Say.items, Say.cost, List.map_map]
    rw [show ((fun q : Say × Kvs => 1 + q.1.cost most) ∘ fun i : Nat => (f, putK kvs (Sum.inr n) (.int ((i : Nat) : Int)))) = fun _ => 1 + f.cost most from rfl, sum_const, List.length_range]
  | each n f =>
    simp only [Say.items, Say.cost, List.map_map]
    rw [show ((fun q : Say × Kvs => 1 + q.1.cost most) ∘ fun i : Nat => (f, putK kvs (Sum.inr n) (.int ((i : Nat) : Int)))) = fun _ => 1 + f.cost most from rfl, sum_const, List.length_range]
  | _ => simp [Say.items, Say.cost]
theorem Ent.cost_next {most : Nat} {f g : Say} {kvs kvs' : Kvs} {n : Nat} (hi : (f.items most kvs)[n]? = some (g, kvs')) : Ent.cost most ⟨f, kvs, n + 1⟩ + g.cost most < Ent.cost most ⟨f, kvs, n⟩ := by
  unfold Ent.cost
  have ed : (f.items most kvs).drop n = (g, kvs') :: (f.items most kvs).drop (n + 1) := by
    obtain ⟨hl, hv⟩ := List.getElem?_eq_some_iff.mp hi
    rw [List.drop_eq_getElem_cons hl, hv]
  show 1 + ((List.drop (n + 1) (f.items most kvs)).map _).sum + _ < 1 + ((List.drop n (f.items most kvs)).map _).sum
  rw [ed, List.map_cons, List.sum_cons]
  show _ < 1 + ((1 + g.cost most) + _)
  omega
theorem Ent.cost_pos {most : Nat} {e : Ent} : 0 < e.cost most := by unfold Ent.cost; omega
def fin (sg : Str → Nat → Nat) (most : Nat) (es : List Ent) (t : Bool) : Bool := es.foldr (fun e t => e.val sg most t) t
theorem fin_app {sg : Str → Nat → Nat} {most : Nat} {es : List Ent} {e : Ent} {t : Bool} : fin sg most (es ++ [e]) t = fin sg most es (e.val sg most t) := by
  unfold fin; rw [List.foldr_append]; rfl
def costs (most : Nat) (es : List Ent) : Nat := (es.map (Ent.cost most)).sum
theorem costs_app {most : Nat} {es : List Ent} {e : Ent} : costs most (es ++ [e]) = costs most es + e.cost most := by
  unfold costs; rw [List.map_append, List.sum_append]; simp
def TOk (ss : List Str) (t : Term) : Prop := (0 ≤ t.num ∧ t.num ≤ 99) ∧ t.parts.length ≤ 3 ∧ ∀ q ∈ t.parts, q.1 ∈ ss ∧ 0 ≤ q.2 ∧ q.2 ≤ 9
def Say.Ok (ss rs : List Str) : Say → Prop
  | .same t u => TOk ss t ∧ TOk ss u
  | .less t u => TOk ss t ∧ TOk ss u
  | .sign a t _ => a ∈ rs ∧ TOk ss t
  | .alike a t b u => a ∈ rs ∧ TOk ss t ∧ b ∈ rs ∧ TOk ss u
  | .no f => f.Ok ss rs
  | .and f g => f.Ok ss rs ∧ g.Ok ss rs
  | .or f g => f.Ok ss rs ∧ g.Ok ss rs
  | .some n f => n ∈ ss ∧ f.Ok ss rs
  | .each n f => n ∈ ss ∧ f.Ok ss rs
def EnvOk (ss : List Str) (kvs : Kvs) : Prop := ∀ x ∈ ss, ∃ n : Nat, valV kvs (Sum.inr x) = some (.int (n : Int)) ∧ n < 2 ^ 600
theorem EnvOk.put {ss : List Str} {kvs : Kvs} (h : EnvOk ss kvs) (y : Str) (n : Nat) (hn : n < 2 ^ 600) : EnvOk ss (putK kvs (Sum.inr y) (.int (n : Int))) := fun x hx => by
  rw [valV_put]
  by_cases z : (Sum.inr x : Key) = Sum.inr y
  · rw [if_pos z]; exact ⟨n, rfl, hn⟩
  · rw [if_neg z]; exact h x hx
theorem EnvOk.has {ss : List Str} {kvs : Kvs} (h : EnvOk ss kvs) {x : Str} (hx : x ∈ ss) : HasI kvs x := by
  obtain ⟨n, e, _⟩ := h x hx
  exact ⟨_, e⟩
theorem EnvOk.get {ss : List Str} {kvs : Kvs} (h : EnvOk ss kvs) {x : Str} (hx : x ∈ ss) : 0 ≤ getI kvs x ∧ getI kvs x < 2 ^ 600 := by
  obtain ⟨n, e, hn⟩ := h x hx
  rw [getI_of e]
  exact ⟨by omega, by exact_mod_cast hn⟩
theorem wsum_lt {ss : List Str} {kvs : Kvs} (h : EnvOk ss kvs) : ∀ prs : List (Str × Int), (∀ q ∈ prs, q.1 ∈ ss ∧ 0 ≤ q.2 ∧ q.2 ≤ 9) → 0 ≤ wsum kvs prs ∧ wsum kvs prs ≤ prs.length * (9 * 2 ^ 600)
  | [], _ => by simp [wsum]
  | q :: prs, hq => by
    obtain ⟨i1, i2⟩ := wsum_lt h prs fun p hp => hq p (List.mem_cons_of_mem _ hp)
    obtain ⟨m, q0, q1⟩ := hq q List.mem_cons_self
    obtain ⟨g0, g1⟩ := h.get m
    have e : wsum kvs (q :: prs) = q.2 * getI kvs q.1 + wsum kvs prs := by unfold wsum; rw [List.map_cons, List.sum_cons]
    have m0 : 0 ≤ q.2 * getI kvs q.1 := Int.mul_nonneg q0 g0
    have m1 : q.2 * getI kvs q.1 ≤ 9 * 2 ^ 600 := Int.le_trans (Int.mul_le_mul_of_nonneg_right q1 g0) (Int.mul_le_mul_of_nonneg_left (Int.le_of_lt g1) (by decide))
    rw [e, List.length_cons]
    refine ⟨by omega, ?_⟩
    rw [Int.natCast_add, Int.add_mul]
    show _ ≤ _ + 1 * (9 * 2 ^ 600)
    omega
theorem worth_lt {ss : List Str} {kvs : Kvs} {t : Term} (h : EnvOk ss kvs) (ht : TOk ss t) : ∃ n : Nat, worthV kvs t = (n : Int) ∧ n < 2 ^ 20000 := by
  obtain ⟨⟨n0, n1⟩, l3, hq⟩ := ht
  obtain ⟨w0, w1⟩ := wsum_lt h t.parts hq
  refine ⟨(worthV kvs t).toNat, ?_, ?_⟩
  · unfold worthV; omega
  · have b : worthV kvs t ≤ 99 + 3 * (9 * 2 ^ 600) := by
      have : ((t.parts.length : Nat) : Int) * (9 * 2 ^ 600) ≤ 3 * (9 * 2 ^ 600) := Int.mul_le_mul_of_nonneg_right (by omega) (by decide)
      unfold worthV; omega
    have c : (99 : Int) + 3 * (9 * 2 ^ 600) < 2 ^ 20000 := by
      have : (99 : Int) + 3 * (9 * 2 ^ 600) ≤ 2 ^ 700 := by decide +kernel
      exact Int.lt_of_le_of_lt this (by exact_mod_cast Nat.pow_lt_pow_right (by decide) (show 700 < 20000 by decide))
    have d : worthV kvs t < ((2 ^ 20000 : Nat) : Int) := by
      refine Int.lt_of_le_of_lt b ?_
      rw [Int.natCast_pow]
      exact c
    generalize (2 ^ 20000 : Nat) = X at d ⊢
    have : 0 ≤ worthV kvs t := by unfold worthV; omega
    omega
theorem items_ok {ss rs : List Str} {most : Nat} {f : Say} {kvs : Kvs} (hf : f.Ok ss rs) (hk : EnvOk ss kvs) (hm : most ≤ 1000) : ∀ q ∈ f.items most kvs, q.1.Ok ss rs ∧ EnvOk ss q.2 := by
  intro q hq
  have lt : ∀ i ∈ List.range most, i < 2 ^ 600 := fun i hi => Nat.lt_of_lt_of_le (List.mem_range.mp hi) (Nat.le_trans hm (by decide))
  cases f with
  | no f => rw [List.mem_singleton.mp (show q ∈ [(f, kvs)] from hq)]; exact ⟨hf, hk⟩
  | and f g =>
    rcases List.mem_cons.mp (show q ∈ [(f, kvs), (g, kvs)] from hq) with e | e
    · rw [e]; exact ⟨hf.1, hk⟩
    · rw [List.mem_singleton.mp e]; exact ⟨hf.2, hk⟩
  | or f g =>
    rcases List.mem_cons.mp (show q ∈ [(f, kvs), (g, kvs)] from hq) with e | e
    · rw [e]; exact ⟨hf.1, hk⟩
    · rw [List.mem_singleton.mp e]; exact ⟨hf.2, hk⟩
  | some n f =>
    obtain ⟨i, hi, e⟩ := List.mem_map.mp hq
    rw [← e]; exact ⟨hf.2, hk.put n i (lt i hi)⟩
  | each n f =>
    obtain ⟨i, hi, e⟩ := List.mem_map.mp hq
    rw [← e]; exact ⟨hf.2, hk.put n i (lt i hi)⟩
  | _ => cases hq
end My
set_option Elab.async false
set_option linter.all false
set_option maxRecDepth 100000
set_option maxHeartbeats 4000000
namespace My
open PySem L2
def spTerm (K : PySem.W.Frag) : Sp := fun vs H Q _ => ∃ (d nm : Addr) (ss : List Str), vs = [.ref d, .ref nm] ∧ Deck2 H d ∧ SqL K H nm (ss.map V.str) ∧ nm ≠ d ∧ ss.length ≤ 10 ∧
  ∀ (p : Addr) (t : Term) (H' : Hp), DatAt K H' (.ref p) t.dt → TOk ss t → KB d H H' → Deck2 H' d → Q (.ref p) H'
def spPlain (K : PySem.W.Frag) : Sp := fun vs H Q _ => ∃ (d nm rw : Addr) (ss rs : List Str), vs = [.ref d, .ref nm, .ref rw] ∧ Deck2 H d ∧ SqL K H nm (ss.map V.str) ∧ nm ≠ d ∧ ss.length ≤ 10 ∧ SqL K H rw (rs.map V.str) ∧ rw ≠ d ∧ rs.length ≤ 10 ∧
  ∀ (p : Addr) (f : Say) (H' : Hp), DatAt K H' (.ref p) f.dt → f.deep = 0 ∧ f.Ok ss rs → KB d H H' → Deck2 H' d → Q (.ref p) H'
section
variable {P : Program} {w : World} {K : PySem.W.Frag} {mg : Str → Option Value} {base : Heap}
theorem pick3 (a b c : Int) (r : Int) (h0 : 0 ≤ r) (h1 : r < 3) : ∃ x, atI ([.int a, .int b, .int c] : List V) r = some (.int x) ∧ (x = a ∨ x = b ∨ x = c) := by
  have : r = 0 ∨ r = 1 ∨ r = 2 := by omega
  rcases this with rfl | rfl | rfl
  · exact ⟨a, rfl, .inl rfl⟩
  · exact ⟨b, rfl, .inr (.inl rfl)⟩
  · exact ⟨c, rfl, .inr (.inr rfl)⟩
theorem pick2 {α : Type} (a b : α) (r : Int) (h0 : 0 ≤ r) (h1 : r < 2) : ∃ x, atI [a, b] r = some x ∧ (x = a ∨ x = b) := by
  have : r = 0 ∨ r = 1 := by omega
  rcases this with rfl | rfl
  · exact ⟨a, rfl, .inl rfl⟩
  · exact ⟨b, rfl, .inr rfl⟩
theorem pickS (ss : List Str) (r : Int) (h0 : 0 ≤ r) (h1 : r < ss.length) : ∃ x, atI (ss.map V.str) r = some (.str x) ∧ x ∈ ss := by
  obtain ⟨n, rfl⟩ : ∃ n : Nat, r = (n : Int) := ⟨r.toNat, by omega⟩
  have hn : n < ss.length := by omega
  exact ⟨ss[n], atI_nat (by rw [List.getElem?_map, List.getElem?_eq_getElem hn]; rfl), List.getElem_mem hn⟩
theorem sc_l_term : FnScope ["_law_deck_here", "_law_names_here", "_law_parts", "_law_name"] ["_law_deck_here", "_law_names_here"] (defScope s_l_term) := ⟨rfl, rfl, rfl, by decide +kernel, rfl, by decide +kernel, by decide +kernel⟩
theorem ok_l_term {a : Adr} (T : Txt K mg a) : FnOk P w K mg base CX0 2 a.f_l_term a.fd_l_term ["_law_deck_here", "_law_names_here"] (spTerm K) := by
  have G_l_next : FnOk P w K mg base CX0 1 a.f_l_next a.fd_l_next ["_law_deck_here", "_law_many"] spNext2 := ok_l_next T
  refine T.F_l_term.ok sc_l_term (fun vs H Q E h => ?_) (fun cdv A outer s H vs Q E hr h => ?_)
  · obtain ⟨d, nm, ss, rfl, _⟩ := h
    rfl
  · obtain ⟨d, nm, ss, rfl, hd, hS, hne, hss, k⟩ := h
    have hr_l_next : Room 1 _ := hr
    refine ⟨_, (pss_cons (ps_set (i := 2) sc_l_term.nd rfl (Or.inl rfl) (pe_lst pa_nil))
    (pss_cons (ps_for PassesOwn.never rfl (pi_list (pe_callB (call_sortSK K) (by rfl) T.z_sorted bt_sorted (pa_cons (pv 1) pa_nil))) (pg_name (i := 3) sc_l_term.nd rfl (Or.inl rfl))
      (pss_one (ps_if (PW.pt (pw_and (pt_cmpR op_eq (pe_call G_l_next hr_l_next rfl T.m_l_next T.k_l_next T.b_l_next .nil pass0 (pa_cons (pv 0) (pa_cons pe_int pa_nil))) pe_int (nomark _)) (pw_and1 (pt_cmpR op_lt (pe_callB (call_lenK K) (by rfl) T.z_len bt_len (pa_cons (pv 2) pa_nil)) pe_int (nomark _)))))
        (pss_one (ps_expr (pe_bm PySem.F.plainAttrs_list PySem.F.slot_list_append PySem.F.type_list_append mt_append (pv 2) (pa_cons (pe_tup (pa_cons (pv 3) (pa_cons (pe_op op_add pe_int (pe_call G_l_next hr_l_next rfl T.m_l_next T.k_l_next T.b_l_next .nil pass0 (pa_cons (pv 0) (pa_cons (pe_ix (ix_listK K) (pe_lst (pa_cons pe_int (pa_cons pe_int (pa_cons pe_int pa_nil)))) (pe_call G_l_next hr_l_next rfl T.m_l_next T.k_l_next T.b_l_next .nil pass0 (pa_cons (pv 0) (pa_cons pe_int pa_nil))) (fun _ _ => rfl)) pa_nil)))) pa_nil))) pa_nil))))
        pss_nil)))
    (pss_one (ps_ret (pe_tup (pa_cons (pe_ix (ix_listK K) (pe_lst (pa_cons pe_int (pa_cons (pe_call G_l_next hr_l_next rfl T.m_l_next T.k_l_next T.b_l_next .nil pass0 (pa_cons (pv 0) (pa_cons pe_int pa_nil))) (pa_cons (pe_call G_l_next hr_l_next rfl T.m_l_next T.k_l_next T.b_l_next .nil pass0 (pa_cons (pv 0) (pa_cons pe_int pa_nil))) pa_nil)))) (pe_call G_l_next hr_l_next rfl T.m_l_next T.k_l_next T.b_l_next .nil pass0 (pa_cons (pv 0) (pa_cons pe_int pa_nil))) (fun _ _ => rfl)) (pa_cons (pe_callTy (call_tupleK K) (by rfl) T.z_tuple bt_tuple (pa_cons (pv 2) pa_nil)) pa_nil))))))), ?_⟩
    refine ⟨by decide, fun L hL => ?_⟩
    have s1 := Same.new (o := .lst []) hL
    have nLd : L ≠ d := (hd.ne hL).symm
    refine ⟨_, rfl, nm, ss, rfl, s1.seq hS, by omega, fun Z zs hZ hperm _ => ⟨Z, rfl, ⟨_, .of upd_same⟩, ?_⟩⟩
    have nLZ : L ≠ Z := ne_of_none upd_same hZ
    have nZd : Z ≠ d := (((hd.same s1).ne hZ)).symm
    refine for_list (xs := zs.map V.str) (fun i σ H' => ∃ (xs : List V) (ps : List (Str × Int)) (v3 : Option V), σ = [some (.ref d), some (.ref nm), some (.ref L), v3] ∧ KB d H H' ∧ Deck2 H' d ∧ H' Z = some (.lst (zs.map V.str)) ∧ H' L = some (.lst xs) ∧ DatsAt K H' xs (ps.map partDt) ∧ ps.length ≤ 3 ∧ ∀ q ∈ ps, q.1 ∈ ss ∧ 0 ≤ q.2 ∧ q.2 ≤ 9)
      ⟨[], [], none, rfl, (s1.trans (Same.new hZ)).kb, (hd.same s1).same (Same.new hZ), upd_same, by rw [upd_ne nLZ]; exact upd_same, dats_nil, by simp, fun q h => (nomatch h)⟩ (fun i σ H' _ ⟨_, _, _, _, _, _, h, _⟩ => .of h) ?_ ?_
    · rintro i x σ H1 hx ⟨xs, ps, v3, rfl, k1, d1, z1, l1, dt1, lp, mp⟩
      obtain ⟨z, rfl, hz⟩ := strItem hx
      have zin : z ∈ ss := hperm.mem_iff.mp (List.mem_of_getElem? hz)
      have lx : xs.length = ps.length := by rw [dt1.length, List.length_map]
      refine ⟨_, rfl, d, 2, rfl, d1, by decide, fun r H2 r0 r1 k2 d2 => ⟨rfl, _, rfl, ?_⟩⟩
      have z2 := k2 _ _ z1 nZd
      have l2 := k2 _ _ l1 nLd
      have dt2 := dats_stay (d1.kts k2) _ _ (parts_noL ps) dt1
      refine ite2 (fun _ => ?_) (fun _ => iteF ⟨xs, ps, _, rfl, k1.trans k2, d2, z2, l2, dt2, lp, mp⟩)
      refine ⟨_, rfl, _, xs.length, rfl, .inl ⟨_, .of l2, rfl⟩, _, _, rfl, rfl, _, rfl, ?_⟩
      refine ite2 (fun hlt => ?_) (fun _ => ⟨xs, ps, _, rfl, k1.trans k2, d2, z2, l2, dt2, lp, mp⟩)
      have hlt' : xs.length < 3 := by have := of_decide_eq_true hlt; omega
      refine ⟨_, rfl, .inl ⟨rfl, _, .of l2⟩, _, rfl, _, rfl, by show 3 ≤ sizeLine; decide, fun O hO => ?_⟩
      have sO := Same.new (o := .lst [.int 1, .int 2, .int 9]) hO
      refine ⟨_, rfl, d, 3, rfl, d2.same sO, by decide, fun r' H3 r0' r1' k3 d3 => ?_⟩
      obtain ⟨m, hm, hmv⟩ := pick3 1 2 9 r' r0' r1'
      have nOd : O ≠ d := (d2.ne hO).symm
      refine ⟨O, _, _, .int m, rfl, rfl, .of (k3 _ _ upd_same nOd), hm, d, m, rfl, d3, by omega, fun q H4 q0 q1 k4 d4 => ⟨_, _, rfl, rfl, by show 2 ≤ sizeLine; decide, fun p hp => ?_⟩⟩
      have l4 := k4 _ _ (k3 _ _ (sO _ _ l2) nLd) nLd
      have z4 := k4 _ _ (k3 _ _ (sO _ _ z2) nZd) nZd
      have dt4 := dats_stay (d3.kts k4) _ _ (parts_noL ps) (dats_stay ((d2.same sO).kts k3) _ _ (parts_noL ps) (dats_stay sO.kts _ _ (parts_noL ps) dt2))
      have sp := Same.new (o := .tup [.str z, .int (1 + q)]) hp
      have l5 := sp _ _ l4
      refine ⟨L, _, _, rfl, rfl, l5, Nat.lt_of_lt_of_le (show xs.length < 10 by omega) (by decide), xs ++ [.ref p], ps ++ [(z, 1 + q)], _, rfl, ?_, ?_, ?_, upd_same, ?_, ?_, ?_⟩
      · intro b o e n
        have n1 : b ≠ L := ne_of_none e hL
        rw [upd_ne n1]
        exact sp _ _ (k4 _ _ (k3 _ _ (sO _ _ (k2 _ _ (k1 _ _ e n) n)) n) n)
      · exact (d4.same sp).kb KB.write nLd.symm
      · rw [upd_ne nLZ.symm]; exact sp _ _ z4
      · rw [List.map_append]
        have kk : KTs K (upd H4 p (.tup [.str z, .int (1 + q)])) (upd (upd H4 p (.tup [.str z, .int (1 + q)])) L (.lst (xs ++ [.ref p]))) := KB.kts l5 KB.write
        refine dats_stay kk _ _ ?_ (dats_app (dats_stay sp.kts _ _ (parts_noL ps) dt4) (dats_cons (dat_tup (.of upd_same) (dats_cons dat_str (dats_cons dat_int dats_nil))) dats_nil))
        rw [noLs_app, parts_noL]
        simp [partDt, Dt.noL, Dt.noLs]
      · rw [List.length_append]; show ps.length + 1 ≤ 3; omega
      · intro y hy
        rcases List.mem_append.mp hy with e | e
        · exact mp y e
        · have : y = (z, 1 + q) := by simpa using e
          subst this; exact ⟨zin, by show (0 : Int) ≤ 1 + q; omega, by show 1 + q ≤ (9 : Int); omega⟩
    · rintro σ H1 ⟨xs, ps, v3, rfl, k1, d1, z1, l1, dt1, lp, mp⟩
      have lx : xs.length = ps.length := by rw [dt1.length, List.length_map]
      refine ⟨_, rfl, d, 5, rfl, d1, by decide, fun r1 H2 ra rb k2 d2 => ?_⟩
      refine ⟨_, rfl, d, 100, rfl, d2, by decide, fun r2 H3 rc re k3 d3 => ⟨by show 3 ≤ sizeLine; decide, fun O hO => ?_⟩⟩
      have sO := Same.new (o := .lst [.int 0, .int r1, .int r2]) hO
      have nOd : O ≠ d := (d3.ne hO).symm
      refine ⟨_, rfl, d, 3, rfl, d3.same sO, by decide, fun r H4 r0 r1' k4 d4 => ?_⟩
      obtain ⟨m, hm, hmv⟩ := pick3 0 r1 r2 r r0 r1'
      have l4 := k4 _ _ (sO _ _ (k3 _ _ (k2 _ _ l1 nLd) nLd)) nLd
      have dt4 := dats_stay ((d3.same sO).kts k4) _ _ (parts_noL ps) (dats_stay sO.kts _ _ (parts_noL ps) (dats_stay (d2.kts k3) _ _ (parts_noL ps) (dats_stay (d1.kts k2) _ _ (parts_noL ps) dt1)))
      refine ⟨O, _, _, .int m, rfl, rfl, .of (k4 _ _ upd_same nOd), hm, _, rfl, L, xs, rfl, .inl ⟨.of l4, fun t ht => ⟨by show 2 ≤ sizeLine; decide, fun p hp => ?_⟩⟩⟩
      have st := Same.new (o := .tup xs) ht
      have sp := Same.new (o := .tup [.int m, .ref t]) hp
      refine k p ⟨m, ps⟩ _ (dat_tup (.of upd_same) (dats_cons dat_int (dats_cons (dat_tup (sp.seqT (.of upd_same)) (dats_stay (st.trans sp).kts _ _ (parts_noL ps) dt4)) dats_nil))) ⟨⟨by show 0 ≤ m; omega, by show m ≤ 99; omega⟩, lp, mp⟩ ?_ ((d4.same st).same sp)
      exact ((((k1.trans k2).trans k3).trans sO.kb).trans k4).trans (st.trans sp).kb
theorem sc_l_plain : FnScope ["_law_deck_here", "_law_names_here", "_law_rows", "_law_goes", "_law_one", "_law_other"] ["_law_deck_here", "_law_names_here", "_law_rows"] (defScope s_l_plain) := ⟨rfl, rfl, rfl, by decide +kernel, rfl, by decide +kernel, by decide +kernel⟩
theorem ok_l_plain {a : Adr} (T : Txt K mg a) : FnOk P w K mg base CX0 3 a.f_l_plain a.fd_l_plain ["_law_deck_here", "_law_names_here", "_law_rows"] (spPlain K) := by
  have G_l_next : FnOk P w K mg base CX0 1 a.f_l_next a.fd_l_next ["_law_deck_here", "_law_many"] spNext2 := ok_l_next T
  have G_l_term : FnOk P w K mg base CX0 2 a.f_l_term a.fd_l_term ["_law_deck_here", "_law_names_here"] (spTerm K) := ok_l_term T
  refine T.F_l_plain.ok sc_l_plain (fun vs H Q E h => ?_) (fun cdv A outer s H vs Q E hr h => ?_)
  · obtain ⟨d, nm, rw, ss, rs, rfl, _⟩ := h
    rfl
  · obtain ⟨d, nm, rw, ss, rs, rfl, hd, hS, hne, hss, hR, hnr, hrs, k⟩ := h
    have hr_l_next : Room 1 _ := hr.mono (by decide)
    have hr_l_term : Room 2 _ := hr
    refine ⟨_, (pss_cons (ps_set (i := 3) sc_l_plain.nd rfl (Or.inl rfl) (pe_call G_l_next hr_l_next rfl T.m_l_next T.k_l_next T.b_l_next .nil pass0 (pa_cons (pv 0) (pa_cons pe_int pa_nil))))
    (pss_cons (ps_set (i := 4) sc_l_plain.nd rfl (Or.inl rfl) (pe_call G_l_term hr_l_term rfl T.m_l_term T.k_l_term T.b_l_term .nil pass0 (pa_cons (pv 0) (pa_cons (pv 1) pa_nil))))
    (pss_cons (ps_set (i := 5) sc_l_plain.nd rfl (Or.inl rfl) (pe_call G_l_term hr_l_term rfl T.m_l_term T.k_l_term T.b_l_term .nil pass0 (pa_cons (pv 0) (pa_cons (pv 1) pa_nil))))
    (pss_cons (ps_if (PW.pt (pw_or (pt_cmpR op_eq (pv 3) pe_int (nomark _)) (pw_or1 (pt_cmpR (op_eqD K hr.units) (pv 2) (pe_lst pa_nil) (nomark _)))))
      (pss_one (ps_ret (pe_tup (pa_cons (pe_ix (ix_listK K) (pe_lst (pa_cons pe_str (pa_cons pe_str pa_nil))) (pe_call G_l_next hr_l_next rfl T.m_l_next T.k_l_next T.b_l_next .nil pass0 (pa_cons (pv 0) (pa_cons pe_int pa_nil))) (fun _ _ => rfl)) (pa_cons (pv 4) (pa_cons (pv 5) pa_nil))))))
      pss_nil)
    (pss_cons (ps_if (pt_cmpR op_eq (pv 3) pe_int (nomark _))
      (pss_one (ps_ret (pe_tup (pa_cons pe_str (pa_cons (pv 4) (pa_cons (pv 5) pa_nil))))))
      pss_nil)
    (pss_cons (ps_if (pt_cmpR op_eq (pv 3) pe_int (nomark _))
      (pss_one (ps_ret (pe_tup (pa_cons pe_str (pa_cons (pe_ix (ix_listK K) (pv 2) (pe_call G_l_next hr_l_next rfl T.m_l_next T.k_l_next T.b_l_next .nil pass0 (pa_cons (pv 0) (pa_cons (pe_callB (call_lenK K) (by rfl) T.z_len bt_len (pa_cons (pv 2) pa_nil)) pa_nil))) (fun _ _ => rfl)) (pa_cons (pv 4) (pa_cons (pe_call G_l_next hr_l_next rfl T.m_l_next T.k_l_next T.b_l_next .nil pass0 (pa_cons (pv 0) (pa_cons (pe_ix (ix_listK K) (pe_lst (pa_cons pe_int (pa_cons pe_int pa_nil))) (pe_call G_l_next hr_l_next rfl T.m_l_next T.k_l_next T.b_l_next .nil pass0 (pa_cons (pv 0) (pa_cons pe_int pa_nil))) (fun _ _ => rfl)) pa_nil))) pa_nil)))))))
      pss_nil)
    (pss_one (ps_ret (pe_tup (pa_cons pe_str (pa_cons (pe_ix (ix_listK K) (pv 2) (pe_call G_l_next hr_l_next rfl T.m_l_next T.k_l_next T.b_l_next .nil pass0 (pa_cons (pv 0) (pa_cons (pe_callB (call_lenK K) (by rfl) T.z_len bt_len (pa_cons (pv 2) pa_nil)) pa_nil))) (fun _ _ => rfl)) (pa_cons (pv 4) (pa_cons (pe_ix (ix_listK K) (pv 2) (pe_call G_l_next hr_l_next rfl T.m_l_next T.k_l_next T.b_l_next .nil pass0 (pa_cons (pv 0) (pa_cons (pe_callB (call_lenK K) (by rfl) T.z_len bt_len (pa_cons (pv 2) pa_nil)) pa_nil))) (fun _ _ => rfl)) (pa_cons (pv 5) pa_nil)))))))))))))), ?_⟩
    refine ⟨_, rfl, d, 4, rfl, hd, by decide, fun go H1 g0 g1 k1 d1 => ?_⟩
    refine ⟨_, rfl, _, rfl, d, nm, ss, rfl, d1, k1.seq hne hS, hne, hss, fun p1 t1 H2 dt1 o1 k2 d2 => ?_⟩
    have k12 := k1.trans k2
    refine ⟨_, rfl, _, rfl, d, nm, ss, rfl, d2, k12.seq hne hS, hne, hss, fun p2 t2 H3 dt2 o2 k3 d3 => ?_⟩
    have k13 := k12.trans k3
    have dt1' := dat_stay (d2.kts k3) _ _ t1.noL dt1
    have hR3 := k13.seq hnr hR
    have case1 : ∀ H4, Same H3 H4 → ∀ (Q' : VK), (∀ (p : Addr) (f : Say) (H' : Hp), DatAt K H' (.ref p) f.dt → f.deep = 0 ∧ f.Ok ss rs → KB d H H' → Deck2 H' d → Q' (.ref p) H') →
        tTup (tCons (tOp (rIxL K) (tLst (tCons (tC (.str "same")) (tCons (tC (.str "less")) tNil))) (tCall spNext2 [] E0 (tCons (tVar 0) (tCons (tC (.int 2)) tNil)))) (tCons (tVar 4) (tCons (tVar 5) tNil)))
          [some (.ref d), some (.ref nm), some (.ref rw), some (.int go), some (.ref p1), some (.ref p2)] H4 Q' := by
      intro H4 s4 Q' k'
      have d4 := d3.same s4
      refine ⟨by show 2 ≤ sizeLine; decide, fun O hO => ?_⟩
      have sO := Same.new (o := .lst [.str "same", .str "less"]) hO
      have nOd : O ≠ d := (d4.ne hO).symm
      refine ⟨_, rfl, d, 2, rfl, d4.same sO, by decide, fun r H5 r0 r1 k5 d5 => ?_⟩
      obtain ⟨x, hx, hv⟩ := pick2 (V.str "same") (V.str "less") r r0 r1
      refine ⟨O, _, _, x, rfl, rfl, .of (k5 _ _ upd_same nOd), hx, _, rfl, _, rfl, by show 3 ≤ sizeLine; decide, fun p hp => ?_⟩
      have kk : KTs K H3 H5 := (s4.trans sO).kts.trans ((d4.same sO).kts k5)
      have a1 := dat_stay kk _ _ t1.noL dt1'
      have a2 := dat_stay kk _ _ t2.noL dt2
      have kf : KB d H (upd H5 p (.tup [x, .ref p1, .ref p2])) := ((k13.trans (s4.trans sO).kb).trans k5).trans (Same.new hp).kb
      have b1 := dat_stay (Same.new (o := .tup [x, .ref p1, .ref p2]) hp).kts _ _ t1.noL a1
      have b2 := dat_stay (Same.new (o := .tup [x, .ref p1, .ref p2]) hp).kts _ _ t2.noL a2
      rcases hv with rfl | rfl
      · exact k' p (.same t1 t2) _ (dat_tup (.of upd_same) (dats_cons dat_str (dats_cons b1 (dats_cons b2 dats_nil)))) ⟨rfl, o1, o2⟩ kf (d5.same (Same.new hp))
      · exact k' p (.less t1 t2) _ (dat_tup (.of upd_same) (dats_cons dat_str (dats_cons b1 (dats_cons b2 dats_nil)))) ⟨rfl, o1, o2⟩ kf (d5.same (Same.new hp))
    refine ⟨_, rfl, rfl, _, rfl, ?_⟩
    refine ite2 (fun _ => iteT (case1 H3 (Same.refl _) _ k)) (fun _ => ?_)
    refine ⟨_, rfl, by decide, fun O hO => ?_⟩
    have sO := Same.new (o := .lst []) hO
    refine ⟨.lst (rs.map .str), .lst [], dat_lst (sO.seq hR3) (dats_strs rs), dat_lst (.of upd_same) dats_nil, rfl, rfl, ?_, _, rfl, ?_⟩
    · have : ∀ l : List Str, Dt.deps (l.map Dt.str) = 0 := fun l => by
        induction l with
        | nil => simp [Dt.deps]
        | cons y ys ih => rw [List.map_cons, Dt.deps, ih]; simp [Dt.dep]
      rw [Dt.dep, this]; decide
    have eb : (if false = true then !(Dt.lst (rs.map .str)).beq (.lst []) else (Dt.lst (rs.map .str)).beq (.lst [])) = decide (rs = []) := by
      rw [if_neg (by decide), Dt.beq]
      cases rs with
      | nil => simp [Dt.beqs]
      | cons y ys => simp [Dt.beqs]
    rw [eb]
    refine ite2 (fun _ => case1 _ sO _ k) (fun hrs0 => ?_)
    have hrs0' : 0 < rs.length := by
      cases rs with
      | nil => exact absurd (by simp) hrs0
      | cons y ys => simp
    have d4 := d3.same sO
    have k14 := k13.trans (sO.kb (d := d))
    have c1 := dat_stay sO.kts _ _ t1.noL dt1'
    have c2 := dat_stay sO.kts _ _ t2.noL dt2
    have hR4 := sO.seq hR3
    generalize upd H3 O (.lst []) = H4 at d4 k14 c1 c2 hR4
    refine ⟨_, rfl, rfl, _, rfl, ?_⟩
    refine ite2 (fun _ => ?_) (fun _ => ?_)
    · refine ⟨_, rfl, _, rfl, by show 3 ≤ sizeLine; decide, fun p hp => ?_⟩
      have sp := Same.new (o := .tup [.str "less", .ref p1, .ref p2]) hp
      exact k p (.less t1 t2) _ (dat_tup (.of upd_same) (dats_cons dat_str (dats_cons (dat_stay sp.kts _ _ t1.noL c1) (dats_cons (dat_stay sp.kts _ _ t2.noL c2) dats_nil)))) ⟨rfl, o1, o2⟩ (k14.trans sp.kb) (d4.same sp)
    refine ⟨_, rfl, rfl, _, rfl, ?_⟩
    refine ite2 (fun _ => ?_) (fun _ => ?_)
    · refine ⟨_, rfl, _, rfl, _, rfl, _, rs.length, rfl, .inl ⟨_, hR4, by rw [List.length_map]⟩, d, (rs.length : Int), rfl, d4, by omega, fun r H5 r0 r1 k5 d5 => ?_⟩
      obtain ⟨x, hx, xm⟩ := pickS rs r r0 r1
      have hR5 := k5.seq hnr hR4
      refine ⟨rw, _, _, .str x, rfl, rfl, hR5, hx, _, rfl, _, rfl, by show 2 ≤ sizeLine; decide, fun O2 hO2 => ?_⟩
      have sO2 := Same.new (o := .lst [.int 2, .int 10]) hO2
      have nO2d : O2 ≠ d := (d5.ne hO2).symm
      refine ⟨_, rfl, d, 2, rfl, d5.same sO2, by decide, fun r' H6 r0' r1' k6 d6 => ?_⟩
      obtain ⟨m, hm, hv⟩ := pick2 (V.int 2) (V.int 10) r' r0' r1'
      obtain ⟨mi, rfl, hmi⟩ : ∃ mi : Int, m = .int mi ∧ 0 < mi := by
        rcases hv with rfl | rfl
        · exact ⟨2, rfl, by decide⟩
        · exact ⟨10, rfl, by decide⟩
      refine ⟨O2, _, _, .int mi, rfl, rfl, .of (k6 _ _ upd_same nO2d), hm, d, mi, rfl, d6, hmi, fun sg H7 s0 s1 k7 d7 => ⟨by show 4 ≤ sizeLine; decide, fun p hp => ?_⟩⟩
      have sp := Same.new (o := .tup [.str "sign", .str x, .ref p1, .int sg]) hp
      have kk : KTs K H4 (upd H7 p (.tup [.str "sign", .str x, .ref p1, .int sg])) := ((d4.kts k5).trans sO2.kts).trans ((((d5.same sO2).kts k6).trans (d6.kts k7)).trans sp.kts)
      refine k p (.sign x t1 sg) _ (dat_tup (.of upd_same) (dats_cons dat_str (dats_cons dat_str (dats_cons (dat_stay kk _ _ t1.noL c1) (dats_cons dat_int dats_nil))))) ⟨rfl, xm, o1⟩ ?_ (d7.same sp)
      exact ((((k14.trans k5).trans sO2.kb).trans k6).trans k7).trans sp.kb
    · refine ⟨_, rfl, _, rfl, _, rfl, _, rs.length, rfl, .inl ⟨_, hR4, by rw [List.length_map]⟩, d, (rs.length : Int), rfl, d4, by omega, fun r H5 r0 r1 k5 d5 => ?_⟩
      obtain ⟨x, hx, xm⟩ := pickS rs r r0 r1
      have hR5 := k5.seq hnr hR4
      refine ⟨rw, _, _, .str x, rfl, rfl, hR5, hx, _, rfl, _, rfl, _, rfl, _, rfl, _, rs.length, rfl, .inl ⟨_, hR5, by rw [List.length_map]⟩, d, (rs.length : Int), rfl, d5, by omega, fun r' H6 r0' r1' k6 d6 => ?_⟩
      obtain ⟨y, hy, ym⟩ := pickS rs r' r0' r1'
      refine ⟨rw, _, _, .str y, rfl, rfl, k6.seq hnr hR5, hy, _, rfl, by show 5 ≤ sizeLine; decide, fun p hp => ?_⟩
      have sp := Same.new (o := .tup [.str "alike", .str x, .ref p1, .str y, .ref p2]) hp
      have kk : KTs K H4 (upd H6 p (.tup [.str "alike", .str x, .ref p1, .str y, .ref p2])) := (d4.kts k5).trans ((d5.kts k6).trans sp.kts)
      refine k p (.alike x t1 y t2) _ (dat_tup (.of upd_same) (dats_cons dat_str (dats_cons dat_str (dats_cons (dat_stay kk _ _ t1.noL c1) (dats_cons dat_str (dats_cons (dat_stay kk _ _ t2.noL c2) dats_nil)))))) ⟨rfl, xm, o1, ym, o2⟩ ?_ (d6.same sp)
      exact ((k14.trans k5).trans k6).trans sp.kb
end
end My
set_option Elab.async false
set_option linter.all false
set_option maxRecDepth 100000
set_option maxHeartbeats 4000000
namespace My
open PySem L2
def spSaying (K : PySem.W.Frag) (n : Nat) : Sp := fun vs H Q _ => ∃ (d nm rw bx : Addr) (ss rs : List Str) (bk : Int) (deep : Nat), vs = [.ref d, .ref nm, .ref rw, .ref bx, .int deep] ∧ Deck2 H d ∧ (SqL K H nm (ss.map V.str) ∧ nm ≠ d ∧ nm ≠ bx ∧ 0 < ss.length ∧ ss.length ≤ 10) ∧ (SqL K H rw (rs.map V.str) ∧ rw ≠ d ∧ rw ≠ bx ∧ rs.length ≤ 10) ∧
  H bx = some (.lst [.int bk]) ∧ bx ≠ d ∧ deep < n ∧
  ∀ (p : Addr) (f : Say) (H' : Hp) (bk' : Int), DatAt K H' (.ref p) f.dt → f.deep ≤ deep ∧ f.Ok ss rs → KB2 d bx H H' → Deck2 H' d → H' bx = some (.lst [.int bk']) → Q (.ref p) H'
section
variable {P : Program} {w : World} {K : PySem.W.Frag} {mg : Str → Option Value} {base : Heap}
theorem sc_l_saying : FnScope ["_law_deck_here", "_law_names_here", "_law_rows", "_law_box", "_law_deep", "_law_goes", "_law_one", "_law_name"] ["_law_deck_here", "_law_names_here", "_law_rows", "_law_box", "_law_deep"] (defScope s_l_saying) := ⟨rfl, rfl, rfl, by decide +kernel, rfl, by decide +kernel, by decide +kernel⟩
theorem ok_l_saying {a : Adr} (T : Txt K mg a) : ∀ n : Nat, FnOk P w K mg base CX0 (n + 4) a.f_l_saying a.fd_l_saying ["_law_deck_here", "_law_names_here", "_law_rows", "_law_box", "_law_deep"] (spSaying K n)
  | 0 => FnOk.none fun vs H Q E h => by
    obtain ⟨d, nm, rw, bx, ss, rs, bk, deep, _, _, _, _, _, _, hlt, _⟩ := h
    omega
  | n + 1 => by
    have G_l_saying := ok_l_saying T n
    have G_l_next : FnOk P w K mg base CX0 1 a.f_l_next a.fd_l_next ["_law_deck_here", "_law_many"] spNext2 := ok_l_next T
    have G_l_plain : FnOk P w K mg base CX0 3 a.f_l_plain a.fd_l_plain ["_law_deck_here", "_law_names_here", "_law_rows"] (spPlain K) := ok_l_plain T
    refine T.F_l_saying.ok sc_l_saying (fun vs H Q E h => ?_) (fun cdv A outer s H vs Q E hr h => ?_)
    · obtain ⟨d, nm, rw, bx, ss, rs, bk, deep, rfl, _⟩ := h
      rfl
    · obtain ⟨d, nm, rw, bx, ss, rs, bk, deep, rfl, hd, ⟨hS, hne, hnb, hs0, hss⟩, ⟨hR, hnr, hrb, hrs⟩, hb, hbd, hlt, k⟩ := h
      have hr_l_next : Room 1 _ := hr.mono (by omega)
      have hr_l_plain : Room 3 _ := hr.mono (by omega)
      have hr_l_saying : Room (n + 4) _ := hr
      refine ⟨_, (pss_cons (ps_asg (pe_op op_sub (pe_ix (ix_listK K) (pv 3) pe_int (fun _ _ => rfl)) pe_int) (pg_sub (pv 3) pe_int set_list))
      (pss_cons (ps_set (i := 5) sc_l_saying.nd rfl (Or.inl rfl) (pe_call G_l_next hr_l_next rfl T.m_l_next T.k_l_next T.b_l_next .nil pass0 (pa_cons (pv 0) (pa_cons pe_int pa_nil))))
      (pss_cons (ps_if (PW.pt (pw_or (pt_cmpR op_eq (pv 4) pe_int (nomark _)) (pw_or (pt_cmpR op_lt (pe_ix (ix_listK K) (pv 3) pe_int (fun _ _ => rfl)) pe_int (nomark _)) (pw_or1 (pt_cmpR op_lt (pv 5) pe_int (nomark _))))))
        (pss_one (ps_ret (pe_call G_l_plain hr_l_plain rfl T.m_l_plain T.k_l_plain T.b_l_plain .nil pass0 (pa_cons (pv 0) (pa_cons (pv 1) (pa_cons (pv 2) pa_nil))))))
        pss_nil)
      (pss_cons (ps_if (pt_cmpR op_eq (pv 5) pe_int (nomark _))
        (pss_one (ps_ret (pe_tup (pa_cons pe_str (pa_cons (pe_call G_l_saying hr_l_saying rfl T.m_l_saying T.k_l_saying T.b_l_saying .nil pass0 (pa_cons (pv 0) (pa_cons (pv 1) (pa_cons (pv 2) (pa_cons (pv 3) (pa_cons (pe_op op_sub (pv 4) pe_int) pa_nil)))))) pa_nil)))))
        pss_nil)
      (pss_cons (ps_if (pt_cmpR op_lt (pv 5) pe_int (nomark _))
        (pss_cons (ps_set (i := 6) sc_l_saying.nd rfl (Or.inl rfl) (pe_call G_l_saying hr_l_saying rfl T.m_l_saying T.k_l_saying T.b_l_saying .nil pass0 (pa_cons (pv 0) (pa_cons (pv 1) (pa_cons (pv 2) (pa_cons (pv 3) (pa_cons (pe_op op_sub (pv 4) pe_int) pa_nil)))))))
        (pss_one (ps_ret (pe_tup (pa_cons (pe_ix (ix_listK K) (pe_lst (pa_cons pe_str (pa_cons pe_str pa_nil))) (pe_op op_modP (pv 5) pe_int) (fun _ _ => rfl)) (pa_cons (pv 6) (pa_cons (pe_call G_l_saying hr_l_saying rfl T.m_l_saying T.k_l_saying T.b_l_saying .nil pass0 (pa_cons (pv 0) (pa_cons (pv 1) (pa_cons (pv 2) (pa_cons (pv 3) (pa_cons (pe_op op_sub (pv 4) pe_int) pa_nil)))))) pa_nil)))))))
        pss_nil)
      (pss_cons (ps_set (i := 7) sc_l_saying.nd rfl (Or.inl rfl) (pe_ix (ix_listK K) (pv 1) (pe_call G_l_next hr_l_next rfl T.m_l_next T.k_l_next T.b_l_next .nil pass0 (pa_cons (pv 0) (pa_cons (pe_callB (call_lenK K) (by rfl) T.z_len bt_len (pa_cons (pv 1) pa_nil)) pa_nil))) (fun _ _ => rfl)))
      (pss_one (ps_ret (pe_tup (pa_cons (pe_ix (ix_listK K) (pe_lst (pa_cons pe_str (pa_cons pe_str pa_nil))) (pe_op op_sub (pv 5) pe_int) (fun _ _ => rfl)) (pa_cons (pv 7) (pa_cons (pe_call G_l_saying hr_l_saying rfl T.m_l_saying T.k_l_saying T.b_l_saying .nil pass0 (pa_cons (pv 0) (pa_cons (pv 1) (pa_cons (pv 2) (pa_cons (pv 3) (pa_cons (pe_op op_sub (pv 4) pe_int) pa_nil)))))) pa_nil)))))))))))), ?_⟩
      refine ⟨_, rfl, bx, _, 0, .int bk, rfl, rfl, .of hb, atI_nat (j := 0) rfl, _, _, rfl, rfl, ?_⟩
      refine ⟨_, rfl, bx, _, 0, 0, rfl, rfl, hb, rfl, ?_⟩
      have b1 : (upd H bx (.lst ([V.int bk].set 0 (V.int (bk - 1))))) bx = some (.lst [.int (bk - 1)]) := upd_same
      have k1 : KB2 d bx H (upd H bx (.lst ([V.int bk].set 0 (V.int (bk - 1))))) := KB.r KB.write
      have d1 : Deck2 (upd H bx (.lst ([V.int bk].set 0 (V.int (bk - 1))))) d := hd.kb KB.write hbd.symm
      generalize upd H bx (.lst ([V.int bk].set 0 (V.int (bk - 1)))) = H1 at b1 k1 d1
      refine ⟨_, rfl, d, 9, rfl, d1, by decide, fun go H2 g0 g1 k2 d2 => ?_⟩
      have b2 := k2 _ _ b1 hbd
      have k12 := k1.trans (k2.l (e := bx))
      have hS2 := k12.seq hne hnb hS
      have hR2 := k12.seq hnr hrb hR
      have plain : ∃ v, ([some (.ref d), some (.ref nm), some (.ref rw), some (.ref bx), some (.int deep), some (.int go), none, none] : St)[0]? = some (some v) ∧ ∃ v', ([some (.ref d), some (.ref nm), some (.ref rw), some (.ref bx), some (.int deep), some (.int go), none, none] : St)[1]? = some (some v') ∧
          ∃ v'', ([some (.ref d), some (.ref nm), some (.ref rw), some (.ref bx), some (.int deep), some (.int go), none, none] : St)[2]? = some (some v'') ∧ spPlain K ([v, v', v''] ++ []) H2 Q E0 := by
        refine ⟨_, rfl, _, rfl, _, rfl, d, nm, rw, ss, rs, rfl, d2, hS2, hne, hss, hR2, hnr, hrs, fun p f H' dt dp kk dd => ?_⟩
        exact k p f H' (bk - 1) dt ⟨by have := dp.1; omega, dp.2⟩ (k12.trans (kk.l (e := bx))) dd (kk _ _ b2 hbd)
      refine ⟨_, rfl, rfl, _, rfl, ?_⟩
      refine ite2 (fun _ => iteT plain) (fun hdeep => ?_)
      refine ⟨_, rfl, bx, _, 0, .int (bk - 1), rfl, rfl, .of b2, atI_nat (j := 0) rfl, _, _, rfl, rfl, _, rfl, ?_⟩
      refine ite2 (fun _ => iteT plain) (fun _ => ?_)
      refine ⟨_, rfl, _, _, rfl, rfl, _, rfl, ?_⟩
      refine ite2 (fun _ => plain) (fun hgo3 => ?_)
      have deep1 : 0 < deep := by
        by_cases z : deep = 0
        · exact absurd (dI (by omega)) hdeep
        · omega
      obtain ⟨e, he⟩ : ∃ e : Nat, (deep : Int) - 1 = (e : Int) := ⟨deep - 1, by omega⟩
      have he' : e = deep - 1 := by omega
      have self : ∀ (H3 : Hp) (b3 : Int) (Q' : VK), Deck2 H3 d → H3 bx = some (.lst [.int b3]) → KB2 d bx H H3 →
          (∀ (p : Addr) (f : Say) (H' : Hp) (bk' : Int), DatAt K H' (.ref p) f.dt → f.deep ≤ deep - 1 ∧ f.Ok ss rs → KB2 d bx H3 H' → Deck2 H' d → H' bx = some (.lst [.int bk']) → Q' (.ref p) H') →
          spSaying K n ([.ref d, .ref nm, .ref rw, .ref bx, .int ((deep : Int) - 1)] ++ []) H3 Q' E0 := by
        intro H3 b3 Q' d3 h3 k3 kq
        refine ⟨d, nm, rw, bx, ss, rs, b3, e, by rw [he]; rfl, d3, ⟨k3.seq hne hnb hS, hne, hnb, hs0, hss⟩, ⟨k3.seq hnr hrb hR, hnr, hrb, hrs⟩, h3, hbd, by omega, fun p f H' bk' dt dp kk dd hb' => ?_⟩
        exact kq p f H' bk' dt ⟨by have := dp.1; omega, dp.2⟩ kk dd hb'
      refine ⟨_, rfl, rfl, _, rfl, ?_⟩
      refine ite2 (fun _ => ?_) (fun _ => ?_)
      · refine ⟨_, rfl, _, rfl, _, rfl, _, rfl, _, rfl, _, _, rfl, rfl, ?_⟩
        dsimp only [tNil]
        refine self H2 _ _ d2 b2 k12 fun p f H3 b3 dt dp kk dd hb3 => ⟨by show 2 ≤ sizeLine; decide, fun q hq => ?_⟩
        have sq := Same.new (o := .tup [.str "not", .ref p]) hq
        exact k q (.no f) _ b3 (dat_tup (.of upd_same) (dats_cons dat_str (dats_cons (dat_stay sq.kts _ _ f.noL dt) dats_nil))) ⟨by have := dp.1; simp only [Say.deep]; omega, dp.2⟩ ((k12.trans kk).trans sq.kb2) (dd.same sq) (sq _ _ hb3)
      refine ⟨_, rfl, _, _, rfl, rfl, _, rfl, ?_⟩
      refine ite2 (fun _ => ?_) (fun hgo7 => ?_)
      · refine ⟨_, rfl, _, rfl, _, rfl, _, rfl, _, rfl, _, _, rfl, rfl, ?_⟩
        dsimp only [tNil]
        refine self H2 _ _ d2 b2 k12 fun p f H3 b3 dt dp kk dd hb3 => ?_
        refine ⟨by show 2 ≤ sizeLine; decide, fun O hO => ?_⟩
        have sO := Same.new (o := .lst [.str "and", .str "or"]) hO
        obtain ⟨x, hx, hv⟩ := pick2 (V.str "and") (V.str "or") (go % 2) (Int.emod_nonneg _ (by decide)) (Int.emod_lt_of_pos _ (by decide))
        refine ⟨_, rfl, _, _, rfl, rfl, cpos (by decide), O, _, _, x, rfl, rfl, .of upd_same, hx, _, rfl, _, rfl, _, rfl, _, rfl, _, rfl, _, rfl, _, _, rfl, rfl, ?_⟩
        dsimp only [tNil]
        refine self _ _ _ (dd.same sO) (sO _ _ hb3) ((k12.trans kk).trans sO.kb2) fun p2 f2 H4 b4 dt2 dp2 kk2 dd2 hb4 => ⟨by show 3 ≤ sizeLine; decide, fun q hq => ?_⟩
        have sq := Same.new (o := .tup [x, .ref p, .ref p2]) hq
        obtain ⟨xd, exd⟩ := (dd.same sO).is
        have kt : KTs K H3 (upd H4 q (.tup [x, .ref p, .ref p2])) := sO.kts.trans ((KB2.kts exd (sO _ _ hb3) kk2).trans sq.kts)
        have m1 := dat_stay kt _ _ f.noL dt
        have m2 := dat_stay sq.kts _ _ f2.noL dt2
        have kf : KB2 d bx H (upd H4 q (.tup [x, .ref p, .ref p2])) := (((k12.trans kk).trans sO.kb2).trans kk2).trans sq.kb2
        rcases hv with rfl | rfl
        · exact k q (.and f f2) _ b4 (dat_tup (.of upd_same) (dats_cons dat_str (dats_cons m1 (dats_cons m2 dats_nil)))) ⟨by have := dp.1; have := dp2.1; simp only [Say.deep]; omega, dp.2, dp2.2⟩ kf (dd2.same sq) (sq _ _ hb4)
        · exact k q (.or f f2) _ b4 (dat_tup (.of upd_same) (dats_cons dat_str (dats_cons m1 (dats_cons m2 dats_nil)))) ⟨by have := dp.1; have := dp2.1; simp only [Say.deep]; omega, dp.2, dp2.2⟩ kf (dd2.same sq) (sq _ _ hb4)
      · refine ⟨_, rfl, _, rfl, _, rfl, _, ss.length, rfl, .inl ⟨_, hS2, by rw [List.length_map]⟩, d, (ss.length : Int), rfl, d2, by omega, fun r H3 r0 r1 k3 d3 => ?_⟩
        obtain ⟨nx, hnx, nxm⟩ := pickS ss r r0 r1
        have k13 := k12.trans (k3.l (e := bx))
        have b3 := k3 _ _ b2 hbd
        refine ⟨nm, _, _, .str nx, rfl, rfl, k13.seq hne hnb hS, hnx, ?_⟩
        refine ⟨by show 2 ≤ sizeLine; decide, fun O hO => ?_⟩
        have sO := Same.new (o := .lst [.str "some", .str "each"]) hO
        have hgo7' : 7 ≤ go := by
          have : ¬ (go < 7) := fun z => hgo7 (decide_eq_true z)
          omega
        obtain ⟨x, hx, hv⟩ := pick2 (V.str "some") (V.str "each") (go - 7) (by omega) (by omega)
        refine ⟨_, rfl, _, _, rfl, rfl, O, _, _, x, rfl, rfl, .of upd_same, hx, _, rfl, _, rfl, _, rfl, _, rfl, _, rfl, _, rfl, _, _, rfl, rfl, ?_⟩
        dsimp only [tNil]
        refine self _ _ _ (d3.same sO) (sO _ _ b3) (k13.trans sO.kb2) fun p f H4 b4 dt dp kk dd hb4 => ⟨by show 3 ≤ sizeLine; decide, fun q hq => ?_⟩
        have sq := Same.new (o := .tup [x, .str nx, .ref p]) hq
        have m1 := dat_stay sq.kts _ _ f.noL dt
        have kf : KB2 d bx H (upd H4 q (.tup [x, .str nx, .ref p])) := ((k13.trans sO.kb2).trans kk).trans sq.kb2
        rcases hv with rfl | rfl
        · exact k q (.some nx f) _ b4 (dat_tup (.of upd_same) (dats_cons dat_str (dats_cons dat_str (dats_cons m1 dats_nil)))) ⟨by have := dp.1; simp only [Say.deep]; omega, nxm, dp.2⟩ kf (dd.same sq) (sq _ _ hb4)
        · exact k q (.each nx f) _ b4 (dat_tup (.of upd_same) (dats_cons dat_str (dats_cons dat_str (dats_cons m1 dats_nil)))) ⟨by have := dp.1; simp only [Say.deep]; omega, nxm, dp.2⟩ kf (dd.same sq) (sq _ _ hb4)
end
end My
set_option Elab.async false
set_option linter.all false
set_option maxRecDepth 100000
set_option maxHeartbeats 4000000
namespace My
open PySem L2
def digs (b n : Nat) : List Int := if h : n = 0 ∨ b < 2 then [] else ((n % b : Nat) : Int) :: digs b (n / b)
termination_by n
decreasing_by exact Nat.div_lt_self (by omega) (by omega)
theorem digs_zero (b : Nat) : digs b 0 = [] := by rw [digs, dif_pos (.inl rfl)]
theorem digs_pos {b n : Nat} (hb : 2 ≤ b) (hn : 0 < n) : digs b n = ((n % b : Nat) : Int) :: digs b (n / b) := by rw [digs, dif_neg (by omega)]
theorem digs_len {b : Nat} (hb : 2 ≤ b) : ∀ (L n : Nat), n < 2 ^ L → (digs b n).length ≤ L
  | 0, n, h => by
    have : n = 0 := by simpa using h
    subst this; rw [digs_zero]; simp
  | L + 1, n, h => by
    by_cases hn : n = 0
    · subst hn; rw [digs_zero]; simp
    · rw [digs_pos hb (by omega), List.length_cons]
      refine Nat.succ_le_succ (digs_len hb L _ ?_)
      rw [Nat.div_lt_iff_lt_mul (by omega)]
      refine Nat.lt_of_lt_of_le h ?_
      rw [Nat.pow_succ]
      exact Nat.mul_le_mul_left _ hb
theorem digs_lt {b : Nat} (hb : 2 ≤ b) (n : Nat) : ∀ f ∈ digs b n, 0 ≤ f ∧ f < b := by
  induction n using Nat.strongRecOn with
  | ind n ih =>
    by_cases hn : n = 0
    · subst hn; rw [digs_zero]; intro f hf; cases hf
    · rw [digs_pos hb (by omega)]
      intro f hf
      rcases List.mem_cons.mp hf with rfl | hf
      · have := Nat.mod_lt n (show 0 < b by omega)
        omega
      · exact ih _ (Nat.div_lt_self (by omega) (by omega)) f hf
def spFigures : Sp := fun vs H Q _ => ∃ (b n : Nat), vs = [.int b, .int n] ∧ 2 ≤ b ∧ b ≤ 1000 ∧ n < 2 ^ 20000 ∧ ∀ (D : Addr) (H' : Hp), H D = none → Same H H' → H' D = some (.lst ((digs b n).map V.int)) → Q (.ref D) H'
theorem log_small {b : Nat} (h : b ≤ 1000) : (b : Int).natAbs.log2 < 9000 := by
  rw [Int.natAbs_natCast]
  by_cases hb : b = 0
  · subst hb; decide
  · rw [Nat.log2_lt hb]
    refine Nat.lt_of_le_of_lt h ?_
    refine Nat.lt_of_lt_of_le (show 1000 < 2 ^ 10 by decide) (Nat.pow_le_pow_right (by decide) (by decide))
section
variable {P : Program} {w : World} {K : PySem.W.Frag} {mg : Str → Option Value} {base : Heap}
theorem sc_figures_of : FnScope ["base", "number", "figures"] ["base", "number"] (defScope s_figures_of) := ⟨rfl, rfl, rfl, by decide +kernel, rfl, by decide +kernel, by decide +kernel⟩
theorem ok_figures_of {a : Adr} (T : Txt K mg a) : FnOk P w K mg base CX0 1 a.f_figures_of a.fd_figures_of ["base", "number"] spFigures := by
  refine T.F_figures_of.ok sc_figures_of (fun vs H Q E h => ?_) (fun cdv A outer s H vs Q E hr h => ?_)
  · obtain ⟨b, n, rfl, _⟩ := h
    rfl
  · obtain ⟨b, n, rfl, hb2, hb9, hn, k⟩ := h
    refine ⟨_, (pss_cons (ps_set (i := 2) sc_figures_of.nd rfl (Or.inl rfl) (pe_lst pa_nil))
    (pss_cons (ps_while PassesOwn.never (pt_cmpR op_gt (pv 1) pe_int (nomark _))
      (pss_cons (ps_expr (pe_bm PySem.F.plainAttrs_list PySem.F.slot_list_append PySem.F.type_list_append mt_append (pv 2) (pa_cons (pe_op op_modP (pv 1) (pv 0)) pa_nil)))
      (pss_one (ps_set (i := 1) sc_figures_of.nd rfl (Or.inl rfl) (pe_op op_fdivB (pv 1) (pv 0))))))
    (pss_one (ps_ret (pv 2))))), ?_⟩
    refine ⟨by decide, fun D hD => ?_⟩
    have hlen : (digs b n).length ≤ 20000 := digs_len hb2 20000 n hn
    refine while_by (fun σ H' => ∃ (m : Nat) (pre : List Int), σ = [some (.int b), some (.int m), some (.ref D)] ∧ Same H H' ∧ H' D = some (.lst (pre.map V.int)) ∧ pre ++ digs b m = digs b n)
      (fun σ _ => match σ with | [_, some (.int m), _] => m.toNat | _ => 0) ⟨n, [], rfl, Same.new hD, upd_same, rfl⟩ ?_ ?_
    · rintro σ H1 ⟨m, pre, rfl, s1, e1, hp⟩
      refine ⟨_, rfl, _, _, rfl, rfl, _, rfl, ?_⟩
      refine ite2 (fun hm => ?_) (fun hm => ?_)
      · have hm' : 0 < m := by have := of_decide_eq_true hm; omega
        have hpl : pre.length ≤ 20000 := by rw [← hp, List.length_append] at hlen; omega
        refine ⟨_, rfl, .inl ⟨rfl, _, .of e1⟩, _, rfl, _, rfl, _, _, rfl, rfl, cpos (by omega), D, _, _, rfl, rfl, e1, ?_, ?_⟩
        · rw [List.length_map]; exact Nat.lt_of_le_of_lt hpl (by decide)
        refine ⟨_, rfl, _, rfl, _, _, rfl, rfl, ⟨by omega, log_small hb9⟩, ⟨m / b, pre ++ [((m % b : Nat) : Int)], ?_, s1.kbn hD KB.write, ?_, ?_⟩, ?_⟩
        · rw [Int.natCast_ediv]; rfl
        · rw [upd_same, List.map_append, Int.natCast_emod]; rfl
        · rw [List.append_assoc, ← hp, digs_pos hb2 hm']; rfl
        · show ((m : Int) / (b : Int)).toNat < (m : Int).toNat
          rw [← Int.natCast_ediv, Int.toNat_natCast, Int.toNat_natCast]
          exact Nat.div_lt_self hm' (by omega)
      · have hm' : m = 0 := by
          by_cases z : m = 0
          · exact z
          · exact absurd (decide_eq_true (show (0 : Int) < (m : Int) by omega)) hm
        subst hm'
        rw [digs_zero, List.append_nil] at hp
        subst hp
        exact ⟨_, rfl, k D H1 hD s1 e1⟩
    · rintro σ H1 Q1 Q2 hQ ⟨v, e, i, j, e1, e2, c, e3, q⟩
      exact ⟨v, e, i, j, e1, e2, c, e3, hQ _ _ q⟩
end
def lst (b : Nat) (acc : Nat) (ds : List Nat) : Nat := ds.foldl (fun l d => l * b + d) acc
def castI (ds : List Nat) : List Int := ds.map fun (d : Nat) => (d : Int)
theorem castI_at (ds : List Nat) (i : Nat) : (castI ds)[i]? = ds[i]?.map fun (d : Nat) => (d : Int) := by simp [castI]
theorem natItem {ds : List Nat} {i : Nat} {x : V} (h : ((castI ds).map V.int)[i]? = some x) : ∃ n : Nat, x = .int (n : Int) ∧ ds[i]? = some n := by
  obtain ⟨f, rfl, hf⟩ := intItem h
  rw [castI_at] at hf
  cases e : ds[i]? with
  | none => rw [e] at hf; cases hf
  | some n => rw [e] at hf; exact ⟨n, by rw [← Option.some.inj hf], rfl⟩
theorem castI_len (ds : List Nat) : (castI ds).length = ds.length := by simp [castI]
theorem castI_app (xs ys : List Nat) : castI (xs ++ ys) = castI xs ++ castI ys := by simp [castI]
theorem atI_at {α : Type} {xs : List α} {i : Int} {j : Nat} {v : α} (e : i = (j : Int)) (h : xs[j]? = some v) : atI xs i = some v := by rw [e]; exact atI_nat h
def RowAt (H : Hp) (r : Addr) (sg : List Nat) (mv : List (List Nat)) : Prop := ∃ (sa ma : Addr) (ps : List Addr), H r = some (.tup [.ref sa, .ref ma]) ∧ H sa = some (.tup ((castI sg).map V.int)) ∧ H ma = some (.tup (ps.map V.ref)) ∧ Tups H ps (mv.map castI)
theorem RowAt.keep {H H' : Hp} {r : Addr} {sg : List Nat} {mv : List (List Nat)} (h : RowAt H r sg mv) (k : KTu H H') : RowAt H' r sg mv := by
  obtain ⟨sa, ma, ps, h1, h2, h3, h4⟩ := h
  exact ⟨sa, ma, ps, k _ _ h1, k _ _ h2, k _ _ h3, h4.keep k⟩
structure Right (b : Nat) (sg : List Nat) (mv : List (List Nat)) : Prop where
  len : mv.length = sg.length
  small : sg.length ≤ 1000
  two : 2 ≤ b ∧ b ≤ 4
  lead : ∀ l ∈ mv, l.length = b ∧ ∀ x ∈ l, x < sg.length
  like : ∀ (i : Nat) (l : List Nat), mv[i]? = some l → sg.getD (l.getD 0 0) 0 = sg.getD i 0
def go (mv : List (List Nat)) (r : Nat) (fs : List Nat) : Nat := fs.foldl (fun r f => (mv.getD r []).getD f 0) r
def dgN (b n : Nat) : List Nat := (digs b n).map Int.toNat
theorem dgN_cast {b : Nat} (hb : 2 ≤ b) (n : Nat) : castI (dgN b n) = digs b n := by
  have : ∀ xs : List Int, (∀ f ∈ xs, 0 ≤ f) → castI (xs.map Int.toNat) = xs := fun xs => by
    induction xs with
    | nil => intro _; rfl
    | cons x xs ih =>
      intro h
      show ((x.toNat : Nat) : Int) :: castI (xs.map Int.toNat) = _
      rw [ih fun f hf => h f (List.mem_cons_of_mem _ hf)]
      have := h x List.mem_cons_self
      rw [show ((x.toNat : Nat) : Int) = x by omega]
  exact this _ fun f hf => (digs_lt hb n f hf).1
theorem dgN_lt {b : Nat} (hb : 2 ≤ b) (n : Nat) : ∀ f ∈ dgN b n, f < b := fun f hf => by
  obtain ⟨z, hz, rfl⟩ := List.mem_map.mp hf
  have := digs_lt hb n z hz
  omega
theorem item_at {α : Type} {xs : List α} {i : Nat} (d : α) (h : i < xs.length) : xs[i]? = some (xs.getD i d) := by rw [List.getD_eq_getElem?_getD, List.getElem?_eq_getElem h]; rfl
theorem castI_item {ds : List Nat} {i : Nat} (h : i < ds.length) : ((castI ds).map V.int)[i]? = some (.int (ds.getD i 0 : Nat)) := by
  rw [List.getElem?_map, castI_at, item_at 0 h]; rfl
theorem Right.at {b : Nat} {sg : List Nat} {mv : List (List Nat)} (h : Right b sg mv) {r f : Nat} (hr : r < sg.length) (hf : f < b) : ((mv.getD r []).getD f 0) < sg.length := by
  have h1 : mv[r]? = some (mv.getD r []) := item_at [] (by rw [h.len]; exact hr)
  obtain ⟨l1, l2⟩ := h.lead _ (List.mem_of_getElem? h1)
  have h2 := item_at 0 (show f < (mv.getD r []).length by omega)
  exact l2 _ (List.mem_of_getElem? h2)
theorem go_lt {b : Nat} {sg : List Nat} {mv : List (List Nat)} (h : Right b sg mv) : ∀ (fs : List Nat) (r : Nat), r < sg.length → (∀ f ∈ fs, f < b) → go mv r fs < sg.length
  | [], r, hr, _ => hr
  | f :: fs, r, hr, hf => go_lt h fs _ (h.at hr (hf f List.mem_cons_self)) fun g hg => hf g (List.mem_cons_of_mem _ hg)
theorem go_app (mv : List (List Nat)) (r : Nat) (xs : List Nat) (f : Nat) : go mv r (xs ++ [f]) = (mv.getD (go mv r xs) []).getD f 0 := by simp [go, List.foldl_append]
def spRoom (K : PySem.W.Frag) : Sp := fun vs H Q _ => ∃ (ma fa : Addr) (ps : List Addr) (b rm : Nat) (sg : List Nat) (mv : List (List Nat)) (fs : List Nat), vs = [.ref ma, .int rm, .ref fa] ∧ H ma = some (.tup (ps.map V.ref)) ∧ Tups H ps (mv.map castI) ∧ Right b sg mv ∧
  rm < sg.length ∧ SqL K H fa ((castI fs).map V.int) ∧ (∀ f ∈ fs, f < b) ∧ Q (.int (go mv rm fs : Nat)) H
theorem dgN_zero (b : Nat) : dgN b 0 = [] := by rw [dgN, digs_zero]; rfl
theorem dgN_pos {b n : Nat} (hb : 2 ≤ b) (hn : 0 < n) : dgN b n = (n % b) :: dgN b (n / b) := by rw [dgN, digs_pos hb hn]; rfl
theorem valV_has {kvs : List (Key × V)} {k : Key} (h : ∃ p ∈ kvs, p.1 = k) : ∃ v, valV kvs k = some v ∧ (k, v) ∈ kvs := by
  obtain ⟨p, hp, e⟩ := h
  unfold valV
  cases f : kvs.find? (fun kv => decide (kv.1 = k)) with
  | none =>
    have := List.find?_eq_none.mp f p hp
    exact absurd (decide_eq_true e) this
  | some q =>
    have h1 := List.find?_some f
    have h2 := List.mem_of_find?_eq_some f
    have e2 : q.1 = k := of_decide_eq_true h1
    refine ⟨q.2, rfl, ?_⟩
    rw [← e2]
    exact h2
theorem put_mem {kvs : List (Key × V)} {k : Key} {v : V} {p : Key × V} (h : p ∈ putK kvs k v) : p = (k, v) ∨ p ∈ kvs := by
  unfold putK at h
  by_cases c : (kvs.any fun kv => decide (kv.1 = k)) = true
  · rw [if_pos c] at h
    obtain ⟨q, hq, e⟩ := List.mem_map.mp h
    by_cases z : q.1 = k
    · rw [if_pos z, z] at e
      exact .inl e.symm
    · rw [if_neg z] at e
      exact .inr (e ▸ hq)
  · rw [if_neg c] at h
    rcases List.mem_append.mp h with h | h
    · exact .inr h
    · exact .inl (by simpa using h)
def AllR (H : Hp) (b : Nat) (kvs : List (Key × V)) : Prop := ∀ p ∈ kvs, ∃ x r sg mv, p = (Sum.inr x, V.ref r) ∧ RowAt H r sg mv ∧ Right b sg mv ∧ 0 < sg.length
theorem AllR.keep {H H' : Hp} {b : Nat} {kvs : List (Key × V)} (h : AllR H b kvs) (k : KTu H H') : AllR H' b kvs := fun p hp => by
  obtain ⟨x, r, sg, mv, e, a, c⟩ := h p hp
  exact ⟨x, r, sg, mv, e, a.keep k, c⟩
theorem AllR.get {H : Hp} {b : Nat} {kvs : List (Key × V)} (h : AllR H b kvs) {x : Str} (hk : ∃ p ∈ kvs, p.1 = Sum.inr x) : ∃ r sg mv, valV kvs (Sum.inr x) = some (.ref r) ∧ RowAt H r sg mv ∧ Right b sg mv ∧ 0 < sg.length := by
  obtain ⟨v, e, m⟩ := valV_has hk
  obtain ⟨y, r, sg, mv, z, a, c⟩ := h _ m
  cases z
  exact ⟨r, sg, mv, e, a, c⟩
theorem AllR.put {H : Hp} {b : Nat} {kvs : List (Key × V)} (h : AllR H b kvs) {x : Str} {r : Addr} {sg : List Nat} {mv : List (List Nat)} (a : RowAt H r sg mv) (R : Right b sg mv) (s0 : 0 < sg.length) : AllR H b (putK kvs (Sum.inr x) (.ref r)) := fun p hp => by
  rcases put_mem hp with rfl | hp
  · exact ⟨x, r, sg, mv, rfl, a, R, s0⟩
  · exact h p hp
def spSign : Sp := fun vs H Q _ => ∃ (b n : Nat) (wa D r : Addr) (x : Str) (kvs : List (Key × V)) (sg : List Nat) (mv : List (List Nat)), vs = [.ref wa, .str x, .int n] ∧ H wa = some (.tup [.int b, .ref D]) ∧ Rd H D (.dK kvs) ∧ valV kvs (Sum.inr x) = some (.ref r) ∧ RowAt H r sg mv ∧ Right b sg mv ∧ 0 < sg.length ∧ n < 2 ^ 20000 ∧
  ∀ H', Same H H' → Q (.int (sg.getD (go mv 0 (dgN b n)) 0 : Nat)) H'
section
variable {P : Program} {w : World} {K : PySem.W.Frag} {mg : Str → Option Value} {base : Heap}
theorem sc_room_after : FnScope ["moves", "room", "figures", "figure"] ["moves", "room", "figures"] (defScope s_room_after) := ⟨rfl, rfl, rfl, by decide +kernel, rfl, by decide +kernel, by decide +kernel⟩
theorem ok_room_after {a : Adr} (T : Txt K mg a) : FnOk P w K mg base CX0 1 a.f_room_after a.fd_room_after ["moves", "room", "figures"] (spRoom K) := by
  refine T.F_room_after.ok sc_room_after (fun vs H Q E h => ?_) (fun cdv A outer s H vs Q E hr h => ?_)
  · obtain ⟨ma, fa, ps, b, rm, sg, mv, fs, rfl, _⟩ := h
    rfl
  · obtain ⟨ma, fa, ps, b, rm, sg, mv, fs, rfl, e3, tp, R, hrm, hF, hf, k⟩ := h
    refine ⟨_, (pss_cons (ps_for PassesOwn.never rfl (pi_list (pv 2)) (pg_name (i := 3) sc_room_after.nd rfl (Or.inl rfl))
      (pss_one (ps_set (i := 1) sc_room_after.nd rfl (Or.inl rfl) (pe_ix (ix_tupK K) (pe_ix (ix_tupK K) (pv 0) (pv 1) (fun _ _ => rfl)) (pv 3) (fun _ _ => rfl)))))
    (pss_one (ps_ret (pv 1)))), ?_⟩
    have lp : ps.length = sg.length := by rw [Paired.length tp, List.length_map, R.len]
    refine ⟨_, rfl, fa, rfl, ⟨_, hF⟩, for_list (xs := (castI fs).map V.int) (fun i σ H' => ∃ v3 : Option V, σ = [some (.ref ma), some (.int (go mv rm (fs.take i) : Nat)), some (.ref fa), v3] ∧ H' = H)
      ⟨none, rfl, rfl⟩ (fun i σ H' _ ⟨_, _, e⟩ => e ▸ hF) ?_ ?_⟩
    · rintro i x σ H' hx ⟨v3, rfl, rfl⟩
      obtain ⟨f, rfl, ef⟩ := natItem hx
      have hfb := hf f (List.mem_of_getElem? ef)
      have hg := go_lt R (fs.take i) rm hrm fun z hz => hf z (List.mem_of_mem_take hz)
      have hp := item_at 0 (show go mv rm (fs.take i) < ps.length by omega)
      obtain ⟨l', hl', el⟩ := tp.get hp
      rw [List.getElem?_map, item_at [] (show go mv rm (fs.take i) < mv.length by rw [R.len]; exact hg)] at hl'
      have := Option.some.inj hl'
      subst this
      have lb := (R.lead _ (List.mem_of_getElem? (item_at [] (show go mv rm (fs.take i) < mv.length by rw [R.len]; exact hg)))).1
      refine ⟨_, rfl, _, rfl, ma, _, _, _, rfl, rfl, .of e3, atI_nat (v := .ref (ps.getD (go mv rm (fs.take i)) 0)) (by rw [List.getElem?_map, hp]; rfl), _, rfl, _, _, _, _, rfl, rfl, .of el, atI_nat (castI_item (by rw [lb]; exact hfb)), some (.int (f : Int)), ?_, rfl⟩
      rw [take_snoc ef, go_app]
      rfl
    · rintro σ H' ⟨v3, rfl, rfl⟩
      rw [List.length_map, castI_len, List.take_length]
      exact ⟨_, rfl, k⟩
theorem sc_sign_at : FnScope ["world", "name", "number", "row", "room"] ["world", "name", "number"] (defScope s_sign_at) := ⟨rfl, rfl, rfl, by decide +kernel, rfl, by decide +kernel, by decide +kernel⟩
theorem ok_sign_at {a : Adr} (T : Txt K mg a) : FnOk P w K mg base CX0 2 a.f_sign_at a.fd_sign_at ["world", "name", "number"] spSign := by
  have G_figures_of : FnOk P w K mg base CX0 1 a.f_figures_of a.fd_figures_of ["base", "number"] spFigures := ok_figures_of T
  have G_room_after : FnOk P w K mg base CX0 1 a.f_room_after a.fd_room_after ["moves", "room", "figures"] (spRoom K) := ok_room_after T
  refine T.F_sign_at.ok sc_sign_at (fun vs H Q E h => ?_) (fun cdv A outer s H vs Q E hr h => ?_)
  · obtain ⟨b, n, wa, d, r, x, kvs, sg, mv, rfl, _⟩ := h
    rfl
  · obtain ⟨b, n, wa, d, r, x, kvs, sg, mv, rfl, e1, e2, ev, ra, R, s0, hn, k⟩ := h
    have hr_figures_of : Room 1 _ := hr
    have hr_room_after : Room 1 _ := hr
    refine ⟨_, (pss_cons (ps_set (i := 3) sc_sign_at.nd rfl (Or.inl rfl) (pe_dget (hu_of hr) (pe_ix (ix_tupK K) (pv 0) pe_int (fun _ _ => rfl)) (pv 1) (fun _ _ => rfl)))
    (pss_cons (ps_set (i := 4) sc_sign_at.nd rfl (Or.inl rfl) (pe_call G_room_after hr_room_after rfl T.m_room_after T.k_room_after T.b_room_after .nil pass0 (pa_cons (pe_ix (ix_tupK K) (pv 3) pe_int (fun _ _ => rfl)) (pa_cons pe_int (pa_cons (pe_call G_figures_of hr_figures_of rfl T.m_figures_of T.k_figures_of T.b_figures_of .nil pass0 (pa_cons (pe_ix (ix_tupK K) (pv 0) pe_int (fun _ _ => rfl)) (pa_cons (pv 2) pa_nil))) pa_nil)))))
    (pss_one (ps_ret (pe_ix (ix_tupK K) (pe_ix (ix_tupK K) (pv 3) pe_int (fun _ _ => rfl)) (pv 4) (fun _ _ => rfl)))))), ?_⟩
    obtain ⟨sa, ma, ps, r1, r2, r3, tp⟩ := ra
    obtain ⟨b2, b4⟩ := R.two
    refine ⟨_, rfl, wa, _, _, _, rfl, rfl, .of e1, atI_nat (j := 1) (v := .ref d) rfl, _, rfl, d, .ref r, rfl, dgetR e2 ev, ?_⟩
    refine ⟨_, rfl, r, _, _, _, rfl, rfl, .of r1, atI_nat (j := 1) (v := .ref ma) rfl, _, rfl, wa, _, _, _, rfl, rfl, .of e1, atI_nat (j := 0) (v := .int b) rfl, _, rfl, b, n, rfl, b2, by omega, hn, fun D H1 hD s1 eD => ?_⟩
    rw [← dgN_cast b2] at eD
    refine ⟨ma, D, ps, b, 0, sg, mv, dgN b n, rfl, s1 _ _ r3, tp.keep s1.kt, R, s0, .of eD, dgN_lt b2 n, ?_⟩
    have hg := go_lt R (dgN b n) 0 s0 (dgN_lt b2 n)
    refine ⟨_, rfl, r, _, _, _, rfl, rfl, .of (s1 _ _ r1), atI_nat (j := 0) (v := .ref sa) rfl, _, rfl, sa, _, _, _, rfl, rfl, .of (s1 _ _ r2), atI_nat (castI_item hg), k _ s1⟩
end
end My
set_option Elab.async false
set_option linter.all false
set_option maxRecDepth 100000
set_option maxHeartbeats 4000000
namespace My
open PySem L2
theorem inW2 (a b w : Str) : inV (.str w) [.str a, .str b] = (decide (w = a) || decide (w = b)) := by
  unfold inV
  show ((a == w) || ((b == w) || false)) = _
  rw [Bool.or_false]
  congr 1
  · by_cases h : w = a
    · subst h; simp
    · have : a ≠ w := fun z => h z.symm
      simp [h, this]
  · by_cases h : w = b
    · subst h; simp
    · have : b ≠ w := fun z => h z.symm
      simp [h, this]
def WAt (H : Hp) (wa : Addr) (sg : Str → Nat → Nat) (rs : List Str) : Prop := ∃ (b : Nat) (D : Addr) (kvs : Kvs), H wa = some (.tup [.int b, .ref D]) ∧ Rd H D (.dK kvs) ∧ 2 ≤ b ∧ b ≤ 4 ∧
  ∀ x ∈ rs, ∃ (r : Addr) (gs : List Nat) (mv : List (List Nat)), valV kvs (Sum.inr x) = some (.ref r) ∧ RowAt H r gs mv ∧ Right b gs mv ∧ 0 < gs.length ∧ ∀ n : Nat, sg x n = gs.getD (go mv 0 (dgN b n)) 0
def KD (H H' : Hp) : Prop := ∀ (d : Addr) (kvs : Kvs), Rd H d (.dK kvs) → Rd H' d (.dK kvs)
structure Kp (K : PySem.W.Frag) (H H' : Hp) : Prop where
  kts : KTs K H H'
  ktu : KTu H H'
  kd : KD H H'
theorem Kp.refl (K : PySem.W.Frag) (H : Hp) : Kp K H H := ⟨KTs.refl H, fun _ _ h => h, fun _ _ h => h⟩
theorem Kp.trans {K : PySem.W.Frag} {H H1 H2 : Hp} (a : Kp K H H1) (b : Kp K H1 H2) : Kp K H H2 := ⟨a.kts.trans b.kts, a.ktu.trans b.ktu, fun d kvs h => b.kd d kvs (a.kd d kvs h)⟩
theorem same_kp {K : PySem.W.Frag} {H H' : Hp} (s : Same H H') : Kp K H H' := ⟨s.kts, s.kt, fun _ _ h => same_rd s h⟩
theorem kb_kp {K : PySem.W.Frag} {H H' : Hp} {L : Addr} {ys : List V} (h : H L = some (.lst ys)) (k : KB L H H') : Kp K H H' := ⟨KB.kts h k, KTu.kb h k, fun d kvs e => by
  rcases e with e | ⟨o, e⟩
  · exact .inl (k _ _ e (ne_of e h (fun z => nomatch z)))
  · exact .inr ⟨o, k _ _ e (ne_of e h (fun z => nomatch z))⟩⟩
theorem WAt.keep {H H' : Hp} {wa : Addr} {sg : Str → Nat → Nat} {rs : List Str} (h : WAt H wa sg rs) (u : KTu H H') (d : KD H H') : WAt H' wa sg rs := by
  obtain ⟨b, D, kvs, h1, h2, b2, b4, h3⟩ := h
  refine ⟨b, D, kvs, u _ _ h1, d _ _ h2, b2, b4, fun x hx => ?_⟩
  obtain ⟨r, gs, mv, e1, e2, e3⟩ := h3 x hx
  exact ⟨r, gs, mv, e1, e2.keep u, e3⟩
theorem tup2_inv {K : PySem.W.Frag} {H : Hp} {x : V} {d0 d1 : Dt} (h : DatAt K H x (.tup [d0, d1])) : ∃ a y0 y1, x = .ref a ∧ SqT K H a [y0, y1] ∧ DatAt K H y0 d0 ∧ DatAt K H y1 d1 := by
  obtain ⟨a, xs, rfl, hq, hd⟩ := dat_tup_inv h
  obtain ⟨y0, ys, rfl, h0, hd⟩ := dats_inv hd
  obtain ⟨y1, ys, rfl, h1, hd⟩ := dats_inv hd
  have e : ys = [] := by have := hd.length; simpa using this
  subst e
  exact ⟨a, y0, y1, rfl, hq, h0, h1⟩
theorem tup3_inv {K : PySem.W.Frag} {H : Hp} {x : V} {d0 d1 d2 : Dt} (h : DatAt K H x (.tup [d0, d1, d2])) : ∃ a y0 y1 y2, x = .ref a ∧ SqT K H a [y0, y1, y2] ∧ DatAt K H y0 d0 ∧ DatAt K H y1 d1 ∧ DatAt K H y2 d2 := by
  obtain ⟨a, xs, rfl, hq, hd⟩ := dat_tup_inv h
  obtain ⟨y0, ys, rfl, h0, hd⟩ := dats_inv hd
  obtain ⟨y1, ys, rfl, h1, hd⟩ := dats_inv hd
  obtain ⟨y2, ys, rfl, h2, hd⟩ := dats_inv hd
  have e : ys = [] := by have := hd.length; simpa using this
  subst e
  exact ⟨a, y0, y1, y2, rfl, hq, h0, h1, h2⟩
theorem tup4_inv {K : PySem.W.Frag} {H : Hp} {x : V} {d0 d1 d2 d3 : Dt} (h : DatAt K H x (.tup [d0, d1, d2, d3])) : ∃ a y0 y1 y2 y3, x = .ref a ∧ SqT K H a [y0, y1, y2, y3] ∧ DatAt K H y0 d0 ∧ DatAt K H y1 d1 ∧ DatAt K H y2 d2 ∧ DatAt K H y3 d3 := by
  obtain ⟨a, xs, rfl, hq, hd⟩ := dat_tup_inv h
  obtain ⟨y0, ys, rfl, h0, hd⟩ := dats_inv hd
  obtain ⟨y1, ys, rfl, h1, hd⟩ := dats_inv hd
  obtain ⟨y2, ys, rfl, h2, hd⟩ := dats_inv hd
  obtain ⟨y3, ys, rfl, h3, hd⟩ := dats_inv hd
  have e : ys = [] := by have := hd.length; simpa using this
  subst e
  exact ⟨a, y0, y1, y2, y3, rfl, hq, h0, h1, h2, h3⟩
theorem tup5_inv {K : PySem.W.Frag} {H : Hp} {x : V} {d0 d1 d2 d3 d4 : Dt} (h : DatAt K H x (.tup [d0, d1, d2, d3, d4])) : ∃ a y0 y1 y2 y3 y4, x = .ref a ∧ SqT K H a [y0, y1, y2, y3, y4] ∧ DatAt K H y0 d0 ∧ DatAt K H y1 d1 ∧ DatAt K H y2 d2 ∧ DatAt K H y3 d3 ∧ DatAt K H y4 d4 := by
  obtain ⟨a, xs, rfl, hq, hd⟩ := dat_tup_inv h
  obtain ⟨y0, ys, rfl, h0, hd⟩ := dats_inv hd
  obtain ⟨y1, ys, rfl, h1, hd⟩ := dats_inv hd
  obtain ⟨y2, ys, rfl, h2, hd⟩ := dats_inv hd
  obtain ⟨y3, ys, rfl, h3, hd⟩ := dats_inv hd
  obtain ⟨y4, ys, rfl, h4, hd⟩ := dats_inv hd
  have e : ys = [] := by have := hd.length; simpa using this
  subst e
  exact ⟨a, y0, y1, y2, y3, y4, rfl, hq, h0, h1, h2, h3, h4⟩
theorem isStr {K : PySem.W.Frag} {H : Hp} {x : V} {z : Str} (h : DatAt K H x (.str z)) : x = .str z := by rw [DatAt] at h; exact h
theorem isInt {K : PySem.W.Frag} {H : Hp} {x : V} {i : Int} (h : DatAt K H x (.int i)) : x = .int i := by rw [DatAt] at h; exact h
theorem dII {i j : Int} : decide (V.int i = V.int j) = decide (i = j) := by by_cases h : i = j <;> simp [h]
theorem dBB {i j : Bool} : decide (V.bl i = V.bl j) = decide (i = j) := by by_cases h : i = j <;> simp [h]
theorem ifW {a b : Str} {A B : Prop} (h : a = b) (x : A) : if decide (V.str a = V.str b) = true then A else B := by
  subst h; rw [if_pos (by simp)]; exact x
theorem ifWn {a b : Str} {A B : Prop} (h : a ≠ b) (x : B) : if decide (V.str a = V.str b) = true then A else B := by
  rw [if_neg (by simp [h])]; exact x
theorem TOk.w {ss : List Str} {t : Term} {kvs : Kvs} (h : TOk ss t) (he : EnvOk ss kvs) : (∀ q ∈ t.parts, HasI kvs q.1 ∧ 0 ≤ q.2 ∧ q.2 ≤ 100) ∧ t.parts.length ≤ 100 :=
  ⟨fun q hq => ⟨he.has (h.2.2 q hq).1, (h.2.2 q hq).2.1, by have := (h.2.2 q hq).2.2; omega⟩, by have := h.2.1; omega⟩
def spAtom (K : PySem.W.Frag) : Sp := fun vs H Q _ => ∃ (wa d : Addr) (x : V) (f : Say) (kvs : Kvs) (sg : Str → Nat → Nat) (ss rs : List Str), vs = [.ref wa, x, .ref d] ∧ WAt H wa sg rs ∧ DatAt K H x f.dt ∧ Rd H d (.dK kvs) ∧ f.atom = true ∧ f.Ok ss rs ∧ EnvOk ss kvs ∧
  ∀ H', Same H H' → Q (.bl (atomV sg f kvs)) H'
def Say.many (most : Nat) : Say → Nat
  | .some _ _ => most
  | .each _ _ => most
  | f => f.inner.length
theorem items_len {most : Nat} {f : Say} {kvs : Kvs} : (f.items most kvs).length = f.many most := by
  cases f <;> simp [Say.items, Say.many, Say.inner]
def spTurns (K : PySem.W.Frag) : Sp := fun vs H Q _ => ∃ (x : V) (f : Say) (most : Nat), vs = [x, .int most] ∧ DatAt K H x f.dt ∧ ∀ H', Same H H' → Q (.int (f.many most : Nat)) H'
def spTurnAt (K : PySem.W.Frag) : Sp := fun vs H Q _ => ∃ (x : V) (f g : Say) (d : Addr) (kvs kvs' : Kvs) (n most : Nat), vs = [x, .ref d, .int n] ∧ DatAt K H x f.dt ∧ Rd H d (.dK kvs) ∧ (f.items most kvs)[n]? = some (g, kvs') ∧ kvs.length ≤ 1000 ∧
  ∀ (p d' : Addr) (y : V) (H' : Hp), Same H H' → SqT K H' p [y, .ref d'] → DatAt K H' y g.dt → Rd H' d' (.dK kvs') → Q (.ref p) H'
theorem quant_in (f : Say) : inV (.str f.word) [.str "some", .str "each"] = true ↔ ∃ n g, f = .some n g ∨ f = .each n g := by
  rw [inW2]
  have no : ∀ z : Str, z ≠ "some" → z ≠ "each" → (decide (z = "some") || decide (z = "each")) = true → False := fun z a b h => by simp [a, b] at h
  cases f with
  | some n g => exact ⟨fun _ => ⟨n, g, .inl rfl⟩, fun _ => by show (decide (("some" : Str) = "some") || decide (("some" : Str) = "each")) = true; decide +kernel⟩
  | each n g => exact ⟨fun _ => ⟨n, g, .inr rfl⟩, fun _ => by show (decide (("each" : Str) = "some") || decide (("each" : Str) = "each")) = true; decide +kernel⟩
  | same t u => exact ⟨fun h => (no "same" (by decide +kernel) (by decide +kernel) h).elim, fun ⟨_, _, z⟩ => by rcases z with z | z <;> cases z⟩
  | less t u => exact ⟨fun h => (no "less" (by decide +kernel) (by decide +kernel) h).elim, fun ⟨_, _, z⟩ => by rcases z with z | z <;> cases z⟩
  | sign a t z => exact ⟨fun h => (no "sign" (by decide +kernel) (by decide +kernel) h).elim, fun ⟨_, _, z⟩ => by rcases z with z | z <;> cases z⟩
  | alike a t b u => exact ⟨fun h => (no "alike" (by decide +kernel) (by decide +kernel) h).elim, fun ⟨_, _, z⟩ => by rcases z with z | z <;> cases z⟩
  | no g => exact ⟨fun h => (no "not" (by decide +kernel) (by decide +kernel) h).elim, fun ⟨_, _, z⟩ => by rcases z with z | z <;> cases z⟩
  | and g h => exact ⟨fun h => (no "and" (by decide +kernel) (by decide +kernel) h).elim, fun ⟨_, _, z⟩ => by rcases z with z | z <;> cases z⟩
  | or g h => exact ⟨fun h => (no "or" (by decide +kernel) (by decide +kernel) h).elim, fun ⟨_, _, z⟩ => by rcases z with z | z <;> cases z⟩
theorem many_inner {f : Say} {most : Nat} (h : ¬ ∃ n g, f = .some n g ∨ f = .each n g) : f.many most = f.inner.length := by
  cases f <;> first | rfl | exact absurd ⟨_, _, .inl rfl⟩ h | exact absurd ⟨_, _, .inr rfl⟩ h
theorem items_inner {f : Say} {most : Nat} {kvs : Kvs} (h : ¬ ∃ n g, f = .some n g ∨ f = .each n g) : f.items most kvs = f.inner.map fun g => (g, kvs) := by
  cases f <;> first | rfl | exact absurd ⟨_, _, .inl rfl⟩ h | exact absurd ⟨_, _, .inr rfl⟩ h
section
variable {P : Program} {w : World} {K : PySem.W.Frag} {mg : Str → Option Value} {base : Heap}
theorem sc_atom_holds : FnScope ["world", "saying", "values", "word", "left"] ["world", "saying", "values"] (defScope s_atom_holds) := ⟨rfl, rfl, rfl, by decide +kernel, rfl, by decide +kernel, by decide +kernel⟩
theorem ok_atom_holds {a : Adr} (T : Txt K mg a) : FnOk P w K mg base CX0 3 a.f_atom_holds a.fd_atom_holds ["world", "saying", "values"] (spAtom K) := by
  have G_worth_of : FnOk P w K mg base CX0 1 a.f_worth_of a.fd_worth_of ["term", "values"] (spWorth K) := ok_worth_of T
  have G_sign_at : FnOk P w K mg base CX0 2 a.f_sign_at a.fd_sign_at ["world", "name", "number"] spSign := ok_sign_at T
  refine T.F_atom_holds.ok sc_atom_holds (fun vs H Q E h => ?_) (fun cdv A outer s H vs Q E hr h => ?_)
  · obtain ⟨wa, d, x, f, kvs, sg, ss, rs, rfl, _⟩ := h
    rfl
  · obtain ⟨wa, d, x, f, kvs, sg, ss, rs, rfl, hw, hx, hd, hat, hok, he, k⟩ := h
    have hr_worth_of : Room 1 _ := hr.mono (by decide)
    have hr_sign_at : Room 2 _ := hr.mono (by decide)
    refine ⟨_, (pss_cons (ps_set (i := 3) sc_atom_holds.nd rfl (Or.inl rfl) (pe_ix (ix_tupK K) (pv 1) pe_int (fun _ _ => rfl)))
    (pss_cons (ps_if (pt_cmpR op_eq (pv 3) pe_str (nomark _))
      (pss_one (ps_ret (pe_cmpR op_eq (pe_call G_worth_of hr_worth_of rfl T.m_worth_of T.k_worth_of T.b_worth_of .nil pass0 (pa_cons (pe_ix (ix_tupK K) (pv 1) pe_int (fun _ _ => rfl)) (pa_cons (pv 2) pa_nil))) (pe_call G_worth_of hr_worth_of rfl T.m_worth_of T.k_worth_of T.b_worth_of .nil pass0 (pa_cons (pe_ix (ix_tupK K) (pv 1) pe_int (fun _ _ => rfl)) (pa_cons (pv 2) pa_nil))) (nomark _))))
      pss_nil)
    (pss_cons (ps_if (pt_cmpR op_eq (pv 3) pe_str (nomark _))
      (pss_one (ps_ret (pe_cmpR op_lt (pe_call G_worth_of hr_worth_of rfl T.m_worth_of T.k_worth_of T.b_worth_of .nil pass0 (pa_cons (pe_ix (ix_tupK K) (pv 1) pe_int (fun _ _ => rfl)) (pa_cons (pv 2) pa_nil))) (pe_call G_worth_of hr_worth_of rfl T.m_worth_of T.k_worth_of T.b_worth_of .nil pass0 (pa_cons (pe_ix (ix_tupK K) (pv 1) pe_int (fun _ _ => rfl)) (pa_cons (pv 2) pa_nil))) (nomark _))))
      pss_nil)
    (pss_cons (ps_if (pt_cmpR op_eq (pv 3) pe_str (nomark _))
      (pss_one (ps_ret (pe_cmpR op_eq (pe_call G_sign_at hr_sign_at rfl T.m_sign_at T.k_sign_at T.b_sign_at .nil pass0 (pa_cons (pv 0) (pa_cons (pe_ix (ix_tupK K) (pv 1) pe_int (fun _ _ => rfl)) (pa_cons (pe_call G_worth_of hr_worth_of rfl T.m_worth_of T.k_worth_of T.b_worth_of .nil pass0 (pa_cons (pe_ix (ix_tupK K) (pv 1) pe_int (fun _ _ => rfl)) (pa_cons (pv 2) pa_nil))) pa_nil)))) (pe_ix (ix_tupK K) (pv 1) pe_int (fun _ _ => rfl)) (nomark _))))
      pss_nil)
    (pss_cons (ps_set (i := 4) sc_atom_holds.nd rfl (Or.inl rfl) (pe_call G_sign_at hr_sign_at rfl T.m_sign_at T.k_sign_at T.b_sign_at .nil pass0 (pa_cons (pv 0) (pa_cons (pe_ix (ix_tupK K) (pv 1) pe_int (fun _ _ => rfl)) (pa_cons (pe_call G_worth_of hr_worth_of rfl T.m_worth_of T.k_worth_of T.b_worth_of .nil pass0 (pa_cons (pe_ix (ix_tupK K) (pv 1) pe_int (fun _ _ => rfl)) (pa_cons (pv 2) pa_nil))) pa_nil)))))
    (pss_one (ps_ret (pe_cmpR op_eq (pv 4) (pe_call G_sign_at hr_sign_at rfl T.m_sign_at T.k_sign_at T.b_sign_at .nil pass0 (pa_cons (pv 0) (pa_cons (pe_ix (ix_tupK K) (pv 1) pe_int (fun _ _ => rfl)) (pa_cons (pe_call G_worth_of hr_worth_of rfl T.m_worth_of T.k_worth_of T.b_worth_of .nil pass0 (pa_cons (pe_ix (ix_tupK K) (pv 1) pe_int (fun _ _ => rfl)) (pa_cons (pv 2) pa_nil))) pa_nil)))) (nomark _))))))))), ?_⟩
    cases f with
    | same t u =>
      obtain ⟨sa, y0, y1, y2, rfl, hq, h0, h1, h2⟩ := tup3_inv (show DatAt K H x (.tup [.str "same", t.dt, u.dt]) from hx)
      have e0 := isStr h0
      subst e0
      refine ⟨_, rfl, sa, _, _, _, rfl, rfl, hq, atI_nat (j := 0) (v := .str "same") rfl, _, rfl, rfl, _, rfl, ifW rfl ?_⟩
      refine ⟨_, rfl, sa, _, _, _, rfl, rfl, hq, atI_nat (j := 1) (v := y1) rfl, _, rfl, y1, t, d, kvs, rfl, h1, hd, (hok.1.w he).1, (hok.1.w he).2, fun H1 s1 => ?_⟩
      refine ⟨_, rfl, sa, _, _, _, rfl, rfl, s1.seqT hq, atI_nat (j := 2) (v := y2) rfl, _, rfl, y2, u, d, kvs, rfl, dat_stay s1.kts _ _ u.noL h2, same_rd s1 hd, (hok.2.w he).1, (hok.2.w he).2, fun H2 s2 => ⟨rfl, ?_⟩⟩
      rw [dII]
      exact k H2 (s1.trans s2)
    | less t u =>
      obtain ⟨sa, y0, y1, y2, rfl, hq, h0, h1, h2⟩ := tup3_inv (show DatAt K H x (.tup [.str "less", t.dt, u.dt]) from hx)
      have e0 := isStr h0
      subst e0
      refine ⟨_, rfl, sa, _, _, _, rfl, rfl, hq, atI_nat (j := 0) (v := .str "less") rfl, _, rfl, rfl, _, rfl, ifWn (by decide +kernel) ?_⟩
      refine ⟨_, rfl, rfl, _, rfl, ifW rfl ?_⟩
      refine ⟨_, rfl, sa, _, _, _, rfl, rfl, hq, atI_nat (j := 1) (v := y1) rfl, _, rfl, y1, t, d, kvs, rfl, h1, hd, (hok.1.w he).1, (hok.1.w he).2, fun H1 s1 => ?_⟩
      exact ⟨_, rfl, sa, _, _, _, rfl, rfl, s1.seqT hq, atI_nat (j := 2) (v := y2) rfl, _, rfl, y2, u, d, kvs, rfl, dat_stay s1.kts _ _ u.noL h2, same_rd s1 hd, (hok.2.w he).1, (hok.2.w he).2, fun H2 s2 => ⟨_, _, rfl, rfl, k H2 (s1.trans s2)⟩⟩
    | sign r t z =>
      obtain ⟨sa, y0, y1, y2, y3, rfl, hq, h0, h1, h2, h3⟩ := tup4_inv (show DatAt K H x (.tup [.str "sign", .str r, t.dt, .int z]) from hx)
      have e0 := isStr h0
      have e1 := isStr h1
      have e3 := isInt h3
      subst e0 e1 e3
      obtain ⟨b, D, wvs, w1, w2, b2, b4, wr⟩ := id hw
      obtain ⟨ra, gs, mv, v1, v2, v3, v4, v5⟩ := wr r hok.1
      obtain ⟨n, en, hn⟩ := worth_lt he hok.2
      refine ⟨_, rfl, sa, _, _, _, rfl, rfl, hq, atI_nat (j := 0) (v := .str "sign") rfl, _, rfl, rfl, _, rfl, ifWn (by decide +kernel) ?_⟩
      refine ⟨_, rfl, rfl, _, rfl, ifWn (by decide +kernel) ?_⟩
      refine ⟨_, rfl, rfl, _, rfl, ifW rfl ?_⟩
      refine ⟨_, rfl, _, rfl, sa, _, _, _, rfl, rfl, hq, atI_nat (j := 1) (v := .str r) rfl, _, rfl, sa, _, _, _, rfl, rfl, hq, atI_nat (j := 2) (v := y2) rfl, _, rfl, y2, t, d, kvs, rfl, h2, hd, (hok.2.w he).1, (hok.2.w he).2, fun H1 s1 => ?_⟩
      refine ⟨b, n, wa, D, ra, r, wvs, gs, mv, by rw [← en]; rfl, s1 _ _ w1, same_rd s1 w2, v1, v2.keep s1.kt, v3, v4, hn, fun H2 s2 => ?_⟩
      refine ⟨_, rfl, sa, _, _, _, rfl, rfl, (s1.trans s2).seqT hq, atI_nat (j := 3) (v := .int z) rfl, rfl, ?_⟩
      rw [dII]
      have := k H2 (s1.trans s2)
      rw [atomV, en, Int.toNat_natCast, v5 n] at this
      exact this
    | alike r t q u =>
      obtain ⟨sa, y0, y1, y2, y3, y4, rfl, hq, h0, h1, h2, h3, h4⟩ := tup5_inv (show DatAt K H x (.tup [.str "alike", .str r, t.dt, .str q, u.dt]) from hx)
      have e0 := isStr h0
      have e1 := isStr h1
      have e3 := isStr h3
      subst e0 e1 e3
      obtain ⟨b, D, wvs, w1, w2, b2, b4, wr⟩ := id hw
      obtain ⟨ra, gs, mv, v1, v2, v3, v4, v5⟩ := wr r hok.1
      obtain ⟨qa, gs', mv', u1, u2, u3, u4, u5⟩ := wr q hok.2.2.1
      obtain ⟨n, en, hn⟩ := worth_lt he hok.2.1
      obtain ⟨m, em, hm⟩ := worth_lt he hok.2.2.2
      refine ⟨_, rfl, sa, _, _, _, rfl, rfl, hq, atI_nat (j := 0) (v := .str "alike") rfl, _, rfl, rfl, _, rfl, ifWn (by decide +kernel) ?_⟩
      refine ⟨_, rfl, rfl, _, rfl, ifWn (by decide +kernel) ?_⟩
      refine ⟨_, rfl, rfl, _, rfl, ifWn (by decide +kernel) ?_⟩
      refine ⟨_, rfl, _, rfl, sa, _, _, _, rfl, rfl, hq, atI_nat (j := 1) (v := .str r) rfl, _, rfl, sa, _, _, _, rfl, rfl, hq, atI_nat (j := 2) (v := y2) rfl, _, rfl, y2, t, d, kvs, rfl, h2, hd, (hok.2.1.w he).1, (hok.2.1.w he).2, fun H1 s1 => ?_⟩
      refine ⟨b, n, wa, D, ra, r, wvs, gs, mv, by rw [← en]; rfl, s1 _ _ w1, same_rd s1 w2, v1, v2.keep s1.kt, v3, v4, hn, fun H2 s2 => ?_⟩
      have s12 := s1.trans s2
      refine ⟨_, rfl, _, rfl, _, rfl, sa, _, _, _, rfl, rfl, s12.seqT hq, atI_nat (j := 3) (v := .str q) rfl, _, rfl, sa, _, _, _, rfl, rfl, s12.seqT hq, atI_nat (j := 4) (v := y4) rfl, _, rfl, y4, u, d, kvs, rfl, dat_stay s12.kts _ _ u.noL h4, same_rd s12 hd, (hok.2.2.2.w he).1, (hok.2.2.2.w he).2, fun H3 s3 => ?_⟩
      have s13 := s12.trans s3
      refine ⟨b, m, wa, D, qa, q, wvs, gs', mv', by rw [← em]; rfl, s13 _ _ w1, same_rd s13 w2, u1, u2.keep s13.kt, u3, u4, hm, fun H4 s4 => ⟨rfl, ?_⟩⟩
      rw [dII]
      have := k H4 (s13.trans s4)
      rw [atomV, en, em, Int.toNat_natCast, Int.toNat_natCast, v5 n, u5 m] at this
      exact this
    | _ => simp [Say.atom] at hat
theorem sc_turns_of : FnScope ["saying", "most"] ["saying", "most"] (defScope s_turns_of) := ⟨rfl, rfl, rfl, by decide +kernel, rfl, by decide +kernel, by decide +kernel⟩
theorem ok_turns_of {a : Adr} {b : PAdr} (T : Txt K mg a) (U : TopsP K w.params mg b) : FnOk P w K mg base CX0 2 a.f_turns_of a.fd_turns_of ["saying", "most"] (spTurns K) := by
  have G_inner_parts : FnOk P w K mg base CX0 1 a.f_inner_parts a.fd_inner_parts ["saying"] (spInner K) := ok_inner_parts T U
  refine T.F_turns_of.ok sc_turns_of (fun vs H Q E h => ?_) (fun cdv A outer s H vs Q E hr h => ?_)
  · obtain ⟨x, f, most, rfl, _⟩ := h
    rfl
  · obtain ⟨x, f, most, rfl, hx, k⟩ := h
    have hr_inner_parts : Room 1 _ := hr
    obtain ⟨sa, xs, rfl, hq, h0, hsp⟩ := say_at f hx
    refine ⟨_, (pss_cons (ps_if (pt_cmpR (op_inK K) (pe_ix (ix_tupK K) (pv 0) pe_int (fun _ _ => rfl)) (pe_tup (pa_cons pe_str (pa_cons pe_str pa_nil))) (by with_unfolding_all rfl))
      (pss_one (ps_ret (pv 1)))
      pss_nil)
    (pss_one (ps_ret (pe_callB (call_lenK K) (by rfl) T.z_len bt_len (pa_cons (pe_call G_inner_parts hr_inner_parts rfl T.m_inner_parts T.k_inner_parts T.b_inner_parts .nil pass0 (pa_cons (pv 0) pa_nil)) pa_nil))))), ?_⟩
    refine ⟨_, rfl, sa, xs, 0, .str f.word, rfl, rfl, hq, atI_nat (j := 0) h0, by show 2 ≤ sizeLine; decide, fun p hp => ⟨p, _, rfl, .inr (.of upd_same), rfl, rfl, _, rfl, ?_⟩⟩
    have s1 := Same.new (o := .tup [.str "some", .str "each"]) hp
    refine ite2 (fun hin => ?_) (fun hin => ?_)
    · obtain ⟨n, g, e | e⟩ := (quant_in f).mp hin <;> (subst e; exact ⟨_, rfl, k _ s1⟩)
    · have hn := fun z => hin ((quant_in f).mpr z)
      refine ⟨_, rfl, _, f, rfl, dat_stay s1.kts _ _ f.noL hx, fun D ys H2 hD s2 eD dts => ?_⟩
      have ly : ys.length = f.inner.length := by rw [dts.length, List.length_map]
      refine ⟨_, ys.length, rfl, .inl ⟨_, .of eD, rfl⟩, ?_⟩
      rw [ly, ← many_inner (most := most) hn]
      exact k _ (s1.trans s2)
theorem sc_turn_at : FnScope ["saying", "values", "turn", "inside"] ["saying", "values", "turn"] (defScope s_turn_at) := ⟨rfl, rfl, rfl, by decide +kernel, rfl, by decide +kernel, by decide +kernel⟩
theorem ok_turn_at {a : Adr} {b : PAdr} (T : Txt K mg a) (U : TopsP K w.params mg b) : FnOk P w K mg base CX0 2 a.f_turn_at a.fd_turn_at ["saying", "values", "turn"] (spTurnAt K) := by
  have G_inner_parts : FnOk P w K mg base CX0 1 a.f_inner_parts a.fd_inner_parts ["saying"] (spInner K) := ok_inner_parts T U
  refine T.F_turn_at.ok sc_turn_at (fun vs H Q E h => ?_) (fun cdv A outer s H vs Q E hr h => ?_)
  · obtain ⟨x, f, g, d, kvs, kvs', n, most, rfl, _⟩ := h
    rfl
  · obtain ⟨x, f, g, d, kvs, kvs', n, most, rfl, hx, hd, hi, hl, k⟩ := h
    have hr_inner_parts : Room 1 _ := hr
    refine ⟨_, (pss_cons (ps_if (pt_cmpR (op_inK K) (pe_ix (ix_tupK K) (pv 0) pe_int (fun _ _ => rfl)) (pe_tup (pa_cons pe_str (pa_cons pe_str pa_nil))) (by with_unfolding_all rfl))
      (pss_cons (ps_set (i := 3) sc_turn_at.nd rfl (Or.inl rfl) (pe_callTy call_dictK (by rfl) T.z_dict bt_dict (pa_cons (pv 1) pa_nil)))
      (pss_cons (ps_dput (hu_of hr) (pv 3) (pe_ix (ix_tupK K) (pv 0) pe_int (fun _ _ => rfl)) (pv 2) rfl)
      (pss_one (ps_ret (pe_tup (pa_cons (pe_ix (ix_tupK K) (pv 0) pe_int (fun _ _ => rfl)) (pa_cons (pv 3) pa_nil)))))))
      pss_nil)
    (pss_one (ps_ret (pe_tup (pa_cons (pe_ix (ix_listK K) (pe_call G_inner_parts hr_inner_parts rfl T.m_inner_parts T.k_inner_parts T.b_inner_parts .nil pass0 (pa_cons (pv 0) pa_nil)) (pv 2) (fun _ _ => rfl)) (pa_cons (pv 1) pa_nil)))))), ?_⟩
    by_cases hqn : ∃ nm g', f = .some nm g' ∨ f = .each nm g'
    · have rng : ∀ (nm : Str) (g' : Say), ((List.range most).map fun i => (g', putK kvs (Sum.inr nm) (.int ((i : Nat) : Int))))[n]? = some (g, kvs') → g = g' ∧ kvs' = putK kvs (Sum.inr nm) (.int (n : Int)) := fun nm g' hi' => by
        rw [List.getElem?_map] at hi'
        cases er : (List.range most)[n]? with
        | none => rw [er] at hi'; cases hi'
        | some i =>
          rw [er] at hi'
          have ei : i = n := by
            rw [List.getElem?_range (by
              by_cases z : n < most
              · exact z
              · rw [List.getElem?_eq_none (by simpa using Nat.le_of_not_lt z)] at er; cases er)] at er
            exact (Option.some.inj er).symm
          subst ei
          cases Option.some.inj hi'
          exact ⟨rfl, rfl⟩
      obtain ⟨sa, nm, y2, ex, hq, hy, ekv⟩ : ∃ (sa : Addr) (nm : Str) (y2 : V), x = .ref sa ∧ SqT K H sa [.str f.word, .str nm, y2] ∧ DatAt K H y2 g.dt ∧ kvs' = putK kvs (Sum.inr nm) (.int (n : Int)) := by
        obtain ⟨nm, g', e | e⟩ := hqn
        · subst e
          obtain ⟨sa, y0, y1, y2, e1, hq', h0', h1', h2'⟩ := tup3_inv (show DatAt K H x (.tup [.str "some", .str nm, g'.dt]) from hx)
          obtain ⟨eg, ek⟩ := rng nm g' hi
          rw [isStr h0', isStr h1'] at hq'
          exact ⟨sa, nm, y2, e1, hq', by rw [eg]; exact h2', ek⟩
        · subst e
          obtain ⟨sa, y0, y1, y2, e1, hq', h0', h1', h2'⟩ := tup3_inv (show DatAt K H x (.tup [.str "each", .str nm, g'.dt]) from hx)
          obtain ⟨eg, ek⟩ := rng nm g' hi
          rw [isStr h0', isStr h1'] at hq'
          exact ⟨sa, nm, y2, e1, hq', by rw [eg]; exact h2', ek⟩
      subst ex
      refine ⟨_, rfl, sa, _, 0, .str f.word, rfl, rfl, hq, atI_nat (j := 0) rfl, by show 2 ≤ sizeLine; decide, fun p hp => ⟨p, _, rfl, .inr (.of upd_same), rfl, rfl, _, rfl, ?_⟩⟩
      have s1 := Same.new (o := .tup [.str "some", .str "each"]) hp
      generalize upd H p (.tup [.str "some", .str "each"]) = H1 at s1 ⊢
      refine ite2 (fun _ => ?_) (fun z => absurd ((quant_in f).mpr hqn) z)
      refine ⟨_, rfl, d, kvs, rfl, same_rd s1 hd, fun B hB => ?_⟩
      have sB := Same.new (o := .dK kvs) hB
      refine ⟨_, rfl, _, rfl, _, rfl, sa, _, _, _, rfl, rfl, (s1.trans sB).seqT hq, atI_nat (j := 1) (v := .str nm) rfl, B, _, rfl, DPut.k (k := Sum.inr nm) upd_same (Nat.lt_of_le_of_lt hl (by decide)), ?_⟩
      have sC : Same H1 (upd (upd H1 B (.dK kvs)) B (.dK (putK kvs (Sum.inr nm) (.int (n : Int))))) := sB.kbn hB KB.write
      have eB : (upd (upd H1 B (.dK kvs)) B (.dK (putK kvs (Sum.inr nm) (.int (n : Int))))) B = some (.dK kvs') := by rw [upd_same, ekv]
      generalize upd (upd H1 B (.dK kvs)) B (.dK (putK kvs (Sum.inr nm) (.int (n : Int)))) = H2 at sC eB ⊢
      have s2 := s1.trans sC
      refine ⟨_, rfl, sa, _, _, _, rfl, rfl, s2.seqT hq, atI_nat (j := 2) (v := y2) rfl, _, rfl, by show 2 ≤ sizeLine; decide, fun q hq2 => ?_⟩
      have s3 := Same.new (o := .tup [y2, .ref B]) hq2
      exact k q B y2 _ (s2.trans s3) (.of upd_same) (dat_stay (s2.trans s3).kts _ _ g.noL hy) (.inl (s3 _ _ eB))
    · obtain ⟨sa, xs, rfl, hq, h0, hsp⟩ := say_at f hx
      refine ⟨_, rfl, sa, xs, 0, .str f.word, rfl, rfl, hq, atI_nat (j := 0) h0, by show 2 ≤ sizeLine; decide, fun p hp => ⟨p, _, rfl, .inr (.of upd_same), rfl, rfl, _, rfl, ?_⟩⟩
      have s1 := Same.new (o := .tup [.str "some", .str "each"]) hp
      generalize upd H p (.tup [.str "some", .str "each"]) = H1 at s1 ⊢
      refine ite2 (fun z => absurd ((quant_in f).mp z) hqn) (fun _ => ?_)
      rw [items_inner hqn, List.getElem?_map] at hi
      cases er : f.inner[n]? with
      | none => rw [er] at hi; cases hi
      | some g' =>
        rw [er] at hi
        have hgk := Option.some.inj hi
        obtain ⟨e1, e2⟩ := Prod.mk.inj hgk
        subst e1 e2
        refine ⟨_, rfl, _, f, rfl, dat_stay s1.kts _ _ f.noL hx, fun D ys H2 hD s2 eD dts => ?_⟩
        obtain ⟨y, hy⟩ : ∃ y, ys[n]? = some y := by
          have ly : ys.length = f.inner.length := by rw [dts.length, List.length_map]
          have := (List.getElem?_eq_some_iff.mp er).1
          exact ⟨_, List.getElem?_eq_getElem (by omega)⟩
        obtain ⟨dd, ed, hdd⟩ := dts.get hy
        rw [List.getElem?_map, er] at ed
        have ed' : g'.dt = dd := Option.some.inj ed
        subst ed'
        refine ⟨_, rfl, D, ys, _, y, rfl, rfl, .of eD, atI_nat hy, _, rfl, by show 2 ≤ sizeLine; decide, fun q hq2 => ?_⟩
        have s3 := Same.new (o := .tup [y, .ref d]) hq2
        have s12 := s1.trans s2
        exact k q d y _ (s12.trans s3) (.of upd_same) (dat_stay s3.kts _ _ g'.noL hdd) (same_rd (s12.trans s3) hd)
end
end My
set_option Elab.async false
set_option linter.all false
set_option maxRecDepth 100000
set_option maxHeartbeats 4000000
namespace My
open PySem L2
structure LAdr where
  d : Addr
  no : Addr
  an : Addr
  or : Addr
  so : Addr
  ea : Addr
def lookTab (b : LAdr) : List (Str × Option V) :=
  [("not", some (.ref b.no)), ("and", some (.ref b.an)), ("or", some (.ref b.or)), ("some", some (.ref b.so)), ("each", some (.ref b.ea)), ("same", none), ("less", none), ("sign", none), ("alike", none)]
structure TopsL (K : PySem.W.Frag) (pr : Params) (mg : Str → Option Value) (b : LAdr) : Prop where
  m_LOOK : mg "LOOKED_FOR" = some (.ref b.d)
  D_LOOK : TopDict K pr b.d (lookTab b)
  no : ∀ H, SqT K H b.no [.bl true, .bl false]
  an : ∀ H, SqT K H b.an [.bl false, .bl false]
  or : ∀ H, SqT K H b.or [.bl true, .bl true]
  so : ∀ H, SqT K H b.so [.bl true, .bl true]
  ea : ∀ H, SqT K H b.ea [.bl false, .bl false]
theorem TopsL.at {K : PySem.W.Frag} {pr : Params} {mg : Str → Option Value} {b : LAdr} (U : TopsL K pr mg b) (f : Say) (h : f.atom = false) :
    ∃ p, (f.word, some (.ref p)) ∈ lookTab b ∧ ∀ H, SqT K H p [.bl f.look, .bl f.said] := by
  cases f with
  | no f => exact ⟨b.no, by simp [lookTab, Say.word], U.no⟩
  | and f g => exact ⟨b.an, by simp [lookTab, Say.word], U.an⟩
  | or f g => exact ⟨b.or, by simp [lookTab, Say.word], U.or⟩
  | some n f => exact ⟨b.so, by simp [lookTab, Say.word], U.so⟩
  | each n f => exact ⟨b.ea, by simp [lookTab, Say.word], U.ea⟩
  | _ => simp [Say.atom] at h
theorem look_not {b : LAdr} (f : Say) (h : f.atom = true) : (f.word, none) ∈ lookTab b := by
  cases f <;> first | (simp [Say.atom] at h; done) | simp [lookTab, Say.word]
def EntAt (K : PySem.W.Frag) (H : Hp) (v : V) (e : Ent) : Prop := ∃ (p d : Addr) (x : V), v = .ref p ∧ SqT K H p [x, .ref d, .int (e.turn : Nat)] ∧ DatAt K H x e.f.dt ∧ Rd H d (.dK e.kvs)
theorem EntAt.keep {K : PySem.W.Frag} {H H' : Hp} {v : V} {e : Ent} (h : EntAt K H v e) (k : Kp K H H') : EntAt K H' v e := by
  obtain ⟨p, d, x, h1, h2, h3, h4⟩ := h
  exact ⟨p, d, x, h1, k.kts _ _ h2, dat_stay k.kts _ _ e.f.noL h3, k.kd _ _ h4⟩
abbrev EntsAt (K : PySem.W.Frag) (H : Hp) : List V → List Ent → Prop := Paired (EntAt K H)
theorem ents_keep {K : PySem.W.Frag} {H H' : Hp} {ys : List V} {es : List Ent} (h : EntsAt K H ys es) (k : Kp K H H') : EntsAt K H' ys es := Paired.mapP h fun _ _ z => z.keep k
theorem ents_snoc {K : PySem.W.Frag} {H : Hp} : ∀ {ys : List V} {es : List Ent}, EntsAt K H ys es → ys ≠ [] → ∃ ys' v es' e, ys = ys' ++ [v] ∧ es = es' ++ [e] ∧ EntsAt K H ys' es' ∧ EntAt K H v e := by
  intro ys es h
  induction h with
  | nil => intro n; exact absurd rfl n
  | @cons v e ys es hv ht ih =>
    intro _
    by_cases z : ys = []
    · subst z
      cases ht
      exact ⟨[], v, [], e, rfl, rfl, .nil, hv⟩
    · obtain ⟨ys', v', es', e', e1, e2, h1, h2⟩ := ih z
      exact ⟨v :: ys', v', e :: es', e', by rw [e1]; rfl, by rw [e2]; rfl, .cons hv h1, h2⟩
def EntOk (ss rs : List Str) (dp : Nat) (i : Nat) (e : Ent) : Prop := e.f.Ok ss rs ∧ EnvOk ss e.kvs ∧ e.f.deep + i ≤ dp ∧ e.kvs.length + e.f.deep ≤ 200
def EntsOk (ss rs : List Str) (dp : Nat) (es : List Ent) : Prop := ∀ i e, es[i]? = some e → EntOk ss rs dp i e
theorem EntsOk.front {ss rs : List Str} {dp : Nat} {es : List Ent} {e : Ent} (h : EntsOk ss rs dp (es ++ [e])) : EntsOk ss rs dp es ∧ EntOk ss rs dp es.length e := by
  refine ⟨fun i a ha => h i a ?_, h es.length e (by simp)⟩
  rw [List.getElem?_append_left (List.getElem?_eq_some_iff.mp ha).1]
  exact ha
theorem EntsOk.snoc {ss rs : List Str} {dp : Nat} {es : List Ent} {e : Ent} (h : EntsOk ss rs dp es) (he : EntOk ss rs dp es.length e) : EntsOk ss rs dp (es ++ [e]) := fun i a ha => by
  by_cases z : i < es.length
  · rw [List.getElem?_append_left z] at ha; exact h i a ha
  · rw [List.getElem?_append_right (by omega)] at ha
    have e0 : i - es.length = 0 := by
      by_cases y : i - es.length = 0
      · exact y
      · rw [List.getElem?_eq_none (by simp; omega)] at ha; cases ha
    rw [e0] at ha
    have : e = a := Option.some.inj ha
    subst this
    have : i = es.length := by omega
    subst this
    exact he
theorem ents_len {ss rs : List Str} {dp : Nat} {es : List Ent} (h : EntsOk ss rs dp es) : es.length ≤ dp + 1 := by
  by_cases z : es = []
  · subst z; simp
  · have hp : 0 < es.length := List.length_pos_iff.mpr z
    obtain ⟨_, _, hd, _⟩ := h (es.length - 1) es[es.length - 1] (List.getElem?_eq_getElem (by omega))
    omega
theorem item_deep {most : Nat} {f g : Say} {kvs kvs' : Kvs} (h : (g, kvs') ∈ f.items most kvs) : g.deep + 1 ≤ f.deep ∧ kvs'.length ≤ kvs.length + 1 := by
  cases f with
  | no f => cases List.mem_singleton.mp (show (g, kvs') ∈ [(f, kvs)] from h); exact ⟨by simp [Say.deep], by omega⟩
  | and f1 f2 =>
    rcases List.mem_cons.mp (show (g, kvs') ∈ [(f1, kvs), (f2, kvs)] from h) with e | e
    · cases e; exact ⟨by simp only [Say.deep]; omega, by omega⟩
    · cases List.mem_singleton.mp e; exact ⟨by simp only [Say.deep]; omega, by omega⟩
  | or f1 f2 =>
    rcases List.mem_cons.mp (show (g, kvs') ∈ [(f1, kvs), (f2, kvs)] from h) with e | e
    · cases e; exact ⟨by simp only [Say.deep]; omega, by omega⟩
    · cases List.mem_singleton.mp e; exact ⟨by simp only [Say.deep]; omega, by omega⟩
  | some n f =>
    obtain ⟨i, _, e⟩ := List.mem_map.mp h
    cases e; exact ⟨by simp [Say.deep], length_putK _ _ _⟩
  | each n f =>
    obtain ⟨i, _, e⟩ := List.mem_map.mp h
    cases e; exact ⟨by simp [Say.deep], length_putK _ _ _⟩
  | _ => cases h
theorem while_m {c : TT} {tb : TS} {D : Ends} {σ : St} {H : Hp} (W : Nat → St → Hp → Prop) (h0 : ∃ m, W m σ H)
    (hs : ∀ m σ H, W m σ H → c σ H fun b H1 => if b = true then tb { D with nx := fun σ' H' => ∃ m', m' < m ∧ W m' σ' H', ct := fun σ' H' => ∃ m', m' < m ∧ W m' σ' H', bk := D.nx } σ H1 else D.nx σ H1)
    (mono : ∀ σ H Q Q', (∀ b H1, Q b H1 → Q' b H1) → c σ H Q → c σ H Q') : tWhile c tb D σ H := by
  refine ⟨W, h0, fun m σ H w => mono σ H _ _ (fun b H1 q => ?_) (hs m σ H w)⟩
  cases b with
  | true => exact ⟨_, fun σ' H' p => p, q⟩
  | false => exact q
theorem and_abs {T : (Bool → Hp → Prop) → Prop} {Qf : Bool → Hp → Prop} {c : Bool} {H : Hp} (h : ∀ Qc : Bool → Hp → Prop, Qc c H → T Qc) (x : Qf c H) : T Qf := h Qf x
def spHolds (K : PySem.W.Frag) : Sp := fun vs H Q _ => ∃ (wa d : Addr) (x : V) (f : Say) (kvs : Kvs) (sg : Str → Nat → Nat) (ss rs : List Str) (most : Nat), vs = [.ref wa, x, .ref d, .int most] ∧ WAt H wa sg rs ∧ DatAt K H x f.dt ∧ Rd H d (.dK kvs) ∧ f.Ok ss rs ∧ EnvOk ss kvs ∧ most ≤ 1000 ∧ f.deep ≤ 50 ∧ kvs.length ≤ 100 ∧
  ∀ H', Same H H' → Q (.bl (hp sg most f kvs)) H'
section
variable {P : Program} {w : World} {K : PySem.W.Frag} {mg : Str → Option Value} {base : Heap}
theorem sc_holds_plainly : FnScope ["world", "saying", "values", "most", "waiting", "told", "asked", "word", "turn", "inside"] ["world", "saying", "values", "most"] (defScope s_holds_plainly) := ⟨rfl, rfl, rfl, by decide +kernel, rfl, by decide +kernel, by decide +kernel⟩
theorem ok_holds_plainly {a : Adr} {b : PAdr} {c : LAdr} (T : Txt K mg a) (U : TopsP K w.params mg b) (Y : TopsL K w.params mg c) : FnOk P w K mg base CX0 4 a.f_holds_plainly a.fd_holds_plainly ["world", "saying", "values", "most"] (spHolds K) := by
  have G_atom_holds : FnOk P w K mg base CX0 3 a.f_atom_holds a.fd_atom_holds ["world", "saying", "values"] (spAtom K) := ok_atom_holds T
  have G_turns_of : FnOk P w K mg base CX0 2 a.f_turns_of a.fd_turns_of ["saying", "most"] (spTurns K) := ok_turns_of T U
  have G_turn_at : FnOk P w K mg base CX0 2 a.f_turn_at a.fd_turn_at ["saying", "values", "turn"] (spTurnAt K) := ok_turn_at T U
  refine T.F_holds_plainly.ok sc_holds_plainly (fun vs H Q E h => ?_) (fun cdv A outer s H vs Q E hr h => ?_)
  · obtain ⟨wa, d, x, f, kvs, sg, ss, rs, most, rfl, _⟩ := h
    rfl
  · obtain ⟨wa, d, x, f, kvs, sg, ss, rs, most, rfl, hw, hx, hd, hok, he, hm, hdp, hlk, k⟩ := h
    have hr_atom_holds : Room 3 _ := hr
    have hr_turns_of : Room 2 _ := hr.mono (by decide)
    have hr_turn_at : Room 2 _ := hr.mono (by decide)
    refine ⟨_, (pss_cons (ps_set (i := 4) sc_holds_plainly.nd rfl (Or.inl rfl) (pe_lst (pa_cons (pe_tup (pa_cons (pv 1) (pa_cons (pv 2) (pa_cons pe_int pa_nil)))) pa_nil)))
    (pss_cons (ps_set (i := 5) sc_holds_plainly.nd rfl (Or.inl rfl) pe_bl)
    (pss_cons (ps_while PassesOwn.never (pt_truth (pv 4) (fun _ => rfl))
      (pss_cons (ps_set (i := 6) sc_holds_plainly.nd rfl (Or.inl rfl) (pe_bm0 PySem.F.plainAttrs_list PySem.F.slot_list_pop PySem.F.type_list_pop mt_pop (pv 4)))
      (pss_cons (ps_set (i := 7) sc_holds_plainly.nd rfl (Or.inl rfl) (pe_ix (ix_tupK K) (pe_ix (ix_tupK K) (pv 6) pe_int (fun _ _ => rfl)) pe_int (fun _ _ => rfl)))
      (pss_cons (ps_set (i := 8) sc_holds_plainly.nd rfl (Or.inl rfl) (pe_ix (ix_tupK K) (pv 6) pe_int (fun _ _ => rfl)))
      (pss_one (ps_if (pt_cmp (pc_topnotin Y.D_LOOK rfl Y.m_LOOK (pv 7)))
        (pss_one (ps_set (i := 5) sc_holds_plainly.nd rfl (Or.inl rfl) (pe_call G_atom_holds hr_atom_holds rfl T.m_atom_holds T.k_atom_holds T.b_atom_holds .nil pass0 (pa_cons (pv 0) (pa_cons (pe_ix (ix_tupK K) (pv 6) pe_int (fun _ _ => rfl)) (pa_cons (pe_ix (ix_tupK K) (pv 6) pe_int (fun _ _ => rfl)) pa_nil))))))
        (pss_one (ps_if (PW.pt (pw_and (pt_cmpR op_gt (pv 8) pe_int (nomark _)) (pw_and1 (pt_cmpR op_eq (pv 5) (pe_ix (ix_tupK K) (pe_topix Y.D_LOOK rfl Y.m_LOOK (pv 7) (fun _ _ => rfl)) pe_int (fun _ _ => rfl)) (nomark _)))))
          (pss_one (ps_set (i := 5) sc_holds_plainly.nd rfl (Or.inl rfl) (pe_ix (ix_tupK K) (pe_topix Y.D_LOOK rfl Y.m_LOOK (pv 7) (fun _ _ => rfl)) pe_int (fun _ _ => rfl))))
          (pss_one (ps_if (pt_cmpR op_ge (pv 8) (pe_call G_turns_of hr_turns_of rfl T.m_turns_of T.k_turns_of T.b_turns_of .nil pass0 (pa_cons (pe_ix (ix_tupK K) (pv 6) pe_int (fun _ _ => rfl)) (pa_cons (pv 3) pa_nil))) (nomark _))
            (pss_one (ps_set (i := 5) sc_holds_plainly.nd rfl (Or.inl rfl) (pe_not (pe_ix (ix_tupK K) (pe_topix Y.D_LOOK rfl Y.m_LOOK (pv 7) (fun _ _ => rfl)) pe_int (fun _ _ => rfl)))))
            (pss_cons (ps_set (i := 9) sc_holds_plainly.nd rfl (Or.inl rfl) (pe_call G_turn_at hr_turn_at rfl T.m_turn_at T.k_turn_at T.b_turn_at .nil pass0 (pa_cons (pe_ix (ix_tupK K) (pv 6) pe_int (fun _ _ => rfl)) (pa_cons (pe_ix (ix_tupK K) (pv 6) pe_int (fun _ _ => rfl)) (pa_cons (pv 8) pa_nil)))))
            (pss_cons (ps_expr (pe_bm PySem.F.plainAttrs_list PySem.F.slot_list_append PySem.F.type_list_append mt_append (pv 4) (pa_cons (pe_tup (pa_cons (pe_ix (ix_tupK K) (pv 6) pe_int (fun _ _ => rfl)) (pa_cons (pe_ix (ix_tupK K) (pv 6) pe_int (fun _ _ => rfl)) (pa_cons (pe_op op_add (pv 8) pe_int) pa_nil)))) pa_nil)))
            (pss_one (ps_expr (pe_bm PySem.F.plainAttrs_list PySem.F.slot_list_append PySem.F.type_list_append mt_append (pv 4) (pa_cons (pe_tup (pa_cons (pe_ix (ix_tupK K) (pv 9) pe_int (fun _ _ => rfl)) (pa_cons (pe_ix (ix_tupK K) (pv 9) pe_int (fun _ _ => rfl)) (pa_cons pe_int pa_nil)))) pa_nil))))))))))))))))
    (pss_one (ps_ret (pv 5)))))), ?_⟩
    refine ⟨_, rfl, _, rfl, by show 3 ≤ sizeLine; decide, fun p0 hp0 => ⟨by show 1 ≤ sizeLine; decide, fun L hL => ?_⟩⟩
    have s0 := Same.new (o := .tup [x, .ref d, .int 0]) hp0
    have s1 := Same.new (o := .lst [.ref p0]) hL
    have s01 := s0.trans s1
    have hL0 : H L = none := s0.free hL
    have en : EntAt K (upd (upd H p0 (.tup [x, .ref d, .int 0])) L (.lst [.ref p0])) (.ref p0) ⟨f, kvs, 0⟩ :=
      ⟨p0, d, x, rfl, s1.seqT (.of upd_same), dat_stay s01.kts _ _ f.noL hx, same_rd s01 hd⟩
    have eL : (upd (upd H p0 (.tup [x, .ref d, .int 0])) L (.lst [.ref p0])) L = some (.lst [.ref p0]) := upd_same
    generalize upd (upd H p0 (.tup [x, .ref d, .int 0])) L (.lst [.ref p0]) = H1 at s01 en eL ⊢
    dsimp only [tSeq, tAsg, tC, gName]
    refine while_m (fun m σ H' => ∃ (ys : List V) (es : List Ent) (t : Bool) (v6 v7 v8 v9 : Option V), σ = [some (.ref wa), some x, some (.ref d), some (.int most), some (.ref L), some (.bl t), v6, v7, v8, v9] ∧ Same H H' ∧ H' L = some (.lst ys) ∧ EntsAt K H' ys es ∧ EntsOk ss rs f.deep es ∧ m = costs most es ∧ fin sg most es t = hp sg most f kvs)
      ⟨_, [.ref p0], [⟨f, kvs, 0⟩], false, none, none, none, none, rfl, s01, eL, .cons en .nil, ?_, rfl, ?_⟩ ?_ ?_
    · intro i e hi
      have : i = 0 := by
        by_cases z : i = 0
        · exact z
        · rw [List.getElem?_eq_none (by simp; omega)] at hi; cases hi
      subst this
      have : (⟨f, kvs, 0⟩ : Ent) = e := Option.some.inj hi
      subst this
      exact ⟨hok, he, Nat.le_refl _, by show kvs.length + f.deep ≤ 200; omega⟩
    · show Ent.val sg most ⟨f, kvs, 0⟩ false = _
      exact Ent.val_zero
    · rintro m σ H2 ⟨ys, es, t, v6, v7, v8, v9, rfl, s2, eL2, pe, eo, rfl, hf⟩
      refine ⟨_, rfl, !ys.isEmpty, .inl ⟨_, .of eL2, rfl⟩, ?_⟩
      refine ite2 (fun hne => ?_) (fun hem => ?_)
      · have yne : ys ≠ [] := fun z => by subst z; simp at hne
        obtain ⟨ys', v, es', e, rfl, rfl, pe', ev⟩ := ents_snoc pe yne
        obtain ⟨eo', eok⟩ := eo.front
        rw [fin_app] at hf
        have ly : ys'.length = es'.length := Paired.length pe'
        have lz := ents_len eo
        rw [List.length_append, List.length_singleton] at lz
        refine ⟨_, rfl, .inl ⟨rfl, _, .of eL2⟩, L, _, v, rfl, rfl, eL2, by simp, ?_⟩
        rw [show (ys' ++ [v]).dropLast = ys' by simp]
        have kL := KB.write (d := L) (H := H2) (o := .lst ys')
        have kp := kb_kp (K := K) eL2 kL
        have s3 := s2.kbn hL0 kL
        have eL3 : (upd H2 L (.lst ys')) L = some (.lst ys') := upd_same
        have pe3 := ents_keep pe' kp
        obtain ⟨pp, dd, y, rfl, hq, hy, hrd⟩ := ev.keep kp
        generalize upd H2 L (.lst ys') = H3 at s3 eL3 pe3 hq hy hrd ⊢
        obtain ⟨g, kg, n⟩ := e
        obtain ⟨ok1, ok2, ok3, ok4⟩ := eok
        dsimp only at hq hy hrd ok1 ok2 ok3 ok4
        obtain ⟨ya, yx, rfl, hyq, hy0, _⟩ := say_at g hy
        have W3 := hw.keep s3.kt (fun _ _ h => same_rd s3 h)
        have hcost := costs_app (most := most) (es := es') (e := ⟨g, kg, n⟩)
        have cpos' := Ent.cost_pos (most := most) (e := ⟨g, kg, n⟩)
        refine ⟨_, rfl, pp, _, _, _, rfl, rfl, hq, atI_nat (j := 0) (v := .ref ya) rfl, ya, yx, 0, .str g.word, rfl, rfl, hyq, atI_nat (j := 0) hy0, ?_⟩
        refine ⟨_, rfl, pp, _, _, _, rfl, rfl, hq, atI_nat (j := 2) (v := .int (n : Nat)) rfl, ?_⟩
        cases hat : g.atom with
        | true =>
          refine ⟨_, rfl, g.word, none, rfl, look_not g hat, _, rfl, iteT ?_⟩
          refine ⟨_, rfl, _, rfl, pp, _, _, _, rfl, rfl, hq, atI_nat (j := 0) (v := .ref ya) rfl, _, rfl, pp, _, _, _, rfl, rfl, hq, atI_nat (j := 1) (v := .ref dd) rfl, ?_⟩
          refine ⟨wa, dd, .ref ya, g, kg, sg, ss, rs, rfl, W3, hy, hrd, hat, ok1, ok2, fun H4 s4 => ?_⟩
          refine ⟨costs most es', by omega, ys', es', _, _, _, _, _, rfl, s3.trans s4, s4 _ _ eL3, ents_keep pe3 (same_kp s4), eo', rfl, ?_⟩
          rw [← hf]
          congr 1
          rw [Ent.val, if_pos (show (⟨g, kg, n⟩ : Ent).f.atom = true from hat)]
        | false =>
          obtain ⟨lp, lm, lq⟩ := Y.at g hat
          refine ⟨_, rfl, g.word, _, rfl, lm, _, rfl, iteF ?_⟩
          refine (and_abs (c := decide (0 < n ∧ t = g.look)) (H := H3) (fun Qc hc => ?_) ?_ : tAnd _ _ _ _ _)
          · refine ⟨_, rfl, _, _, rfl, rfl, _, rfl, ?_⟩
            refine ite2 (fun hn0 => ?_) (fun hn0 => ?_)
            · have hn0' : 0 < n := by have := of_decide_eq_true hn0; omega
              refine ⟨_, rfl, _, rfl, g.word, _, rfl, lm, lp, _, _, _, rfl, rfl, lq _, atI_nat (j := 0) (v := .bl g.look) rfl, rfl, _, rfl, ?_⟩
              have : decide (V.bl t = V.bl g.look) = decide (0 < n ∧ t = g.look) := by rw [dBB]; simp [hn0']
              rw [this]; exact hc
            · have : decide (0 < n ∧ t = g.look) = false := by
                refine decide_eq_false fun z => hn0 (decide_eq_true (show (0 : Int) < (n : Nat) by have := z.1; omega))
              rw [this] at hc; exact hc
          refine ite2 (fun hyes => ?_) (fun hno0 => ?_)
          · obtain ⟨hn0', htl'⟩ : 0 < n ∧ t = g.look := of_decide_eq_true hyes
            refine ⟨_, rfl, g.word, _, rfl, lm, lp, _, _, _, rfl, rfl, lq _, atI_nat (j := 1) (v := .bl g.said) rfl, ?_⟩
            refine ⟨costs most es', by omega, ys', es', _, _, _, _, _, rfl, s3, eL3, pe3, eo', rfl, ?_⟩
            rw [← hf, Ent.val_found hat ⟨hn0', htl'⟩]
          · have hno : ¬ (0 < n ∧ t = g.look) := fun z => hno0 (decide_eq_true z)
            refine ⟨_, rfl, _, rfl, pp, _, _, _, rfl, rfl, hq, atI_nat (j := 0) (v := .ref ya) rfl, _, rfl, .ref ya, g, most, rfl, hy, fun H4 s4 => ⟨_, _, rfl, rfl, _, rfl, ?_⟩⟩
            have hq4 := s4.seqT hq
            have hy4 := dat_stay s4.kts _ _ g.noL hy
            have hrd4 := same_rd s4 hrd
            have eL4 := s4 _ _ eL3
            have pe4 := ents_keep pe3 (same_kp s4)
            refine ite2 (fun hge => ?_) (fun hge => ?_)
            · have hge' : (g.items most kg).length ≤ n := by rw [items_len]; have := of_decide_eq_true hge; omega
              refine ⟨_, rfl, g.word, _, rfl, lm, lp, _, _, _, rfl, rfl, lq _, atI_nat (j := 1) (v := .bl g.said) rfl, _, rfl, ?_⟩
              refine ⟨costs most es', by omega, ys', es', _, _, _, _, _, rfl, s3.trans s4, eL4, pe4, eo', rfl, ?_⟩
              rw [← hf, Ent.val_end hat hno hge']
            · have hlt : n < (g.items most kg).length := by
                rw [items_len]
                by_cases z : n < g.many most
                · exact z
                · exact absurd (decide_eq_true (show ((g.many most : Nat) : Int) ≤ (n : Nat) by omega)) hge
              obtain ⟨q, hi⟩ : ∃ q, (g.items most kg)[n]? = some q := ⟨_, List.getElem?_eq_getElem hlt⟩
              obtain ⟨g', kg'⟩ := q
              have hmem := List.mem_of_getElem? hi
              obtain ⟨dp1, dp2⟩ := item_deep hmem
              obtain ⟨io1, io2⟩ := items_ok ok1 ok2 hm _ hmem
              refine ⟨_, rfl, pp, _, _, _, rfl, rfl, hq4, atI_nat (j := 0) (v := .ref ya) rfl, _, rfl, pp, _, _, _, rfl, rfl, hq4, atI_nat (j := 1) (v := .ref dd) rfl, _, rfl, .ref ya, g, g', dd, kg, kg', n, most, rfl, hy4, hrd4, hi, by omega, fun ip dd' y' H5 s5 hip hy' hrd' => ?_⟩
              have hq5 := s5.seqT hq4
              have eL5 := s5 _ _ eL4
              have s05 := (s3.trans s4).trans s5
              have pe5 := ents_keep pe4 (same_kp s5)
              have hy5 := dat_stay s5.kts _ _ g.noL hy4
              have hrd5 := same_rd s5 hrd4
              refine ⟨_, rfl, .inl ⟨rfl, _, .of eL5⟩, _, rfl, pp, _, _, _, rfl, rfl, hq5, atI_nat (j := 0) (v := .ref ya) rfl, _, rfl, pp, _, _, _, rfl, rfl, hq5, atI_nat (j := 1) (v := .ref dd) rfl, _, rfl, _, _, rfl, rfl, by show 3 ≤ sizeLine; decide, fun p6 hp6 => ?_⟩
              have s6 := Same.new (o := .tup [.ref ya, .ref dd, .int ((n : Nat) + 1)]) hp6
              have eL6 := s6 _ _ eL5
              refine ⟨L, _, _, rfl, rfl, eL6, Nat.lt_of_le_of_lt (show ys'.length ≤ 100 by omega) (by decide), ?_⟩
              have k7 := KB.write (d := L) (H := upd H5 p6 (.tup [.ref ya, .ref dd, .int ((n : Nat) + 1)])) (o := .lst (ys' ++ [.ref p6]))
              have kp7 := kb_kp (K := K) eL6 k7
              have kp57 : Kp K H5 _ := (same_kp s6).trans kp7
              have s07 := (s05.trans s6).kbn hL0 k7
              have eL7 : (upd (upd H5 p6 (.tup [.ref ya, .ref dd, .int ((n : Nat) + 1)])) L (.lst (ys' ++ [.ref p6]))) L = some (.lst (ys' ++ [.ref p6])) := upd_same
              have en7 : EntAt K (upd (upd H5 p6 (.tup [.ref ya, .ref dd, .int ((n : Nat) + 1)])) L (.lst (ys' ++ [.ref p6]))) (.ref p6) ⟨g, kg, n + 1⟩ :=
                ⟨p6, dd, .ref ya, rfl, kp7.kts _ _ (.of upd_same), dat_stay kp57.kts _ _ g.noL hy5, kp57.kd _ _ hrd5⟩
              have pe7 := ents_keep pe5 kp57
              have hip7 := kp57.kts _ _ hip
              have hy7 := dat_stay kp57.kts _ _ g'.noL hy'
              have hrd7 := kp57.kd _ _ hrd'
              generalize upd (upd H5 p6 (.tup [.ref ya, .ref dd, .int ((n : Nat) + 1)])) L (.lst (ys' ++ [.ref p6])) = H7 at s07 eL7 en7 pe7 hip7 hy7 hrd7 ⊢
              refine ⟨_, rfl, .inl ⟨rfl, _, .of eL7⟩, _, rfl, ip, _, _, _, rfl, rfl, hip7, atI_nat (j := 0) (v := y') rfl, _, rfl, ip, _, _, _, rfl, rfl, hip7, atI_nat (j := 1) (v := .ref dd') rfl, by show 3 ≤ sizeLine; decide, fun p8 hp8 => ?_⟩
              have s8 := Same.new (o := .tup [y', .ref dd', .int 0]) hp8
              have eL8 := s8 _ _ eL7
              refine ⟨L, _, _, rfl, rfl, eL8, Nat.lt_of_le_of_lt (show (ys' ++ [V.ref p6]).length ≤ 101 by rw [List.length_append, List.length_singleton]; omega) (by decide), ?_⟩
              have k9 := KB.write (d := L) (H := upd H7 p8 (.tup [y', .ref dd', .int 0])) (o := .lst ((ys' ++ [.ref p6]) ++ [.ref p8]))
              have kp9 := kb_kp (K := K) eL8 k9
              have kp79 : Kp K H7 _ := (same_kp s8).trans kp9
              have s09 := (s07.trans s8).kbn hL0 k9
              have eL9 : (upd (upd H7 p8 (.tup [y', .ref dd', .int 0])) L (.lst ((ys' ++ [.ref p6]) ++ [.ref p8]))) L = some (.lst ((ys' ++ [.ref p6]) ++ [.ref p8])) := upd_same
              have en9 : EntAt K (upd (upd H7 p8 (.tup [y', .ref dd', .int 0])) L (.lst ((ys' ++ [.ref p6]) ++ [.ref p8]))) (.ref p8) ⟨g', kg', 0⟩ :=
                ⟨p8, dd', y', rfl, kp9.kts _ _ (.of upd_same), dat_stay kp79.kts _ _ g'.noL hy7, kp79.kd _ _ hrd7⟩
              have pe9 := ents_keep pe7 kp79
              have en79 := en7.keep kp79
              have o1 : EntsOk ss rs f.deep (es' ++ [⟨g, kg, n + 1⟩]) := eo'.snoc ⟨ok1, ok2, ok3, ok4⟩
              have o2 : EntsOk ss rs f.deep ((es' ++ [⟨g, kg, n + 1⟩]) ++ [⟨g', kg', 0⟩]) := o1.snoc ⟨io1, io2, by rw [List.length_append, List.length_singleton]; show g'.deep + _ ≤ _; omega, by show kg'.length + g'.deep ≤ 200; omega⟩
              refine ⟨_, ?lt, (ys' ++ [.ref p6]) ++ [.ref p8], (es' ++ [⟨g, kg, n + 1⟩]) ++ [⟨g', kg', 0⟩], t, _, _, _, _, rfl, s09, eL9, paired_append (paired_append pe9 (.cons en79 .nil)) (.cons en9 .nil), o2, rfl, ?val⟩
              case lt =>
                rw [costs_app, costs_app, hcost, Ent.cost_zero]
                have := Ent.cost_next hi
                omega
              case val =>
                rw [fin_app, fin_app, Ent.val_zero, ← Ent.val_next hat hno hi]
                exact hf
      · have yem : ys = [] := by
          cases ys with
          | nil => rfl
          | cons z zs => exact absurd rfl hem
        subst yem
        cases pe
        refine ⟨_, rfl, ?_⟩
        have e : t = hp sg most f kvs := hf
        rw [e]
        exact k H2 s2
    · rintro σ H Q Q' hQ ⟨v, e1, b, e2, q⟩
      exact ⟨v, e1, b, e2, hQ _ _ q⟩
end
end My
set_option Elab.async false
set_option linter.all false
set_option maxRecDepth 100000
set_option maxHeartbeats 4000000
namespace My
open PySem L2
theorem catN_by {K : PySem.W.Frag} {H : Hp} {a b : Addr} {xs ys : List V} {Q : VK} (ea : H a = some (.tup xs)) (eb : H b = some (.tup ys)) (hy : ys ≠ []) (hl : xs.length + ys.length ≤ sizeLine) (h : ∀ u H', Same H H' → H' u = some (.tup (xs ++ ys)) → Q (.ref u) H') : rCatN K (.ref a) (.ref b) H Q := by
  refine ⟨a, b, xs, ys, rfl, rfl, .of ea, .of eb, hy, hl, fun z => h b H (Same.refl _) ?_, fun _ p hp => h p _ (Same.new hp) upd_same⟩
  rw [z]
  exact eb
def spRow2 : Sp := fun vs H Q _ => ∃ (d : Addr) (b : Nat), vs = [.ref d, .int b] ∧ Deck2 H d ∧ 2 ≤ b ∧ b ≤ 4 ∧ ∀ (r : Addr) (sg : List Nat) (mv : List (List Nat)) (H' : Hp), KB d H H' → Deck2 H' d → RowAt H' r sg mv → Right b sg mv → 0 < sg.length → sg.length ≤ 8 → Q (.ref r) H'
section
variable {P : Program} {w : World} {K : PySem.W.Frag} {mg : Str → Option Value} {base : Heap}
theorem sc_l_row : FnScope ["_law_deck_here", "_law_base", "_law_many", "_law_signs", "_law_moves", "_law_room", "_law_like"] ["_law_deck_here", "_law_base"] (defScope s_l_row) := ⟨rfl, rfl, rfl, by decide +kernel, rfl, by decide +kernel, by decide +kernel⟩
theorem ok_l_row {a : Adr} (T : Txt K mg a) : FnOk P w K mg base CX0 2 a.f_l_row a.fd_l_row ["_law_deck_here", "_law_base"] spRow2 := by
  have G_l_next : FnOk P w K mg base CX0 1 a.f_l_next a.fd_l_next ["_law_deck_here", "_law_many"] spNext2 := ok_l_next T
  refine T.F_l_row.ok sc_l_row (fun vs H Q E h => ?_) (fun cdv A outer s H vs Q E hr h => ?_)
  · obtain ⟨d, b, rfl, _⟩ := h
    rfl
  · obtain ⟨d, b, rfl, d0, b2, b4, k⟩ := h
    have hr_l_next : Room 1 _ := hr
    refine ⟨_, (pss_cons (ps_set (i := 2) sc_l_row.nd rfl (Or.inr rfl) (pe_op op_add pe_int (pe_call G_l_next hr_l_next rfl T.m_l_next T.k_l_next T.b_l_next .nil pass0 (pa_cons (pv 0) (pa_cons pe_int pa_nil)))))
    (pss_cons (ps_set (i := 3) sc_l_row.nd rfl (Or.inr rfl) (pe_comp (CompScope.mk' (esc := defScope s_l_row) (N := ["_law_deck_here", "_law_base", "_law_many", "_law_signs", "_law_moves", "_law_room", "_law_like"]) (own := ["_law_k"]) (frn := ["_law_deck_here"]) (frj := [0]) rfl rfl (by decide +kernel)) rfl (pi_range1 rfl T.z_range (pa_cons (pv 2) pa_nil)) (fun _ _ _ _ => (pg_name (i := 0) (show List.Nodup (["_law_k", "_law_deck_here"] : List Str) by decide +kernel) rfl (Or.inl rfl))) (fun _ _ _ _ => pifs_nil) (fun _ _ _ _ => (pe_call G_l_next hr_l_next rfl T.m_l_next T.k_l_next T.b_l_next .nil pass0 (pa_cons (pv 1) (pa_cons (pe_ix (ix_listK K) (pe_lst (pa_cons pe_int (pa_cons pe_int pa_nil))) (pe_call G_l_next hr_l_next rfl T.m_l_next T.k_l_next T.b_l_next .nil pass0 (pa_cons (pv 1) (pa_cons pe_int pa_nil))) (fun _ _ => rfl)) pa_nil))))))
    (pss_cons (ps_set (i := 4) sc_l_row.nd rfl (Or.inl rfl) (pe_lst pa_nil))
    (pss_cons (ps_for PassesOwn.never rfl (pi_range1 rfl T.z_range (pa_cons (pv 2) pa_nil)) (pg_name (i := 5) sc_l_row.nd rfl (Or.inr rfl))
      (pss_cons (ps_setComp (i := 6) (CompScope.mk' (esc := defScope s_l_row) (N := ["_law_deck_here", "_law_base", "_law_many", "_law_signs", "_law_moves", "_law_room", "_law_like"]) (own := ["_law_other"]) (frn := ["_law_signs", "_law_room"]) (frj := [3, 5]) rfl rfl (by decide +kernel)) rfl (pi_range1 rfl T.z_range (pa_cons (pv 2) pa_nil)) (fun _ _ _ _ => (pg_name (i := 0) (show List.Nodup (["_law_other", "_law_signs", "_law_room"] : List Str) by decide +kernel) rfl (Or.inl rfl))) (fun _ _ _ _ => (pifs_one (pt_cmpR op_eq (pe_ix (ix_listK K) (pv 1) (pv 0) (fun _ _ => rfl)) (pe_ix (ix_listK K) (pv 1) (pv 2) (fun _ _ => rfl)) (nomark _)))) (fun _ _ _ _ => (pv 0)) sc_l_row.nd rfl rfl)
      (pss_one (ps_expr (pe_bm PySem.F.plainAttrs_list PySem.F.slot_list_append PySem.F.type_list_append mt_append (pv 4) (pa_cons (pe_op (op_catNK K) (pe_tup (pa_cons (pe_ix (ix_listK K) (pv 6) (pe_call G_l_next hr_l_next rfl T.m_l_next T.k_l_next T.b_l_next .nil pass0 (pa_cons (pv 0) (pa_cons (pe_callB (call_lenK K) (by rfl) T.z_len bt_len (pa_cons (pv 6) pa_nil)) pa_nil))) (fun _ _ => rfl)) pa_nil)) (pe_callTy (call_tupleK K) (by rfl) T.z_tuple bt_tuple (pa_cons (pe_comp (CompScope.mk' (esc := defScope s_l_row) (N := ["_law_deck_here", "_law_base", "_law_many", "_law_signs", "_law_moves", "_law_room", "_law_like"]) (own := ["_law_k"]) (frn := ["_law_deck_here", "_law_many"]) (frj := [0, 2]) rfl rfl (by decide +kernel)) rfl (pi_range1 rfl T.z_range (pa_cons (pe_op op_sub (pv 1) pe_int) pa_nil)) (fun _ _ _ _ => (pg_name (i := 0) (show List.Nodup (["_law_k", "_law_deck_here", "_law_many"] : List Str) by decide +kernel) rfl (Or.inl rfl))) (fun _ _ _ _ => pifs_nil) (fun _ _ _ _ => (pe_call G_l_next hr_l_next rfl T.m_l_next T.k_l_next T.b_l_next .nil pass0 (pa_cons (pv 1) (pa_cons (pv 2) pa_nil))))) pa_nil))) pa_nil))))))
    (pss_one (ps_ret (pe_tup (pa_cons (pe_callTy (call_tupleK K) (by rfl) T.z_tuple bt_tuple (pa_cons (pv 3) pa_nil)) (pa_cons (pe_callTy (call_tupleK K) (by rfl) T.z_tuple bt_tuple (pa_cons (pv 4) pa_nil)) pa_nil))))))))), ?_⟩
    refine ⟨_, rfl, d, 8, rfl, d0, by decide, fun r1 H1 r10 r11 k1 d1 => ⟨_, _, rfl, rfl, ?_⟩⟩
    obtain ⟨m, em⟩ : ∃ m : Nat, 1 + r1 = (m : Int) := ⟨(1 + r1).toNat, by omega⟩
    have m1 : 1 ≤ m := by omega
    have m8 : m ≤ 8 := by omega
    dsimp only [gName]
    rw [em]
    refine ⟨_, rfl, m, rfl, by omega, by omega, fun Sl hSl => ?_⟩
    have nSd : Sl ≠ d := (d1.ne hSl).symm
    refine comp_range (fun i σ H' => ∃ (sg : List Nat) (v : Option V), σ = [v, some (.ref d)] ∧ KB d H1 H' ∧ Deck2 H' d ∧ H' Sl = some (.lst ((castI sg).map V.int)) ∧ sg.length = i)
      ⟨[], none, ?sg1, (Same.new hSl).kb, d1.same (Same.new hSl), upd_same, rfl⟩ ?_ ?_
    case sg1 => rfl
    · rintro i σ H3 hi ⟨sg, v, rfl, k3, d3, eS, ls⟩
      refine ⟨_, rfl, by show 2 ≤ sizeLine; decide, fun L hL => ?_⟩
      have nLd : L ≠ d := (d3.ne hL).symm
      have sL := Same.new (o := .lst [.int 2, .int 10]) hL
      refine ⟨_, rfl, d, 2, rfl, d3.same sL, by decide, fun q1 H4 q10 q11 k4 d4 => ?_⟩
      have eL4 : H4 L = some (.lst [.int 2, .int 10]) := k4 _ _ upd_same nLd
      obtain ⟨mm, hmm, mpos⟩ : ∃ mm : Int, atI ([.int 2, .int 10] : List V) q1 = some (.int mm) ∧ 0 < mm := by
        by_cases c : q1 = 0
        · exact ⟨2, by rw [c]; exact atI_nat (j := 0) rfl, by decide⟩
        · exact ⟨10, by rw [show q1 = 1 by omega]; exact atI_nat (j := 1) rfl, by decide⟩
      refine ⟨L, _, _, .int mm, rfl, rfl, .of eL4, hmm, d, mm, rfl, d4, mpos, fun q2 H5 q20 q21 k5 d5 => ?_⟩
      obtain ⟨qn, rfl⟩ : ∃ qn : Nat, q2 = (qn : Int) := ⟨q2.toNat, by omega⟩
      have eS5 := k5 _ _ (k4 _ _ (sL _ _ eS) nSd) nSd
      refine ⟨_, eS5, ?_, sg ++ [qn], _, rfl, ?_, d5.kb KB.write nSd.symm, ?_, ?_⟩
      · rw [List.length_map, castI_len, ls]; exact Nat.lt_of_lt_of_le (show i < 100 by omega) (by decide)
      · intro c o e n
        rw [upd_ne (ne_of_none e hSl)]
        exact k5 _ _ (k4 _ _ (sL _ _ (k3 _ _ e n)) n) n
      · rw [upd_same, castI_app, List.map_append]; rfl
      · rw [List.length_append, ls]; rfl
    rintro σ H3 ⟨sg, v, rfl, k3, d3, eS, ls⟩
    rw [Int.toNat_natCast] at ls
    have k13 := k1.trans k3
    refine ⟨by decide, fun Ml hMl => ?_⟩
    have nMd : Ml ≠ d := (d3.ne hMl).symm
    have nSM : Sl ≠ Ml := ne_of_none eS hMl
    have sM := Same.new (o := .lst []) hMl
    refine ⟨_, rfl, m, rfl, by omega, by omega, for_range (lo := 0) (n := (m : Int).toNat) (fun i σ H' => ∃ (mv : List (List Nat)) (ps : List Addr) (v5 v6 : Option V), σ = [some (.ref d), some (.int b), some (.int m), some (.ref Sl), some (.ref Ml), v5, v6] ∧
        KB d H3 H' ∧ Deck2 H' d ∧ H' Sl = some (.lst ((castI sg).map V.int)) ∧ H' Ml = some (.lst (ps.map V.ref)) ∧ Tups H' ps (mv.map castI) ∧ mv.length = i ∧ (∀ l ∈ mv, l.length = b ∧ ∀ x ∈ l, x < m) ∧ ∀ (j : Nat) (l : List Nat), mv[j]? = some l → sg.getD (l.getD 0 0) 0 = sg.getD j 0)
      ⟨[], [], none, none, rfl, sM.kb, d3.same sM, sM _ _ eS, upd_same, .nil, rfl, (fun l h => by cases h), (fun j l h => by simp at h)⟩ ?_ ?_⟩
    · rintro i σ H4 hi ⟨mv, ps, v5, v6, rfl, k4, d4, eS4, eM4, tp, lm, hm, hlk⟩
      rw [Int.toNat_natCast] at hi
      have e0 : (0 : Int) + (i : Int) = (i : Nat) := by omega
      have his : i < sg.length := by omega
      refine ⟨_, rfl, m, rfl, by omega, by omega, fun Lk hLk => ?_⟩
      refine comp_range (fun j σ H' => ∃ (xs : List Nat) (v : Option V), σ = [v, some (.ref Sl), some (.int (0 + (i : Int)))] ∧ Same H4 H' ∧ H' Lk = some (.lst ((castI xs).map V.int)) ∧ xs.length ≤ j ∧ (∀ x ∈ xs, x < m ∧ sg.getD x 0 = sg.getD i 0) ∧ (i < j → xs ≠ []))
        ⟨[], none, ?sg2, Same.new hLk, upd_same, by simp, (fun x h => by cases h), fun h => absurd h (Nat.not_lt_zero _)⟩ ?_ ?_
      case sg2 => rfl
      · rintro j σ H5 hj ⟨xs, v, rfl, s5, eL, lx, hx, hne⟩
        rw [Int.toNat_natCast] at hj
        have ej : (0 : Int) + (j : Int) = (j : Nat) := by omega
        have eS5 := s5 _ _ eS4
        refine ⟨_, rfl, _, rfl, Sl, _, _, _, rfl, rfl, .of eS5, atI_at (j := j) ej (castI_item (by omega)), _, rfl, _, rfl, Sl, _, _, _, rfl, rfl, .of eS5, atI_at (j := i) e0 (castI_item his), rfl, _, rfl, ?_⟩
        refine ite2 (fun h1 => ?_) (fun h1 => ?_)
        · have h2 : V.int (sg.getD j 0 : Nat) = V.int (sg.getD i 0 : Nat) := of_decide_eq_true h1
          have h3 : sg.getD j 0 = sg.getD i 0 := by
            have := V.int.inj h2
            omega
          refine ⟨_, rfl, _, eL, ?_, xs ++ [j], _, rfl, s5.kbn hLk KB.write, ?_, ?_, ?_, fun _ z => by simp at z⟩
          · rw [List.length_map, castI_len]; exact Nat.lt_of_lt_of_le (show xs.length < 100 by omega) (by decide)
          · rw [upd_same, castI_app, List.map_append, ej]; rfl
          · rw [List.length_append]; show xs.length + 1 ≤ j + 1; omega
          · intro x hx'
            rcases List.mem_append.mp hx' with z | z
            · exact hx x z
            · have : x = j := by simpa using z
              subst this
              exact ⟨hj, h3⟩
        · refine ⟨xs, _, rfl, s5, eL, by omega, hx, fun hij => ?_⟩
          by_cases e : i < j
          · exact hne e
          · have : i = j := by omega
            subst this
            exact absurd (decide_eq_true rfl) h1
      rintro σ H5 ⟨xs, v, rfl, s5, eL, lx, hx, hne⟩
      rw [Int.toNat_natCast] at lx hne
      have xne := hne hi
      have lx1 : 0 < xs.length := List.length_pos_iff.mpr xne
      have d5 := d4.same s5
      have nLd : Lk ≠ d := (d4.ne hLk).symm
      have eM5 := s5 _ _ eM4
      refine ⟨_, rfl, .inl ⟨rfl, _, .of eM5⟩, _, rfl, _, rfl, _, rfl, _, _, rfl, .inl ⟨_, .of eL, rfl⟩, d, _, rfl, d5, ?_, fun q H6 q0 q1 k6 d6 => ?_⟩
      · rw [List.length_map, castI_len]; exact Int.ofNat_lt.mpr lx1
      rw [List.length_map, castI_len] at q1
      obtain ⟨qn, rfl⟩ : ∃ qn : Nat, q = (qn : Int) := ⟨q.toNat, by omega⟩
      have qlt : qn < xs.length := Int.ofNat_lt.mp q1
      obtain ⟨f0, f1⟩ := hx _ (List.mem_of_getElem? (item_at 0 qlt))
      refine ⟨Lk, _, _, _, rfl, rfl, .of (k6 _ _ eL nLd), atI_nat (castI_item qlt), ?_⟩
      refine ⟨by show 1 ≤ sizeLine; decide, fun A1 hA1 => ?_⟩
      have sA := Same.new (o := .tup [.int (xs.getD qn 0 : Nat)]) hA1
      have eA : (upd H6 A1 (.tup [.int (xs.getD qn 0 : Nat)])) A1 = some (.tup ((castI [xs.getD qn 0]).map V.int)) := upd_same
      have d7 := d6.same sA
      have k57 : KB d H4 (upd H6 A1 (.tup [.int (xs.getD qn 0 : Nat)])) := (s5.kb.trans k6).trans sA.kb
      generalize upd H6 A1 (.tup [.int (xs.getD qn 0 : Nat)]) = H7 at eA d7 k57 ⊢
      refine ⟨_, rfl, _, _, rfl, rfl, _, rfl, by omega, by omega, fun B1 hB1 => ?_⟩
      have nBd : B1 ≠ d := (d7.ne hB1).symm
      have sB := Same.new (o := .lst []) hB1
      refine comp_range (fun j σ H' => ∃ (zs : List Nat) (v : Option V), σ = [v, some (.ref d), some (.int m)] ∧ KB d H7 H' ∧ Deck2 H' d ∧ H' B1 = some (.lst ((castI zs).map V.int)) ∧ zs.length = j ∧ ∀ z ∈ zs, z < m)
        ⟨[], none, ?sg3, sB.kb, d7.same sB, upd_same, rfl, fun z h => by cases h⟩ ?_ ?_
      case sg3 => rfl
      · rintro j σ H8 hj ⟨zs, v, rfl, k8, d8, eB, lz, hz⟩
        refine ⟨_, rfl, _, rfl, d, m, rfl, d8, by omega, fun q3 H9 q30 q31 k9 d9 => ?_⟩
        obtain ⟨zn, rfl⟩ : ∃ zn : Nat, q3 = (zn : Int) := ⟨q3.toNat, by omega⟩
        have eB9 := k9 _ _ eB nBd
        refine ⟨_, eB9, ?_, zs ++ [zn], _, rfl, ?_, d9.kb KB.write nBd.symm, ?_, ?_, ?_⟩
        · rw [List.length_map, castI_len, lz]; exact Nat.lt_of_lt_of_le (show j < 100 by omega) (by decide)
        · intro c o e n
          rw [upd_ne (ne_of_none e hB1)]
          exact k9 _ _ (k8 _ _ e n) n
        · rw [upd_same, castI_app, List.map_append]; rfl
        · rw [List.length_append, lz]; rfl
        · intro z h
          rcases List.mem_append.mp h with y | y
          · exact hz z y
          · have : z = zn := by simpa using y
            subst this
            omega
      rintro σ H8 ⟨zs, v, rfl, k8, d8, eB, lz, hz⟩
      have lz' : zs.length = b - 1 := by omega
      refine ⟨B1, _, rfl, .inl ⟨.of eB, fun t1 ht1 => ?_⟩⟩
      have st1 := Same.new (o := .tup ((castI zs).map V.int)) ht1
      have et1 : (upd H8 t1 (.tup ((castI zs).map V.int))) t1 = some (.tup ((castI zs).map V.int)) := upd_same
      have eA8 : H8 A1 = some (.tup ((castI [xs.getD qn 0]).map V.int)) := by obtain ⟨ys, ex⟩ := d7.is; exact k8 _ _ eA (ne_of eA ex (fun z => nomatch z))
      have k48 : KB d H4 (upd H8 t1 (.tup ((castI zs).map V.int))) := (k57.trans k8).trans st1.kb
      have d9 := d8.same st1
      have eA9 := st1 _ _ eA8
      generalize upd H8 t1 (.tup ((castI zs).map V.int)) = H9 at et1 k48 d9 eA9 ⊢
      refine catN_by eA9 et1 ?_ ?_ fun u H10 s10 eu => ?_
      · intro z
        have := congrArg List.length z
        rw [List.length_map, castI_len, lz'] at this
        have h0 : b - 1 = 0 := this
        omega
      · rw [List.length_map, List.length_map, castI_len, castI_len, lz']
        exact Nat.le_trans (show [xs.getD qn 0].length + (b - 1) ≤ 10 by simp; omega) (by decide)
      have k410 : KB d H4 H10 := k48.trans s10.kb
      have kt : KTu H4 H10 := by obtain ⟨ys, ex⟩ := d4.is; exact KTu.kb ex k410
      have eM10 := k410 _ _ eM4 nMd
      have eu' : H10 u = some (.tup ((castI (xs.getD qn 0 :: zs)).map V.int)) := eu
      refine ⟨Ml, _, _, rfl, rfl, eM10, ?_, ?_⟩
      · rw [List.length_map, Paired.length tp, List.length_map, lm]; exact Nat.lt_of_lt_of_le (show i < 100 by omega) (by decide)
      have ktM := KTu.lst (o := .lst (ps.map V.ref ++ [.ref u])) eM10
      refine ⟨mv ++ [xs.getD qn 0 :: zs], ps ++ [u], _, _, rfl, ?_, (d9.same s10).kb KB.write nMd.symm, ?_, ?_, ?_, ?_, ?_, ?_⟩
      · intro c o e n
        rw [upd_ne (ne_of_none e hMl)]
        exact k410 _ _ (k4 _ _ e n) n
      · rw [upd_ne nSM]; exact k410 _ _ eS4 nSd
      · rw [upd_same, List.map_append]; rfl
      · rw [List.map_append]
        exact paired_append ((tp.keep kt).keep ktM) (.cons (ktM _ _ eu') .nil)
      · rw [List.length_append, lm]; rfl
      · intro l hl
        rcases List.mem_append.mp hl with y | y
        · exact hm l y
        · rw [List.mem_singleton.mp y]
          refine ⟨by rw [List.length_cons, lz']; omega, fun z hz' => ?_⟩
          rcases List.mem_cons.mp hz' with e | e
          · rw [e]; exact f0
          · exact hz z e
      · intro j l e
        by_cases c : j < mv.length
        · rw [List.getElem?_append_left c] at e
          exact hlk j l e
        · have hl := (List.getElem?_eq_some_iff.mp e).1
          rw [List.length_append] at hl
          have hl' : j < mv.length + 1 := hl
          have ej : j = mv.length := by omega
          subst ej
          rw [List.getElem?_append_right (Nat.le_refl _), Nat.sub_self] at e
          have e' : xs.getD qn 0 :: zs = l := Option.some.inj e
          rw [← e', lm]
          exact f1
    · rintro σ H4 ⟨mv, ps, v5, v6, rfl, k4, d4, eS4, eM4, tp, lm, hm, hlk⟩
      rw [Int.toNat_natCast] at lm
      refine ⟨_, rfl, Sl, _, rfl, .inl ⟨.of eS4, fun t1 ht1 => ?_⟩⟩
      have s1 := Same.new (o := .tup ((castI sg).map V.int)) ht1
      refine ⟨_, rfl, Ml, _, rfl, .inl ⟨.of (s1 _ _ eM4), fun t2 ht2 => ?_⟩⟩
      have s2 := Same.new (o := .tup (ps.map V.ref)) ht2
      refine ⟨by show 2 ≤ sizeLine; decide, fun t3 ht3 => ?_⟩
      have s3 := Same.new (o := .tup [.ref t1, .ref t2]) ht3
      have sA := (s1.trans s2).trans s3
      refine k t3 sg mv _ ((k13.trans k4).trans sA.kb) (d4.same sA) ⟨t1, t2, ps, upd_same, s3 _ _ (s2 _ _ upd_same), s3 _ _ upd_same, tp.keep sA.kt⟩ ⟨by omega, by omega, ⟨b2, b4⟩, fun l hl => ⟨(hm l hl).1, fun x hx => by have := (hm l hl).2 x hx; omega⟩, hlk⟩ (by omega) (by omega)
end
def Good (H : Hp) (b : Nat) (kvs : List (Key × V)) (x : Str) : Prop := ∃ (r : Addr) (sg : List Nat) (mv : List (List Nat)), valV kvs (Sum.inr x) = some (.ref r) ∧ RowAt H r sg mv ∧ Right b sg mv ∧ 0 < sg.length
theorem Good.keep {H H' : Hp} {b : Nat} {kvs : List (Key × V)} {x : Str} (h : Good H b kvs x) (k : KTu H H') : Good H' b kvs x := by
  obtain ⟨r, sg, mv, h1, h2, h3⟩ := h
  exact ⟨r, sg, mv, h1, h2.keep k, h3⟩
structure Ks (H : Hp) (b : Nat) (kvs : List (Key × V)) (ks : List Str) : Prop where
  keys : kvs.map (·.1) = ks.map Sum.inr
  good : ∀ x ∈ ks, Good H b kvs x
  refs : ∀ p ∈ kvs, ∃ r, p.2 = .ref r
theorem Ks.keep {H H' : Hp} {b : Nat} {kvs : List (Key × V)} {ks : List Str} (h : Ks H b kvs ks) (k : KTu H H') : Ks H' b kvs ks := ⟨h.keys, fun x hx => (h.good x hx).keep k, h.refs⟩
theorem Ks.has {H : Hp} {b : Nat} {kvs : List (Key × V)} {ks : List Str} (h : kvs.map (·.1) = ks.map Sum.inr) (x : Str) : (kvs.any fun kv => decide (kv.1 = (Sum.inr x : Key))) = true ↔ x ∈ ks := by
  rw [List.any_eq_true]
  constructor
  · rintro ⟨p, hp, e⟩
    have : (Sum.inr x : Key) ∈ kvs.map (·.1) := List.mem_map.mpr ⟨p, hp, of_decide_eq_true e⟩
    rw [h] at this
    obtain ⟨y, hy, ey⟩ := List.mem_map.mp this
    cases ey
    exact hy
  · intro hx
    have : (Sum.inr x : Key) ∈ ks.map Sum.inr := List.mem_map.mpr ⟨x, hx, rfl⟩
    rw [← h] at this
    obtain ⟨p, hp, ep⟩ := List.mem_map.mp this
    exact ⟨p, hp, decide_eq_true ep⟩
theorem put_keys_in {kvs : List (Key × V)} {ks : List Str} (h : kvs.map (·.1) = ks.map Sum.inr) {x : Str} (v : V) (hx : x ∈ ks) : (putK kvs (Sum.inr x) v).map (·.1) = ks.map Sum.inr := by
  unfold putK
  rw [if_pos ((Ks.has (H := fun _ => none) (b := 0) h x).mpr hx), List.map_map, ← h]
  refine List.map_congr_left fun p _ => ?_
  show (if p.1 = Sum.inr x then (p.1, v) else p).1 = p.1
  split <;> rfl
theorem put_keys_new {kvs : List (Key × V)} {ks : List Str} (h : kvs.map (·.1) = ks.map Sum.inr) {x : Str} (v : V) (hx : x ∉ ks) : (putK kvs (Sum.inr x) v).map (·.1) = (ks ++ [x]).map Sum.inr := by
  unfold putK
  rw [if_neg (fun z => hx ((Ks.has (H := fun _ => none) (b := 0) h x).mp z)), List.map_append, h, List.map_append]
  rfl
theorem Ks.put {H : Hp} {b : Nat} {kvs : List (Key × V)} {ks : List Str} (h : Ks H b kvs ks) {x : Str} {r : Addr} {sg : List Nat} {mv : List (List Nat)} (ra : RowAt H r sg mv) (R : Right b sg mv) (s0 : 0 < sg.length) :
    ∃ ks', Ks H b (putK kvs (Sum.inr x) (.ref r)) ks' ∧ (∀ y, y ∈ ks' ↔ y ∈ ks ∨ y = x) ∧ ks'.length ≤ ks.length + 1 := by
  have good : ∀ y, y ∈ ks ∨ y = x → Good H b (putK kvs (Sum.inr x) (.ref r)) y := fun y hy => by
    by_cases e : y = x
    · subst e
      exact ⟨r, sg, mv, by rw [valV_put, if_pos rfl], ra, R, s0⟩
    · obtain ⟨r', sg', mv', h1, h2⟩ := h.good y (hy.resolve_right e)
      exact ⟨r', sg', mv', by rw [valV_put, if_neg (fun z => e (by cases z; rfl))]; exact h1, h2⟩
  have refs : ∀ p ∈ putK kvs (Sum.inr x) (.ref r), ∃ r, p.2 = .ref r := fun p hp => by
    rcases put_mem hp with e | e
    · exact ⟨r, by rw [e]⟩
    · exact h.refs p e
  by_cases c : x ∈ ks
  · exact ⟨ks, ⟨put_keys_in h.keys _ c, fun y hy => good y (.inl hy), refs⟩, fun y => ⟨.inl, fun z => z.elim id fun e => e ▸ c⟩, Nat.le_succ _⟩
  · refine ⟨ks ++ [x], ⟨put_keys_new h.keys _ c, fun y hy => good y ?_, refs⟩, fun y => by simp, by rw [List.length_append]; exact Nat.le_refl _⟩
    · simpa using hy
theorem KTu.dk {H : Hp} {d : Addr} {kvs : List (Key × V)} {o : HO} (h : H d = some (.dK kvs)) : KTu H (upd H d o) := fun b ys e => by
  rw [upd_ne (ne_of e h (fun z => nomatch z))]; exact e
theorem put_len (kvs : List (Key × V)) (k : Key) (v : V) : (putK kvs k v).length ≤ kvs.length + 1 := by
  unfold putK
  by_cases c : (kvs.any fun kv => decide (kv.1 = k)) = true
  · rw [if_pos c, List.length_map]; omega
  · rw [if_neg c, List.length_append]; exact Nat.le_refl _
theorem Ks.isSome {kvs : List (Key × V)} {ks : List Str} (h : kvs.map (·.1) = ks.map Sum.inr) (x : Str) : (valV kvs (Sum.inr x)).isSome = decide (x ∈ ks) := by
  rw [← valV_any]
  have := Ks.has (H := fun _ => none) (b := 0) h x
  cases e : (kvs.any fun kv => decide (kv.1 = (Sum.inr x : Key))) with
  | true => exact (decide_eq_true (this.mp e)).symm
  | false => exact (decide_eq_false fun z => by rw [this.mpr z] at e; cases e).symm
def spWorld : Sp := fun vs H Q _ => ∃ d : Addr, vs = [.ref d] ∧ Deck2 H d ∧ ∀ (wa D : Addr) (b : Nat) (kvs : List (Key × V)) (ks : List Str) (H' : Hp), KB d H H' → Deck2 H' d → H' wa = some (.tup [.int b, .ref D]) → H' D = some (.dK kvs) → Ks H' b kvs ks → 2 ≤ b → b ≤ 4 → ks.length ≤ 4 → H D = none → Q (.ref wa) H'
section
variable {P : Program} {w : World} {K : PySem.W.Frag} {mg : Str → Option Value} {base : Heap}
theorem sc_l_world : FnScope ["_law_deck_here", "_law_base", "_law_rows", "_law_name"] ["_law_deck_here"] (defScope s_l_world) := ⟨rfl, rfl, rfl, by decide +kernel, rfl, by decide +kernel, by decide +kernel⟩
theorem ok_l_world {a : Adr} (T : Txt K mg a) : FnOk P w K mg base CX0 3 a.f_l_world a.fd_l_world ["_law_deck_here"] spWorld := by
  have G_l_next : FnOk P w K mg base CX0 1 a.f_l_next a.fd_l_next ["_law_deck_here", "_law_many"] spNext2 := ok_l_next T
  have G_l_names : FnOk P w K mg base CX0 2 a.f_l_names a.fd_l_names ["_law_deck_here", "_law_many", "_law_great"] spNames := ok_l_names T
  have G_l_row : FnOk P w K mg base CX0 2 a.f_l_row a.fd_l_row ["_law_deck_here", "_law_base"] spRow2 := ok_l_row T
  refine T.F_l_world.ok sc_l_world (fun vs H Q E h => ?_) (fun cdv A outer s H vs Q E hr h => ?_)
  · obtain ⟨d, rfl, _⟩ := h
    rfl
  · obtain ⟨d, rfl, d0, k⟩ := h
    have hr_l_next : Room 1 _ := hr.mono (by decide)
    have hr_l_names : Room 2 _ := hr
    have hr_l_row : Room 2 _ := hr
    refine ⟨_, (pss_cons (ps_set (i := 1) sc_l_world.nd rfl (Or.inl rfl) (pe_op op_add pe_int (pe_call G_l_next hr_l_next rfl T.m_l_next T.k_l_next T.b_l_next .nil pass0 (pa_cons (pv 0) (pa_cons pe_int pa_nil)))))
    (pss_cons (ps_set (i := 2) sc_l_world.nd rfl (Or.inl rfl) pe_dnewK)
    (pss_cons (ps_for PassesOwn.never rfl (pi_list (pe_call G_l_names hr_l_names rfl T.m_l_names T.k_l_names T.b_l_names .nil pass0 (pa_cons (pv 0) (pa_cons (pe_call G_l_next hr_l_next rfl T.m_l_next T.k_l_next T.b_l_next .nil pass0 (pa_cons (pv 0) (pa_cons pe_int pa_nil))) (pa_cons pe_bl pa_nil))))) (pg_name (i := 3) sc_l_world.nd rfl (Or.inl rfl))
      (pss_one (ps_dput (hu_of hr) (pv 2) (pv 3) (pe_call G_l_row hr_l_row rfl T.m_l_row T.k_l_row T.b_l_row .nil pass0 (pa_cons (pv 0) (pa_cons (pv 1) pa_nil))) rfl)))
    (pss_one (ps_ret (pe_tup (pa_cons (pv 1) (pa_cons (pv 2) pa_nil)))))))), ?_⟩
    refine ⟨_, rfl, d, 3, rfl, d0, by decide, fun r H1 r0 r1 k1 d1 => ⟨_, _, rfl, rfl, ?_⟩⟩
    obtain ⟨b, eb⟩ : ∃ b : Nat, 2 + r = (b : Int) := ⟨(2 + r).toNat, by omega⟩
    have b2 : 2 ≤ b := by omega
    have b4 : b ≤ 4 := by omega
    dsimp only [gName]
    rw [eb]
    refine fun D hD => ?_
    have sD := Same.new (o := .dK []) hD
    have nDd : D ≠ d := (d1.ne hD).symm
    have hD0 : H D = none := by
      cases z : H D with
      | none => rfl
      | some o => have := k1 D o z nDd; rw [hD] at this; cases this
    refine ⟨_, rfl, _, rfl, d, 5, rfl, d1.same sD, by decide, fun q H2 q0 q1 k2 d2 => ?_⟩
    obtain ⟨m, rfl⟩ : ∃ m : Nat, q = (m : Int) := ⟨q.toNat, by omega⟩
    refine ⟨d, m, true, rfl, d2, by omega, fun N ss H3 hN k3 d3 eN ls _ => ?_⟩
    have nNd : N ≠ d := (d2.ne hN).symm
    have eD2 : H2 D = some (.dK []) := k2 _ _ upd_same nDd
    have eD3 := k3 _ _ eD2 nDd
    have nND : N ≠ D := (ne_of_none eD2 hN).symm
    have k13 : KB d H H3 := (k1.trans sD.kb).trans (k2.trans k3)
    refine ⟨N, rfl, ⟨_, .of eN⟩, for_list (xs := ss.map V.str) (fun i σ H' => ∃ (kvs : List (Key × V)) (ks : List Str) (v3 : Option V), σ = [some (.ref d), some (.int b), some (.ref D), v3] ∧ KB d H H' ∧ Deck2 H' d ∧ H' D = some (.dK kvs) ∧ H' N = some (.lst (ss.map V.str)) ∧ Ks H' b kvs ks ∧ ks.length ≤ i ∧ kvs.length ≤ i)
      ⟨[], [], none, rfl, k13, d3, eD3, eN, ⟨rfl, (fun x hx => by cases hx), (fun p hp => by cases hp)⟩, Nat.le_refl _, Nat.le_refl _⟩ (fun i σ H' _ ⟨_, _, _, _, _, _, _, h, _⟩ => .of h) ?_ ?_⟩
    · rintro i y σ H5 hy ⟨kvs, ks, v3, rfl, k5, d5, eD5, eN5, K5, lk, lv⟩
      obtain ⟨z, rfl, ez⟩ := strItem hy
      have hi : i < ss.length := (List.getElem?_eq_some_iff.mp ez).1
      refine ⟨_, rfl, _, rfl, d, b, rfl, d5, b2, b4, fun rr sg mv H6 k6 d6 ra R s0 _ => ?_⟩
      have eD6 := k6 _ _ eD5 nDd
      have kt : KTu H5 H6 := by obtain ⟨xs, ex⟩ := d5.is; exact KTu.kb ex k6
      obtain ⟨ks', K6, hk', lk'⟩ := (K5.keep kt).put ra R s0
      refine ⟨_, rfl, _, rfl, D, _, rfl, DPut.k (k := Sum.inr z) eD6 (Nat.lt_of_le_of_lt (show kvs.length ≤ 100 by omega) (by decide)), ?_⟩
      have ktD := KTu.dk (o := .dK (putK kvs (Sum.inr z) (.ref rr))) eD6
      refine ⟨_, ks', _, rfl, ?_, d6.kb KB.write nDd.symm, upd_same, by rw [upd_ne nND]; exact k6 _ _ eN5 nNd, K6.keep ktD, by omega, Nat.le_trans (put_len _ _ _) (by omega)⟩
      intro c o e n
      rw [upd_ne (ne_of_none e hD0)]
      exact k6 _ _ (k5 _ _ e n) n
    · rintro σ H5 ⟨kvs, ks, v3, rfl, k5, d5, eD5, eN5, K5, lk, lv⟩
      rw [List.length_map, ls] at lk
      refine ⟨_, rfl, _, rfl, by show 2 ≤ sizeLine; decide, fun wa hwa => ?_⟩
      have sw := Same.new (o := .tup [.int b, .ref D]) hwa
      exact k wa D b kvs ks _ (k5.trans sw.kb) (d5.same sw) upd_same (sw _ _ eD5) (K5.keep sw.kt) b2 b4 (by omega) hD0
end
end My
set_option Elab.async false
set_option linter.all false
set_option maxRecDepth 100000
set_option maxHeartbeats 4000000
namespace My
open PySem L2
section
variable {P : Program} {w : World} {K : PySem.W.Frag} {mg : Str → Option Value} {base : Heap}
theorem sc_l_worth : FnScope ["_law_term_here", "_law_values", "_law_found", "_law_name", "_law_times"] ["_law_term_here", "_law_values"] (defScope s_l_worth) := ⟨rfl, rfl, rfl, by decide +kernel, rfl, by decide +kernel, by decide +kernel⟩
theorem ok_l_worth {a : Adr} (T : Txt K mg a) : FnOk P w K mg base CX0 1 a.f_l_worth a.fd_l_worth ["_law_term_here", "_law_values"] (spWorth K) := by
  refine T.F_l_worth.ok sc_l_worth (fun vs H Q E h => ?_) (fun cdv A outer s H vs Q E hr h => ?_)
  · obtain ⟨x, t, d, kvs, rfl, _⟩ := h
    rfl
  · obtain ⟨x, t, d, kvs, rfl, hx, hd, hp, hl, k⟩ := h
    obtain ⟨ta, pa, ys, rfl, q1, q2, q3⟩ := term_at hx
    refine ⟨_, (pss_cons (ps_set (i := 2) sc_l_worth.nd rfl (Or.inl rfl) (pe_ix (ix_tupK K) (pv 0) pe_int (fun _ _ => rfl)))
    (pss_cons (ps_for PassesOwn.never rfl (pi_tup (pe_ix (ix_tupK K) (pv 0) pe_int (fun _ _ => rfl))) (pg_tup rfl (pgs_cons (pg_name (i := 3) sc_l_worth.nd rfl (Or.inl rfl)) (pgs_cons (pg_name (i := 4) sc_l_worth.nd rfl (Or.inl rfl)) pgs_nil)))
      (pss_one (ps_set (i := 2) sc_l_worth.nd rfl (Or.inl rfl) (pe_op op_add (pv 2) (pe_op op_mul (pv 4) (pe_dget (hu_of hr) (pv 1) (pv 3) (fun _ _ => rfl)))))))
    (pss_one (ps_ret (pv 2))))), ?_⟩
    refine ⟨_, rfl, ta, _, _, _, rfl, rfl, q1, atI_nat (j := 0) (v := .int t.num) rfl, ?_⟩
    refine ⟨_, rfl, ta, _, _, _, rfl, rfl, q1, atI_nat (j := 1) (v := .ref pa) rfl, pa, rfl, ⟨_, q2⟩, for_tup (xs := ys) (fun i σ H' => ∃ v3 v4 : Option V, σ = [some (.ref ta), some (.ref d), some (.int (t.num + wsum kvs (t.parts.take i))), v3, v4] ∧ H' = H)
      ⟨none, none, ?sg, rfl⟩ (fun i σ H' _ ⟨_, _, _, e⟩ => by rw [e]; exact q2) ?_ ?_⟩
    case sg => rw [show t.num + wsum kvs (t.parts.take 0) = t.num by simp [wsum]]; rfl
    · rintro i y σ H1 hy ⟨v3, v4, rfl, rfl⟩
      obtain ⟨dd, ed, hdd⟩ := q3.get hy
      rw [List.getElem?_map] at ed
      cases ep : t.parts[i]? with
      | none => rw [ep] at ed; cases ed
      | some pp =>
        rw [ep] at ed
        have ed' : partDt pp = dd := Option.some.inj ed
        subst ed'
        obtain ⟨qa, rfl, hqa⟩ := part_one hdd
        obtain ⟨hI, h0, h1⟩ := hp pp (List.mem_of_getElem? ep)
        refine ⟨qa, _, rfl, hqa, rfl, _, _, rfl, _, _, rfl, rfl, ?_⟩
        refine ⟨_, rfl, _, rfl, _, rfl, _, rfl, d, .int (getI kvs pp.1), rfl, dgetR hd hI.get, _, _, rfl, rfl, .inl (by constructor <;> omega), _, _, rfl, rfl, some (.str pp.1), some (.int pp.2), ?_, rfl⟩
        rw [take_snoc ep, wsum_app, show wsum kvs [pp] = pp.2 * getI kvs pp.1 by simp [wsum], ← Int.add_assoc]; rfl
    · rintro σ H1 ⟨v3, v4, rfl, rfl⟩
      have ly : ys.length = t.parts.length := by rw [q3.length, List.length_map]
      refine ⟨_, rfl, ?_⟩
      rw [ly, List.take_length]
      exact k _ (Same.refl _)
theorem sc_l_sign : FnScope ["_law_world_here", "_law_name", "_law_number", "_law_signs", "_law_moves", "_law_room"] ["_law_world_here", "_law_name", "_law_number"] (defScope s_l_sign) := ⟨rfl, rfl, rfl, by decide +kernel, rfl, by decide +kernel, by decide +kernel⟩
theorem ok_l_sign {a : Adr} (T : Txt K mg a) : FnOk P w K mg base CX0 1 a.f_l_sign a.fd_l_sign ["_law_world_here", "_law_name", "_law_number"] spSign := by
  refine T.F_l_sign.ok sc_l_sign (fun vs H Q E h => ?_) (fun cdv A outer s H vs Q E hr h => ?_)
  · obtain ⟨b, n, wa, D, r, x, kvs, sg, mv, rfl, _⟩ := h
    rfl
  · obtain ⟨b, n, wa, D, r, x, kvs, sg, mv, rfl, e1, e2, ev, ra, R, s0, hn, k⟩ := h
    obtain ⟨sa, ma, ps, r1, r2, r3, tp⟩ := id ra
    have b2 : 2 ≤ b := R.two.1
    have b9 : b ≤ 1000 := by have := R.two.2; omega
    refine ⟨_, (pss_cons (ps_asg (pe_dget (hu_of hr) (pe_ix (ix_tupK K) (pv 0) pe_int (fun _ _ => rfl)) (pv 1) (fun _ _ => rfl)) (pg_tup rfl (pgs_cons (pg_name (i := 3) sc_l_sign.nd rfl (Or.inl rfl)) (pgs_cons (pg_name (i := 4) sc_l_sign.nd rfl (Or.inl rfl)) pgs_nil))))
    (pss_cons (ps_set (i := 5) sc_l_sign.nd rfl (Or.inl rfl) pe_int)
    (pss_cons (ps_while PassesOwn.never (pt_cmpR op_gt (pv 2) pe_int (nomark _))
      (pss_cons (ps_set (i := 5) sc_l_sign.nd rfl (Or.inl rfl) (pe_ix (ix_tupK K) (pe_ix (ix_tupK K) (pv 4) (pv 5) (fun _ _ => rfl)) (pe_op op_modP (pv 2) (pe_ix (ix_tupK K) (pv 0) pe_int (fun _ _ => rfl))) (fun _ _ => rfl)))
      (pss_one (ps_set (i := 2) sc_l_sign.nd rfl (Or.inl rfl) (pe_op op_fdivB (pv 2) (pe_ix (ix_tupK K) (pv 0) pe_int (fun _ _ => rfl)))))))
    (pss_one (ps_ret (pe_ix (ix_tupK K) (pv 3) (pv 5) (fun _ _ => rfl))))))), ?_⟩
    refine ⟨_, rfl, wa, _, _, _, rfl, rfl, .of e1, atI_nat (j := 1) (v := .ref D) rfl, _, rfl, D, .ref r, rfl, dgetR e2 ev, r, _, rfl, .of r1, rfl, _, _, rfl, _, _, rfl, rfl, ?_⟩
    dsimp only [tSeq, tAsg, tC, gName]
    refine while_m (fun m σ H' => ∃ rm : Nat, σ = [some (.ref wa), some (.str x), some (.int (m : Nat)), some (.ref sa), some (.ref ma), some (.int (rm : Nat))] ∧ H' = H ∧ rm < sg.length ∧ go mv rm (dgN b m) = go mv 0 (dgN b n))
      ⟨n, 0, rfl, rfl, s0, rfl⟩ ?_ ?_
    · rintro m σ H1 ⟨rm, rfl, rfl, hrm, hg⟩
      refine ⟨_, rfl, _, _, rfl, rfl, _, rfl, ?_⟩
      refine ite2 (fun hm => ?_) (fun hm => ?_)
      · have hm' : 0 < m := by have := of_decide_eq_true hm; omega
        rw [dgN_pos b2 hm'] at hg
        have hf : m % b < b := Nat.mod_lt _ (by omega)
        have lmv : rm < mv.length := by rw [R.len]; exact hrm
        obtain ⟨p, hp⟩ : ∃ p, ps[rm]? = some p := ⟨_, List.getElem?_eq_getElem (by have := tp.length; rw [List.length_map] at this; omega)⟩
        obtain ⟨l, hl, el⟩ := tp.get hp
        rw [List.getElem?_map, item_at [] lmv] at hl
        have hl' : castI (mv.getD rm []) = l := Option.some.inj hl
        subst hl'
        have ll : (mv.getD rm []).length = b := (R.lead _ (List.mem_of_getElem? (item_at [] lmv))).1
        refine ⟨_, rfl, _, rfl, ma, _, _, .ref p, rfl, rfl, .of r3, atI_nat (j := rm) (by rw [List.getElem?_map, hp]; rfl), _, rfl, _, rfl, wa, _, _, _, rfl, rfl, .of e1, atI_nat (j := 0) (v := .int b) rfl, _, _, rfl, rfl, cpos (by omega), p, _, _, .int (((mv.getD rm []).getD (m % b) 0 : Nat) : Int), rfl, rfl, .of el, ?ati, ?_⟩
        case ati =>
          show atI _ ((m : Int) % (b : Int)) = _
          rw [← Int.natCast_emod]
          exact atI_nat (castI_item (by rw [ll]; exact hf))
        refine ⟨_, rfl, _, rfl, wa, _, _, _, rfl, rfl, .of e1, atI_nat (j := 0) (v := .int b) rfl, _, _, rfl, rfl, ⟨by omega, log_small b9⟩, m / b, Nat.div_lt_self hm' (by omega), (mv.getD rm []).getD (m % b) 0, ?_, rfl, R.at hrm hf, hg⟩
        rw [Int.natCast_ediv]; rfl
      · have hm' : m = 0 := by
          by_cases z : m = 0
          · exact z
          · exact absurd (decide_eq_true (show (0 : Int) < (m : Int) by omega)) hm
        subst hm'
        rw [dgN_zero] at hg
        refine ⟨_, rfl, _, rfl, sa, _, _, .int ((sg.getD rm 0 : Nat) : Int), rfl, rfl, .of r2, atI_nat (castI_item hrm), ?_⟩
        have hg' : rm = go mv 0 (dgN b n) := hg
        rw [hg']
        exact k _ (Same.refl _)
    · rintro σ H Q Q' hQ ⟨v, e, i, j, z1, z2, c, z3, q⟩
      exact ⟨v, e, i, j, z1, z2, c, z3, hQ _ _ q⟩
end
def Say.round : Say → Nat
  | .no f => f.round
  | .and f g => max f.round g.round
  | .or f g => max f.round g.round
  | .some _ f => f.round + 1
  | .each _ f => f.round + 1
  | _ => 0
theorem round_deep : ∀ f : Say, f.round ≤ f.deep
  | .no f => by have := round_deep f; simp only [Say.round, Say.deep]; omega
  | .and f g => by have := round_deep f; have := round_deep g; simp only [Say.round, Say.deep]; omega
  | .or f g => by have := round_deep f; have := round_deep g; simp only [Say.round, Say.deep]; omega
  | .some _ f => by have := round_deep f; simp only [Say.round, Say.deep]; omega
  | .each _ f => by have := round_deep f; simp only [Say.round, Say.deep]; omega
  | .same _ _ => Nat.le_refl _
  | .less _ _ => Nat.le_refl _
  | .sign _ _ _ => Nat.le_refl _
  | .alike _ _ _ _ => Nat.le_refl _
theorem tok_mono {ss ss' : List Str} (h : ∀ x ∈ ss', x ∈ ss) {t : Term} (ht : TOk ss' t) : TOk ss t := ⟨ht.1, ht.2.1, fun q hq => ⟨h _ (ht.2.2 q hq).1, (ht.2.2 q hq).2⟩⟩
theorem ok_mono {ss ss' rs : List Str} (h : ∀ x ∈ ss', x ∈ ss) : ∀ {f : Say}, f.Ok ss' rs → f.Ok ss rs := by
  intro f
  induction f with
  | no f ih => exact ih
  | and f g i1 i2 => exact fun o => ⟨i1 o.1, i2 o.2⟩
  | or f g i1 i2 => exact fun o => ⟨i1 o.1, i2 o.2⟩
  | some n f ih => exact fun o => ⟨h _ o.1, ih o.2⟩
  | each n f ih => exact fun o => ⟨h _ o.1, ih o.2⟩
  | same t u => exact fun o => ⟨tok_mono h o.1, tok_mono h o.2⟩
  | less t u => exact fun o => ⟨tok_mono h o.1, tok_mono h o.2⟩
  | sign a t z => exact fun o => ⟨o.1, tok_mono h o.2⟩
  | alike a t b u => exact fun o => ⟨o.1, tok_mono h o.2.1, o.2.2.1, tok_mono h o.2.2.2⟩
theorem quant_in' (f : Say) (a b : Str) : inV (.str f.word) [.str a, .str b] = (decide (f.word = a) || decide (f.word = b)) := inW2 a b f.word
def spRound (K : PySem.W.Frag) (n : Nat) : Sp := fun vs H Q _ => ∃ (x : V) (f : Say), vs = [x] ∧ DatAt K H x f.dt ∧ f.deep < n ∧ ∀ H', Same H H' → Q (.int (f.round : Nat)) H'
section
variable {P : Program} {w : World} {K : PySem.W.Frag} {mg : Str → Option Value} {base : Heap}
theorem sc_l_round : FnScope ["_law_saying_here"] ["_law_saying_here"] (defScope s_l_round) := ⟨rfl, rfl, rfl, by decide +kernel, rfl, by decide +kernel, by decide +kernel⟩
theorem ok_l_round {a : Adr} (T : Txt K mg a) : ∀ n : Nat, FnOk P w K mg base CX0 (n + 1) a.f_l_round a.fd_l_round ["_law_saying_here"] (spRound K n)
  | 0 => FnOk.none fun vs H Q E h => by
    obtain ⟨x, f, _, _, hlt, _⟩ := h
    omega
  | n + 1 => by
    have G_l_round := ok_l_round T n
    refine T.F_l_round.ok sc_l_round (fun vs H Q E h => ?_) (fun cdv A outer s H vs Q E hr h => ?_)
    · obtain ⟨x, f, rfl, _⟩ := h
      rfl
    · obtain ⟨x, f, rfl, hx, hdp, k⟩ := h
      have hr_l_round : Room (n + 1) _ := hr
      obtain ⟨sa, xs, rfl, hq, h0, hsp⟩ := say_at f hx
      refine ⟨_, (pss_cons (ps_if (pt_cmpR op_eq (pe_ix (ix_tupK K) (pv 0) pe_int (fun _ _ => rfl)) pe_str (nomark _))
        (pss_one (ps_ret (pe_call G_l_round hr_l_round rfl T.m_l_round T.k_l_round T.b_l_round .nil pass0 (pa_cons (pe_ix (ix_tupK K) (pv 0) pe_int (fun _ _ => rfl)) pa_nil))))
        pss_nil)
      (pss_cons (ps_if (pt_cmpR (op_inK K) (pe_ix (ix_tupK K) (pv 0) pe_int (fun _ _ => rfl)) (pe_lst (pa_cons pe_str (pa_cons pe_str pa_nil))) (by with_unfolding_all rfl))
        (pss_one (ps_ret (pe_callB (call_max2 rfl) (by rfl) T.z_max bt_max (pa_cons (pe_call G_l_round hr_l_round rfl T.m_l_round T.k_l_round T.b_l_round .nil pass0 (pa_cons (pe_ix (ix_tupK K) (pv 0) pe_int (fun _ _ => rfl)) pa_nil)) (pa_cons (pe_call G_l_round hr_l_round rfl T.m_l_round T.k_l_round T.b_l_round .nil pass0 (pa_cons (pe_ix (ix_tupK K) (pv 0) pe_int (fun _ _ => rfl)) pa_nil)) pa_nil)))))
        pss_nil)
      (pss_cons (ps_if (pt_cmpR (op_inK K) (pe_ix (ix_tupK K) (pv 0) pe_int (fun _ _ => rfl)) (pe_lst (pa_cons pe_str (pa_cons pe_str pa_nil))) (by with_unfolding_all rfl))
        (pss_one (ps_ret (pe_op op_add pe_int (pe_call G_l_round hr_l_round rfl T.m_l_round T.k_l_round T.b_l_round .nil pass0 (pa_cons (pe_ix (ix_tupK K) (pv 0) pe_int (fun _ _ => rfl)) pa_nil)))))
        pss_nil)
      (pss_one (ps_ret pe_int))))), ?_⟩
      have w0 : ∀ {H' : Hp}, Same H H' → SqT K H' sa xs := fun s => s.seqT hq
      have at0 : atI xs 0 = some (.str f.word) := atI_nat (j := 0) h0
      refine ⟨_, rfl, sa, xs, 0, .str f.word, rfl, rfl, hq, at0, rfl, _, rfl, ?_⟩
      refine ite2 (fun hno => ?_) (fun hno => ?_)
      · have hw : f.word = ("not" : Str) := by
          by_cases z : f.word = ("not" : Str)
          · exact z
          · exact absurd hno (by simp [z])
        obtain ⟨g, rfl⟩ : ∃ g, f = .no g := by cases f <;> first | exact ⟨_, rfl⟩ | exact absurd hw (show ¬ _ by (first | (show ("same" : Str) ≠ "not"; decide +kernel) | (show ("less" : Str) ≠ "not"; decide +kernel) | (show ("sign" : Str) ≠ "not"; decide +kernel) | (show ("alike" : Str) ≠ "not"; decide +kernel) | (show ("and" : Str) ≠ "not"; decide +kernel) | (show ("or" : Str) ≠ "not"; decide +kernel) | (show ("some" : Str) ≠ "not"; decide +kernel) | (show ("each" : Str) ≠ "not"; decide +kernel)))
        obtain ⟨y, g', hy, hg, hd⟩ := hsp 0 1 rfl
        cases Option.some.inj hg
        exact ⟨_, rfl, sa, xs, _, y, rfl, rfl, hq, atI_nat hy, y, g, rfl, hd, by simp only [Say.deep] at hdp; omega, fun H1 s1 => k H1 s1⟩
      have nno : f.word ≠ ("not" : Str) := fun z => hno (by rw [z]; simp)
      refine ⟨_, rfl, sa, xs, 0, .str f.word, rfl, rfl, hq, at0, by show 2 ≤ sizeLine; decide, fun O1 hO1 => ⟨O1, _, rfl, .inl (.of upd_same), rfl, rfl, _, rfl, ?_⟩⟩
      have s1 := Same.new (o := .lst [.str "and", .str "or"]) hO1
      generalize upd H O1 (.lst [.str "and", .str "or"]) = H1 at s1 ⊢
      rw [show (if false = true then !inV (.str f.word) [.str "and", .str "or"] else inV (.str f.word) [.str "and", .str "or"]) = (decide (f.word = ("and" : Str)) || decide (f.word = ("or" : Str))) from quant_in' f _ _]
      refine ite2 (fun hao => ?_) (fun hao => ?_)
      · have hw : f.word = ("and" : Str) ∨ f.word = ("or" : Str) := by simpa using hao
        obtain ⟨g, g2, hi, hs', hrd, hdd⟩ : ∃ g g2 : Say, f.inner = [g, g2] ∧ f.spots = [1, 2] ∧ f.round = max g.round g2.round ∧ f.deep = max g.deep g2.deep + 1 := by
          cases f <;> first | exact ⟨_, _, rfl, rfl, rfl, rfl⟩ | (exfalso; rcases hw with z | z <;> revert z <;> (first | (show ¬ (("same" : Str) = _); decide +kernel) | (show ¬ (("less" : Str) = _); decide +kernel) | (show ¬ (("sign" : Str) = _); decide +kernel) | (show ¬ (("alike" : Str) = _); decide +kernel) | (show ¬ (("not" : Str) = _); decide +kernel) | (show ¬ (("some" : Str) = _); decide +kernel) | (show ¬ (("each" : Str) = _); decide +kernel)))
        obtain ⟨y, g', hy, hg, hd⟩ := hsp 0 1 (by rw [hs']; rfl)
        obtain ⟨y2, g2', hy2, hg2, hd2⟩ := hsp 1 2 (by rw [hs']; rfl)
        rw [hi] at hg hg2
        cases Option.some.inj hg
        cases Option.some.inj hg2
        refine ⟨_, rfl, sa, xs, _, y, rfl, rfl, w0 s1, atI_nat hy, y, g, rfl, dat_stay s1.kts _ _ g.noL hd, by omega, fun H2 s2 => ?_⟩
        have s12 := s1.trans s2
        refine ⟨_, rfl, sa, xs, _, y2, rfl, rfl, w0 s12, atI_nat hy2, y2, g2, rfl, dat_stay s12.kts _ _ g2.noL hd2, by omega, fun H3 s3 => ⟨_, _, rfl, ?_⟩⟩
        have := k H3 (s12.trans s3)
        rw [hrd] at this
        rw [show (if ((g2.round : Nat) : Int) > ((g.round : Nat) : Int) then ((g2.round : Nat) : Int) else ((g.round : Nat) : Int)) = ((max g.round g2.round : Nat) : Int) by split <;> omega]
        exact this
      have nao : f.word ≠ ("and" : Str) ∧ f.word ≠ ("or" : Str) := by
        constructor <;> (intro z; exact hao (by rw [z]; simp))
      refine ⟨_, rfl, sa, xs, 0, .str f.word, rfl, rfl, w0 s1, at0, by show 2 ≤ sizeLine; decide, fun O2 hO2 => ⟨O2, _, rfl, .inl (.of upd_same), rfl, rfl, _, rfl, ?_⟩⟩
      have s2 := s1.trans (Same.new (o := .lst [.str "some", .str "each"]) hO2)
      generalize upd H1 O2 (.lst [.str "some", .str "each"]) = H2 at s2 ⊢
      refine ite2 (fun hin => ?_) (fun hin => ?_)
      · obtain ⟨n1, g, he⟩ := (quant_in f).mp hin
        obtain ⟨hi, hs', hrd, hdd⟩ : f.inner = [g] ∧ f.spots = [2] ∧ f.round = g.round + 1 ∧ f.deep = g.deep + 1 := by
          rcases he with rfl | rfl <;> exact ⟨rfl, rfl, rfl, rfl⟩
        obtain ⟨y, g', hy, hg, hd⟩ := hsp 0 2 (by rw [hs']; rfl)
        rw [hi] at hg
        cases Option.some.inj hg
        refine ⟨_, rfl, sa, xs, _, y, rfl, rfl, w0 s2, atI_nat hy, y, g, rfl, dat_stay s2.kts _ _ g.noL hd, by omega, fun H3 s3 => ⟨_, _, rfl, rfl, ?_⟩⟩
        have := k H3 (s2.trans s3)
        rw [hrd] at this
        show Q (.int (1 + ((g.round : Nat) : Int))) H3
        rw [show (1 + ((g.round : Nat) : Int)) = ((g.round + 1 : Nat) : Int) by omega]
        exact this
      · have : f.round = 0 := by
          cases f with
          | no g => exact absurd rfl nno
          | and g h => exact absurd rfl nao.1
          | or g h => exact absurd rfl nao.2
          | some m g => exact absurd ((quant_in _).mpr ⟨m, g, .inl rfl⟩) hin
          | each m g => exact absurd ((quant_in _).mpr ⟨m, g, .inr rfl⟩) hin
          | _ => rfl
        have kk := k H2 s2
        rw [this] at kk
        exact kk
end
end My
set_option Elab.async false
set_option linter.all false
set_option maxRecDepth 100000
set_option maxHeartbeats 4000000
namespace My
open PySem L2
def spLH (K : PySem.W.Frag) (n : Nat) : Sp := fun vs H Q _ => ∃ (wa d : Addr) (x : V) (f : Say) (kvs : Kvs) (sg : Str → Nat → Nat) (ss rs : List Str) (most : Nat), vs = [.ref wa, x, .ref d, .int (most : Nat)] ∧ WAt H wa sg rs ∧ DatAt K H x f.dt ∧ Rd H d (.dK kvs) ∧ most ≤ 1000 ∧ kvs.length + f.deep ≤ 200 ∧ f.Ok ss rs ∧ EnvOk ss kvs ∧ f.deep < n ∧
  ∀ H', Same H H' → Q (.bl (hp sg most f kvs)) H'
section
variable {P : Program} {w : World} {K : PySem.W.Frag} {mg : Str → Option Value} {base : Heap}
theorem sc_l_holds : FnScope ["_law_world_here", "_law_saying_here", "_law_values", "_law_most", "_law_word", "_law_one", "_law_told", "_law_number", "_law_inner"] ["_law_world_here", "_law_saying_here", "_law_values", "_law_most"] (defScope s_l_holds) := ⟨rfl, rfl, rfl, by decide +kernel, rfl, by decide +kernel, by decide +kernel⟩
theorem ok_l_holds {a : Adr} (T : Txt K mg a) : ∀ n : Nat, FnOk P w K mg base CX0 (n + 2) a.f_l_holds a.fd_l_holds ["_law_world_here", "_law_saying_here", "_law_values", "_law_most"] (spLH K n)
  | 0 => FnOk.none fun vs H Q E h => by
    obtain ⟨wa, d, x, f, kvs, sg, ss, rs, most, _, _, _, _, _, _, _, _, hlt, _⟩ := h
    omega
  | n + 1 => by
    have G_l_holds := ok_l_holds T n
    have G_l_worth : FnOk P w K mg base CX0 1 a.f_l_worth a.fd_l_worth ["_law_term_here", "_law_values"] (spWorth K) := ok_l_worth T
    have G_l_sign : FnOk P w K mg base CX0 1 a.f_l_sign a.fd_l_sign ["_law_world_here", "_law_name", "_law_number"] spSign := ok_l_sign T
    refine T.F_l_holds.ok sc_l_holds (fun vs H Q E h => ?_) (fun cdv A outer s H vs Q E hr h => ?_)
    · obtain ⟨wa, d, x, f, kvs, sg, ss, rs, most, rfl, _⟩ := h
      rfl
    · obtain ⟨wa, d, x, f, kvs, sg, ss, rs, most, rfl, hw, hx, hd, hm, hlk, hok, he, hdp, k⟩ := h
      have hr_l_worth : Room 1 _ := hr.mono (by omega)
      have hr_l_sign : Room 1 _ := hr.mono (by omega)
      have hr_l_holds : Room (n + 2) _ := hr
      refine ⟨_, (pss_cons (ps_set (i := 4) sc_l_holds.nd rfl (Or.inl rfl) (pe_ix (ix_tupK K) (pv 1) pe_int (fun _ _ => rfl)))
      (pss_cons (ps_if (pt_cmpR op_eq (pv 4) pe_str (nomark _))
        (pss_one (ps_ret (pe_cmpR op_eq (pe_call G_l_worth hr_l_worth rfl T.m_l_worth T.k_l_worth T.b_l_worth .nil pass0 (pa_cons (pe_ix (ix_tupK K) (pv 1) pe_int (fun _ _ => rfl)) (pa_cons (pv 2) pa_nil))) (pe_call G_l_worth hr_l_worth rfl T.m_l_worth T.k_l_worth T.b_l_worth .nil pass0 (pa_cons (pe_ix (ix_tupK K) (pv 1) pe_int (fun _ _ => rfl)) (pa_cons (pv 2) pa_nil))) (nomark _))))
        pss_nil)
      (pss_cons (ps_if (pt_cmpR op_eq (pv 4) pe_str (nomark _))
        (pss_one (ps_ret (pe_cmpR op_lt (pe_call G_l_worth hr_l_worth rfl T.m_l_worth T.k_l_worth T.b_l_worth .nil pass0 (pa_cons (pe_ix (ix_tupK K) (pv 1) pe_int (fun _ _ => rfl)) (pa_cons (pv 2) pa_nil))) (pe_call G_l_worth hr_l_worth rfl T.m_l_worth T.k_l_worth T.b_l_worth .nil pass0 (pa_cons (pe_ix (ix_tupK K) (pv 1) pe_int (fun _ _ => rfl)) (pa_cons (pv 2) pa_nil))) (nomark _))))
        pss_nil)
      (pss_cons (ps_if (pt_cmpR op_eq (pv 4) pe_str (nomark _))
        (pss_one (ps_ret (pe_cmpR op_eq (pe_call G_l_sign hr_l_sign rfl T.m_l_sign T.k_l_sign T.b_l_sign .nil pass0 (pa_cons (pv 0) (pa_cons (pe_ix (ix_tupK K) (pv 1) pe_int (fun _ _ => rfl)) (pa_cons (pe_call G_l_worth hr_l_worth rfl T.m_l_worth T.k_l_worth T.b_l_worth .nil pass0 (pa_cons (pe_ix (ix_tupK K) (pv 1) pe_int (fun _ _ => rfl)) (pa_cons (pv 2) pa_nil))) pa_nil)))) (pe_ix (ix_tupK K) (pv 1) pe_int (fun _ _ => rfl)) (nomark _))))
        pss_nil)
      (pss_cons (ps_if (pt_cmpR op_eq (pv 4) pe_str (nomark _))
        (pss_cons (ps_set (i := 5) sc_l_holds.nd rfl (Or.inl rfl) (pe_call G_l_sign hr_l_sign rfl T.m_l_sign T.k_l_sign T.b_l_sign .nil pass0 (pa_cons (pv 0) (pa_cons (pe_ix (ix_tupK K) (pv 1) pe_int (fun _ _ => rfl)) (pa_cons (pe_call G_l_worth hr_l_worth rfl T.m_l_worth T.k_l_worth T.b_l_worth .nil pass0 (pa_cons (pe_ix (ix_tupK K) (pv 1) pe_int (fun _ _ => rfl)) (pa_cons (pv 2) pa_nil))) pa_nil)))))
        (pss_one (ps_ret (pe_cmpR op_eq (pv 5) (pe_call G_l_sign hr_l_sign rfl T.m_l_sign T.k_l_sign T.b_l_sign .nil pass0 (pa_cons (pv 0) (pa_cons (pe_ix (ix_tupK K) (pv 1) pe_int (fun _ _ => rfl)) (pa_cons (pe_call G_l_worth hr_l_worth rfl T.m_l_worth T.k_l_worth T.b_l_worth .nil pass0 (pa_cons (pe_ix (ix_tupK K) (pv 1) pe_int (fun _ _ => rfl)) (pa_cons (pv 2) pa_nil))) pa_nil)))) (nomark _)))))
        pss_nil)
      (pss_cons (ps_if (pt_cmpR op_eq (pv 4) pe_str (nomark _))
        (pss_one (ps_ret (pe_not (pe_call G_l_holds hr_l_holds rfl T.m_l_holds T.k_l_holds T.b_l_holds .nil pass0 (pa_cons (pv 0) (pa_cons (pe_ix (ix_tupK K) (pv 1) pe_int (fun _ _ => rfl)) (pa_cons (pv 2) (pa_cons (pv 3) pa_nil))))))))
        pss_nil)
      (pss_cons (ps_if (pt_cmpR op_eq (pv 4) pe_str (nomark _))
        (pss_one (ps_ret (pe_and (pe_call G_l_holds hr_l_holds rfl T.m_l_holds T.k_l_holds T.b_l_holds .nil pass0 (pa_cons (pv 0) (pa_cons (pe_ix (ix_tupK K) (pv 1) pe_int (fun _ _ => rfl)) (pa_cons (pv 2) (pa_cons (pv 3) pa_nil))))) (pe_one (pe_call G_l_holds hr_l_holds rfl T.m_l_holds T.k_l_holds T.b_l_holds .nil pass0 (pa_cons (pv 0) (pa_cons (pe_ix (ix_tupK K) (pv 1) pe_int (fun _ _ => rfl)) (pa_cons (pv 2) (pa_cons (pv 3) pa_nil)))))))))
        pss_nil)
      (pss_cons (ps_if (pt_cmpR op_eq (pv 4) pe_str (nomark _))
        (pss_one (ps_ret (pe_or (pe_call G_l_holds hr_l_holds rfl T.m_l_holds T.k_l_holds T.b_l_holds .nil pass0 (pa_cons (pv 0) (pa_cons (pe_ix (ix_tupK K) (pv 1) pe_int (fun _ _ => rfl)) (pa_cons (pv 2) (pa_cons (pv 3) pa_nil))))) (pe_one (pe_call G_l_holds hr_l_holds rfl T.m_l_holds T.k_l_holds T.b_l_holds .nil pass0 (pa_cons (pv 0) (pa_cons (pe_ix (ix_tupK K) (pv 1) pe_int (fun _ _ => rfl)) (pa_cons (pv 2) (pa_cons (pv 3) pa_nil)))))))))
        pss_nil)
      (pss_cons (ps_set (i := 6) sc_l_holds.nd rfl (Or.inl rfl) (pe_lst pa_nil))
      (pss_cons (ps_for PassesOwn.never rfl (pi_range1 rfl T.z_range (pa_cons (pv 3) pa_nil)) (pg_name (i := 7) sc_l_holds.nd rfl (Or.inl rfl))
        (pss_cons (ps_set (i := 8) sc_l_holds.nd rfl (Or.inl rfl) (pe_callTy call_dictK (by rfl) T.z_dict bt_dict (pa_cons (pv 2) pa_nil)))
        (pss_cons (ps_dput (hu_of hr) (pv 8) (pe_ix (ix_tupK K) (pv 1) pe_int (fun _ _ => rfl)) (pv 7) rfl)
        (pss_one (ps_expr (pe_bm PySem.F.plainAttrs_list PySem.F.slot_list_append PySem.F.type_list_append mt_append (pv 6) (pa_cons (pe_call G_l_holds hr_l_holds rfl T.m_l_holds T.k_l_holds T.b_l_holds .nil pass0 (pa_cons (pv 0) (pa_cons (pe_ix (ix_tupK K) (pv 1) pe_int (fun _ _ => rfl)) (pa_cons (pv 8) (pa_cons (pv 3) pa_nil))))) pa_nil)))))))
      (pss_one (ps_ret (pe_ix (ix_listK K) (pe_lst (pa_cons (pe_callB (call_allK K rfl) (by rfl) T.z_all bt_all (pa_cons (pv 6) pa_nil)) (pa_cons (pe_callB (call_anyK K rfl) (by rfl) T.z_any bt_any (pa_cons (pv 6) pa_nil)) pa_nil))) (pe_callTy call_int1 (by rfl) T.z_int bt_int (pa_cons (pe_cmpR op_eq (pv 4) pe_str (nomark _)) pa_nil)) (fun _ _ => rfl)))))))))))))), ?_⟩
      cases f with
      | same t u =>
        obtain ⟨sa, y0, y1, y2, rfl, hq, h0, h1, h2⟩ := tup3_inv (show DatAt K H x (.tup [.str "same", t.dt, u.dt]) from hx)
        have e0 := isStr h0
        subst e0
        refine ⟨_, rfl, sa, _, _, _, rfl, rfl, hq, atI_nat (j := 0) (v := .str "same") rfl, _, rfl, rfl, _, rfl, ifW rfl ?_⟩
        refine ⟨_, rfl, sa, _, _, _, rfl, rfl, hq, atI_nat (j := 1) (v := y1) rfl, _, rfl, y1, t, d, kvs, rfl, h1, hd, (hok.1.w he).1, (hok.1.w he).2, fun H1 s1 => ?_⟩
        refine ⟨_, rfl, sa, _, _, _, rfl, rfl, s1.seqT hq, atI_nat (j := 2) (v := y2) rfl, _, rfl, y2, u, d, kvs, rfl, dat_stay s1.kts _ _ u.noL h2, same_rd s1 hd, (hok.2.w he).1, (hok.2.w he).2, fun H2 s2 => ⟨rfl, ?_⟩⟩
        rw [dII]
        have := k H2 (s1.trans s2)
        rw [hp, atomV] at this
        exact this
      | less t u =>
        obtain ⟨sa, y0, y1, y2, rfl, hq, h0, h1, h2⟩ := tup3_inv (show DatAt K H x (.tup [.str "less", t.dt, u.dt]) from hx)
        have e0 := isStr h0
        subst e0
        refine ⟨_, rfl, sa, _, _, _, rfl, rfl, hq, atI_nat (j := 0) (v := .str "less") rfl, _, rfl, rfl, _, rfl, ifWn (by decide +kernel) ?_⟩
        refine ⟨_, rfl, rfl, _, rfl, ifW rfl ?_⟩
        refine ⟨_, rfl, sa, _, _, _, rfl, rfl, hq, atI_nat (j := 1) (v := y1) rfl, _, rfl, y1, t, d, kvs, rfl, h1, hd, (hok.1.w he).1, (hok.1.w he).2, fun H1 s1 => ?_⟩
        exact ⟨_, rfl, sa, _, _, _, rfl, rfl, s1.seqT hq, atI_nat (j := 2) (v := y2) rfl, _, rfl, y2, u, d, kvs, rfl, dat_stay s1.kts _ _ u.noL h2, same_rd s1 hd, (hok.2.w he).1, (hok.2.w he).2, fun H2 s2 => ⟨_, _, rfl, rfl, by have := k H2 (s1.trans s2); rw [hp, atomV] at this; exact this⟩⟩
      | sign r t z =>
        obtain ⟨sa, y0, y1, y2, y3, rfl, hq, h0, h1, h2, h3⟩ := tup4_inv (show DatAt K H x (.tup [.str "sign", .str r, t.dt, .int z]) from hx)
        have e0 := isStr h0
        have e1 := isStr h1
        have e3 := isInt h3
        subst e0 e1 e3
        obtain ⟨b, D, wvs, w1, w2, b2, b4, wr⟩ := id hw
        obtain ⟨ra, gs, mv, v1, v2, v3, v4, v5⟩ := wr r hok.1
        obtain ⟨n, en, hn⟩ := worth_lt he hok.2
        refine ⟨_, rfl, sa, _, _, _, rfl, rfl, hq, atI_nat (j := 0) (v := .str "sign") rfl, _, rfl, rfl, _, rfl, ifWn (by decide +kernel) ?_⟩
        refine ⟨_, rfl, rfl, _, rfl, ifWn (by decide +kernel) ?_⟩
        refine ⟨_, rfl, rfl, _, rfl, ifW rfl ?_⟩
        refine ⟨_, rfl, _, rfl, sa, _, _, _, rfl, rfl, hq, atI_nat (j := 1) (v := .str r) rfl, _, rfl, sa, _, _, _, rfl, rfl, hq, atI_nat (j := 2) (v := y2) rfl, _, rfl, y2, t, d, kvs, rfl, h2, hd, (hok.2.w he).1, (hok.2.w he).2, fun H1 s1 => ?_⟩
        refine ⟨b, n, wa, D, ra, r, wvs, gs, mv, by rw [← en]; rfl, s1 _ _ w1, same_rd s1 w2, v1, v2.keep s1.kt, v3, v4, hn, fun H2 s2 => ?_⟩
        refine ⟨_, rfl, sa, _, _, _, rfl, rfl, (s1.trans s2).seqT hq, atI_nat (j := 3) (v := .int z) rfl, rfl, ?_⟩
        rw [dII]
        have := k H2 (s1.trans s2)
        rw [hp, atomV, en, Int.toNat_natCast, v5 n] at this
        exact this
      | alike r t q u =>
        obtain ⟨sa, y0, y1, y2, y3, y4, rfl, hq, h0, h1, h2, h3, h4⟩ := tup5_inv (show DatAt K H x (.tup [.str "alike", .str r, t.dt, .str q, u.dt]) from hx)
        have e0 := isStr h0
        have e1 := isStr h1
        have e3 := isStr h3
        subst e0 e1 e3
        obtain ⟨b, D, wvs, w1, w2, b2, b4, wr⟩ := id hw
        obtain ⟨ra, gs, mv, v1, v2, v3, v4, v5⟩ := wr r hok.1
        obtain ⟨qa, gs', mv', u1, u2, u3, u4, u5⟩ := wr q hok.2.2.1
        obtain ⟨n, en, hn⟩ := worth_lt he hok.2.1
        obtain ⟨m, em, hm⟩ := worth_lt he hok.2.2.2
        refine ⟨_, rfl, sa, _, _, _, rfl, rfl, hq, atI_nat (j := 0) (v := .str "alike") rfl, _, rfl, rfl, _, rfl, ifWn (by decide +kernel) ?_⟩
        refine ⟨_, rfl, rfl, _, rfl, ifWn (by decide +kernel) ?_⟩
        refine ⟨_, rfl, rfl, _, rfl, ifWn (by decide +kernel) ?_⟩
        refine ⟨_, rfl, rfl, _, rfl, ifW rfl ?_⟩
        refine ⟨_, rfl, _, rfl, sa, _, _, _, rfl, rfl, hq, atI_nat (j := 1) (v := .str r) rfl, _, rfl, sa, _, _, _, rfl, rfl, hq, atI_nat (j := 2) (v := y2) rfl, _, rfl, y2, t, d, kvs, rfl, h2, hd, (hok.2.1.w he).1, (hok.2.1.w he).2, fun H1 s1 => ?_⟩
        refine ⟨b, n, wa, D, ra, r, wvs, gs, mv, by rw [← en]; rfl, s1 _ _ w1, same_rd s1 w2, v1, v2.keep s1.kt, v3, v4, hn, fun H2 s2 => ?_⟩
        have s12 := s1.trans s2
        refine ⟨_, rfl, _, rfl, _, rfl, sa, _, _, _, rfl, rfl, s12.seqT hq, atI_nat (j := 3) (v := .str q) rfl, _, rfl, sa, _, _, _, rfl, rfl, s12.seqT hq, atI_nat (j := 4) (v := y4) rfl, _, rfl, y4, u, d, kvs, rfl, dat_stay s12.kts _ _ u.noL h4, same_rd s12 hd, (hok.2.2.2.w he).1, (hok.2.2.2.w he).2, fun H3 s3 => ?_⟩
        have s13 := s12.trans s3
        refine ⟨b, m, wa, D, qa, q, wvs, gs', mv', by rw [← em]; rfl, s13 _ _ w1, same_rd s13 w2, u1, u2.keep s13.kt, u3, u4, hm, fun H4 s4 => ⟨rfl, ?_⟩⟩
        rw [dII]
        have := k H4 (s13.trans s4)
        rw [hp, atomV, en, em, Int.toNat_natCast, Int.toNat_natCast, v5 n, u5 m] at this
        exact this
      | no g =>
        obtain ⟨sa, y0, y1, rfl, hq, h0, h1⟩ := tup2_inv (show DatAt K H x (.tup [.str "not", g.dt]) from hx)
        have e0 := isStr h0
        subst e0
        refine ⟨_, rfl, sa, _, _, _, rfl, rfl, hq, atI_nat (j := 0) (v := .str "not") rfl, ?_⟩
        refine ⟨_, rfl, rfl, _, rfl, ifWn (by decide +kernel) ?_⟩
        refine ⟨_, rfl, rfl, _, rfl, ifWn (by decide +kernel) ?_⟩
        refine ⟨_, rfl, rfl, _, rfl, ifWn (by decide +kernel) ?_⟩
        refine ⟨_, rfl, rfl, _, rfl, ifWn (by decide +kernel) ?_⟩
        refine ⟨_, rfl, rfl, _, rfl, ifW rfl ?_⟩
        refine ⟨_, rfl, _, rfl, sa, _, _, _, rfl, rfl, hq, atI_nat (j := 1) (v := y1) rfl, _, rfl, _, rfl, wa, d, y1, g, kvs, sg, ss, rs, most, rfl, hw, h1, hd, hm, by simp only [Say.deep] at hlk; omega, hok, he, by simp only [Say.deep] at hdp; omega, fun H1 s1 => ⟨_, rfl, ?_⟩⟩
        have := k H1 s1
        rw [hp] at this
        exact this
      | and g g2 =>
        obtain ⟨sa, y0, y1, y2, rfl, hq, h0, h1, h2⟩ := tup3_inv (show DatAt K H x (.tup [.str "and", g.dt, g2.dt]) from hx)
        have e0 := isStr h0
        subst e0
        have lk2 : kvs.length + g.deep ≤ 200 ∧ kvs.length + g2.deep ≤ 200 := by simp only [Say.deep] at hlk; omega
        have dl : g.deep < n ∧ g2.deep < n := by simp only [Say.deep] at hdp; omega
        refine ⟨_, rfl, sa, _, _, _, rfl, rfl, hq, atI_nat (j := 0) (v := .str "and") rfl, ?_⟩
        refine ⟨_, rfl, rfl, _, rfl, ifWn (by decide +kernel) ?_⟩
        refine ⟨_, rfl, rfl, _, rfl, ifWn (by decide +kernel) ?_⟩
        refine ⟨_, rfl, rfl, _, rfl, ifWn (by decide +kernel) ?_⟩
        refine ⟨_, rfl, rfl, _, rfl, ifWn (by decide +kernel) ?_⟩
        refine ⟨_, rfl, rfl, _, rfl, ifWn (by decide +kernel) ?_⟩
        refine ⟨_, rfl, rfl, _, rfl, ifW rfl ?_⟩
        refine ⟨_, rfl, _, rfl, sa, _, _, _, rfl, rfl, hq, atI_nat (j := 1) (v := y1) rfl, _, rfl, _, rfl, wa, d, y1, g, kvs, sg, ss, rs, most, rfl, hw, h1, hd, hm, lk2.1, hok.1, he, dl.1, fun H1 s1 => ⟨_, rfl, ?_⟩⟩
        refine ite2 (fun hc => ?_) (fun hc => ?_)
        · refine ⟨_, rfl, _, rfl, sa, _, _, _, rfl, rfl, s1.seqT hq, atI_nat (j := 2) (v := y2) rfl, _, rfl, _, rfl, wa, d, y2, g2, kvs, sg, ss, rs, most, rfl, hw.keep s1.kt (fun _ _ h => same_rd s1 h), dat_stay s1.kts _ _ g2.noL h2, same_rd s1 hd, hm, lk2.2, hok.2, he, dl.2, fun H2 s2 => ?_⟩
          have := k H2 (s1.trans s2)
          rw [hp, hc, Bool.true_and] at this
          exact this
        · have := k H1 s1
          rw [hp, Bool.eq_false_iff.mpr hc, Bool.false_and] at this
          exact this
      | or g g2 =>
        obtain ⟨sa, y0, y1, y2, rfl, hq, h0, h1, h2⟩ := tup3_inv (show DatAt K H x (.tup [.str "or", g.dt, g2.dt]) from hx)
        have e0 := isStr h0
        subst e0
        have lk2 : kvs.length + g.deep ≤ 200 ∧ kvs.length + g2.deep ≤ 200 := by simp only [Say.deep] at hlk; omega
        have dl : g.deep < n ∧ g2.deep < n := by simp only [Say.deep] at hdp; omega
        refine ⟨_, rfl, sa, _, _, _, rfl, rfl, hq, atI_nat (j := 0) (v := .str "or") rfl, ?_⟩
        refine ⟨_, rfl, rfl, _, rfl, ifWn (by decide +kernel) ?_⟩
        refine ⟨_, rfl, rfl, _, rfl, ifWn (by decide +kernel) ?_⟩
        refine ⟨_, rfl, rfl, _, rfl, ifWn (by decide +kernel) ?_⟩
        refine ⟨_, rfl, rfl, _, rfl, ifWn (by decide +kernel) ?_⟩
        refine ⟨_, rfl, rfl, _, rfl, ifWn (by decide +kernel) ?_⟩
        refine ⟨_, rfl, rfl, _, rfl, ifWn (by decide +kernel) ?_⟩
        refine ⟨_, rfl, rfl, _, rfl, ifW rfl ?_⟩
        refine ⟨_, rfl, _, rfl, sa, _, _, _, rfl, rfl, hq, atI_nat (j := 1) (v := y1) rfl, _, rfl, _, rfl, wa, d, y1, g, kvs, sg, ss, rs, most, rfl, hw, h1, hd, hm, lk2.1, hok.1, he, dl.1, fun H1 s1 => ⟨_, rfl, ?_⟩⟩
        refine ite2 (fun hc => ?_) (fun hc => ?_)
        · have := k H1 s1
          rw [hp, hc, Bool.true_or] at this
          exact this
        · refine ⟨_, rfl, _, rfl, sa, _, _, _, rfl, rfl, s1.seqT hq, atI_nat (j := 2) (v := y2) rfl, _, rfl, _, rfl, wa, d, y2, g2, kvs, sg, ss, rs, most, rfl, hw.keep s1.kt (fun _ _ h => same_rd s1 h), dat_stay s1.kts _ _ g2.noL h2, same_rd s1 hd, hm, lk2.2, hok.2, he, dl.2, fun H2 s2 => ?_⟩
          have := k H2 (s1.trans s2)
          rw [hp, Bool.eq_false_iff.mpr hc, Bool.false_or] at this
          exact this
      | some m g =>
        obtain ⟨sa, y0, y1, y2, rfl, hq, h0, h1, h2⟩ := tup3_inv (show DatAt K H x (.tup [.str "some", .str m, g.dt]) from hx)
        have e0 := isStr h0
        have e1 := isStr h1
        subst e0 e1
        have gl : kvs.length + 1 + g.deep ≤ 200 := by simp only [Say.deep] at hlk; omega
        have gd : g.deep < n := by simp only [Say.deep] at hdp; omega
        refine ⟨_, rfl, sa, _, _, _, rfl, rfl, hq, atI_nat (j := 0) (v := .str "some") rfl, ?_⟩
        refine ⟨_, rfl, rfl, _, rfl, ifWn (by decide +kernel) ?_⟩
        refine ⟨_, rfl, rfl, _, rfl, ifWn (by decide +kernel) ?_⟩
        refine ⟨_, rfl, rfl, _, rfl, ifWn (by decide +kernel) ?_⟩
        refine ⟨_, rfl, rfl, _, rfl, ifWn (by decide +kernel) ?_⟩
        refine ⟨_, rfl, rfl, _, rfl, ifWn (by decide +kernel) ?_⟩
        refine ⟨_, rfl, rfl, _, rfl, ifWn (by decide +kernel) ?_⟩
        refine ⟨_, rfl, rfl, _, rfl, ifWn (by decide +kernel) ?_⟩
        refine ⟨by decide, fun L hL => ?_⟩
        refine ⟨_, rfl, (most : Int), rfl, by omega, by omega, for_range (n := (most : Int).toNat) (fun i σ H' => ∃ v7 v8 : Option V, σ = [some (.ref wa), some (.ref sa), some (.ref d), some (.int (most : Nat)), some (.str "some"), none, some (.ref L), v7, v8] ∧ Same H H' ∧ H' L = some (.lst (((List.range i).map fun j => hp sg most g (putK kvs (Sum.inr m) (.int ((j : Nat) : Int)))).map V.bl)))
          ⟨none, none, rfl, Same.new hL, upd_same⟩ ?_ ?_⟩
        · rintro i σ H1 hi ⟨v7, v8, rfl, s1, eL⟩
          rw [Int.toNat_natCast] at hi
          rw [Int.zero_add]
          refine ⟨_, rfl, d, kvs, rfl, same_rd s1 hd, fun B hB => ?_⟩
          have sB := Same.new (o := .dK kvs) hB
          refine ⟨_, rfl, _, rfl, _, rfl, sa, _, _, _, rfl, rfl, (s1.trans sB).seqT hq, atI_nat (j := 1) (v := .str m) rfl, B, _, rfl, DPut.k (k := Sum.inr m) upd_same (Nat.lt_of_le_of_lt (show kvs.length ≤ 200 by omega) (by decide)), ?_⟩
          have sC : Same H1 (upd (upd H1 B (.dK kvs)) B (.dK (putK kvs (Sum.inr m) (.int ((i : Nat) : Int))))) := sB.kbn hB KB.write
          have eB : (upd (upd H1 B (.dK kvs)) B (.dK (putK kvs (Sum.inr m) (.int ((i : Nat) : Int))))) B = some (.dK (putK kvs (Sum.inr m) (.int ((i : Nat) : Int)))) := upd_same
          generalize upd (upd H1 B (.dK kvs)) B (.dK (putK kvs (Sum.inr m) (.int ((i : Nat) : Int)))) = H2 at sC eB ⊢
          have s2 := s1.trans sC
          have eL2 := sC _ _ eL
          have lp := length_putK kvs (Sum.inr m) (.int ((i : Nat) : Int))
          refine ⟨_, rfl, .inl ⟨rfl, _, .of eL2⟩, _, rfl, _, rfl, sa, _, _, _, rfl, rfl, s2.seqT hq, atI_nat (j := 2) (v := y2) rfl, _, rfl, _, rfl, wa, B, y2, g, putK kvs (Sum.inr m) (.int ((i : Nat) : Int)), sg, ss, rs, most, rfl, hw.keep s2.kt (fun _ _ h => same_rd s2 h), dat_stay s2.kts _ _ g.noL h2, .inl eB, hm, by omega, hok.2, he.put m i (Nat.lt_of_lt_of_le (show i < 2 ^ 10 by omega) (Nat.pow_le_pow_right (by decide) (by decide))), gd, fun H3 s3 => ?_⟩
          have eL3 := s3 _ _ eL2
          refine ⟨L, _, _, rfl, rfl, eL3, Nat.lt_of_le_of_lt (show _ ≤ 1000 by simp; omega) (by decide), _, _, rfl, (s2.trans s3).kbn hL KB.write, ?_⟩
          rw [upd_same, List.range_succ, List.map_append, List.map_append]; rfl
        · rintro σ H1 ⟨v7, v8, rfl, s1, eL⟩
          rw [Int.toNat_natCast] at eL
          refine ⟨_, rfl, L, _, rfl, .of eL, _, rfl, L, _, rfl, .of eL, by show 2 ≤ sizeLine; decide, fun O hO => ?_⟩
          have sO := Same.new (o := .lst [.bl (((List.range most).map fun j => hp sg most g (putK kvs (Sum.inr m) (.int ((j : Nat) : Int)))).all id), .bl (((List.range most).map fun j => hp sg most g (putK kvs (Sum.inr m) (.int ((j : Nat) : Int)))).any id)]) hO
          refine ⟨_, rfl, rfl, .inr ⟨_, rfl, O, _, _, .bl (((List.range most).map fun j => hp sg most g (putK kvs (Sum.inr m) (.int ((j : Nat) : Int)))).any id), rfl, rfl, .of upd_same, ?_, ?_⟩⟩
          · rw [show decide (V.str "some" = V.str "some") = true by simp <;> decide +kernel]
            exact atI_nat (j := 1) rfl
          · have e : hp sg most (.some m g) kvs = ((List.range most).map fun j => hp sg most g (putK kvs (Sum.inr m) (.int ((j : Nat) : Int)))).any id := by rw [hp, List.any_map]; rfl
            have := k _ (s1.trans sO)
            rw [e] at this
            exact this
      | each m g =>
        obtain ⟨sa, y0, y1, y2, rfl, hq, h0, h1, h2⟩ := tup3_inv (show DatAt K H x (.tup [.str "each", .str m, g.dt]) from hx)
        have e0 := isStr h0
        have e1 := isStr h1
        subst e0 e1
        have gl : kvs.length + 1 + g.deep ≤ 200 := by simp only [Say.deep] at hlk; omega
        have gd : g.deep < n := by simp only [Say.deep] at hdp; omega
        refine ⟨_, rfl, sa, _, _, _, rfl, rfl, hq, atI_nat (j := 0) (v := .str "each") rfl, ?_⟩
        refine ⟨_, rfl, rfl, _, rfl, ifWn (by decide +kernel) ?_⟩
        refine ⟨_, rfl, rfl, _, rfl, ifWn (by decide +kernel) ?_⟩
        refine ⟨_, rfl, rfl, _, rfl, ifWn (by decide +kernel) ?_⟩
        refine ⟨_, rfl, rfl, _, rfl, ifWn (by decide +kernel) ?_⟩
        refine ⟨_, rfl, rfl, _, rfl, ifWn (by decide +kernel) ?_⟩
        refine ⟨_, rfl, rfl, _, rfl, ifWn (by decide +kernel) ?_⟩
        refine ⟨_, rfl, rfl, _, rfl, ifWn (by decide +kernel) ?_⟩
        refine ⟨by decide, fun L hL => ?_⟩
        refine ⟨_, rfl, (most : Int), rfl, by omega, by omega, for_range (n := (most : Int).toNat) (fun i σ H' => ∃ v7 v8 : Option V, σ = [some (.ref wa), some (.ref sa), some (.ref d), some (.int (most : Nat)), some (.str "each"), none, some (.ref L), v7, v8] ∧ Same H H' ∧ H' L = some (.lst (((List.range i).map fun j => hp sg most g (putK kvs (Sum.inr m) (.int ((j : Nat) : Int)))).map V.bl)))
          ⟨none, none, rfl, Same.new hL, upd_same⟩ ?_ ?_⟩
        · rintro i σ H1 hi ⟨v7, v8, rfl, s1, eL⟩
          rw [Int.toNat_natCast] at hi
          rw [Int.zero_add]
          refine ⟨_, rfl, d, kvs, rfl, same_rd s1 hd, fun B hB => ?_⟩
          have sB := Same.new (o := .dK kvs) hB
          refine ⟨_, rfl, _, rfl, _, rfl, sa, _, _, _, rfl, rfl, (s1.trans sB).seqT hq, atI_nat (j := 1) (v := .str m) rfl, B, _, rfl, DPut.k (k := Sum.inr m) upd_same (Nat.lt_of_le_of_lt (show kvs.length ≤ 200 by omega) (by decide)), ?_⟩
          have sC : Same H1 (upd (upd H1 B (.dK kvs)) B (.dK (putK kvs (Sum.inr m) (.int ((i : Nat) : Int))))) := sB.kbn hB KB.write
          have eB : (upd (upd H1 B (.dK kvs)) B (.dK (putK kvs (Sum.inr m) (.int ((i : Nat) : Int))))) B = some (.dK (putK kvs (Sum.inr m) (.int ((i : Nat) : Int)))) := upd_same
          generalize upd (upd H1 B (.dK kvs)) B (.dK (putK kvs (Sum.inr m) (.int ((i : Nat) : Int)))) = H2 at sC eB ⊢
          have s2 := s1.trans sC
          have eL2 := sC _ _ eL
          have lp := length_putK kvs (Sum.inr m) (.int ((i : Nat) : Int))
          refine ⟨_, rfl, .inl ⟨rfl, _, .of eL2⟩, _, rfl, _, rfl, sa, _, _, _, rfl, rfl, s2.seqT hq, atI_nat (j := 2) (v := y2) rfl, _, rfl, _, rfl, wa, B, y2, g, putK kvs (Sum.inr m) (.int ((i : Nat) : Int)), sg, ss, rs, most, rfl, hw.keep s2.kt (fun _ _ h => same_rd s2 h), dat_stay s2.kts _ _ g.noL h2, .inl eB, hm, by omega, hok.2, he.put m i (Nat.lt_of_lt_of_le (show i < 2 ^ 10 by omega) (Nat.pow_le_pow_right (by decide) (by decide))), gd, fun H3 s3 => ?_⟩
          have eL3 := s3 _ _ eL2
          refine ⟨L, _, _, rfl, rfl, eL3, Nat.lt_of_le_of_lt (show _ ≤ 1000 by simp; omega) (by decide), _, _, rfl, (s2.trans s3).kbn hL KB.write, ?_⟩
          rw [upd_same, List.range_succ, List.map_append, List.map_append]; rfl
        · rintro σ H1 ⟨v7, v8, rfl, s1, eL⟩
          rw [Int.toNat_natCast] at eL
          refine ⟨_, rfl, L, _, rfl, .of eL, _, rfl, L, _, rfl, .of eL, by show 2 ≤ sizeLine; decide, fun O hO => ?_⟩
          have sO := Same.new (o := .lst [.bl (((List.range most).map fun j => hp sg most g (putK kvs (Sum.inr m) (.int ((j : Nat) : Int)))).all id), .bl (((List.range most).map fun j => hp sg most g (putK kvs (Sum.inr m) (.int ((j : Nat) : Int)))).any id)]) hO
          refine ⟨_, rfl, rfl, .inr ⟨_, rfl, O, _, _, .bl (((List.range most).map fun j => hp sg most g (putK kvs (Sum.inr m) (.int ((j : Nat) : Int)))).all id), rfl, rfl, .of upd_same, ?_, ?_⟩⟩
          · rw [show decide (V.str "each" = V.str "some") = false by simp <;> decide +kernel]
            exact atI_nat (j := 0) rfl
          · have e : hp sg most (.each m g) kvs = ((List.range most).map fun j => hp sg most g (putK kvs (Sum.inr m) (.int ((j : Nat) : Int)))).all id := by rw [hp, List.all_map]; rfl
            have := k _ (s1.trans sO)
            rw [e] at this
            exact this
end
end My
set_option Elab.async false
set_option linter.all false
set_option maxRecDepth 100000
set_option maxHeartbeats 4000000
namespace My
open PySem L2
def spLaw (K : PySem.W.Frag) : Sp := fun vs H Q _ => ∃ (a : Addr) (ns : List Int), vs = [.ref a] ∧ SqL K H a (ns.map V.int) ∧ ns.length ≤ 63 ∧ ∀ H', Q (.bl true) H'
def WD (H : Hp) (wa D : Addr) (b : Nat) (kvs : Kvs) (sg : Str → Nat → Nat) (rs : List Str) : Prop := H wa = some (.tup [.int b, .ref D]) ∧ 2 ≤ b ∧ b ≤ 4 ∧
  ∀ x ∈ rs, ∃ (r : Addr) (gs : List Nat) (mv : List (List Nat)), valV kvs (Sum.inr x) = some (.ref r) ∧ RowAt H r gs mv ∧ Right b gs mv ∧ 0 < gs.length ∧ ∀ n : Nat, sg x n = gs.getD (go mv 0 (dgN b n)) 0
theorem WD.keep {H H' : Hp} {wa D : Addr} {b : Nat} {kvs : Kvs} {sg : Str → Nat → Nat} {rs : List Str} (h : WD H wa D b kvs sg rs) (u : KTu H H') : WD H' wa D b kvs sg rs := by
  obtain ⟨h1, b2, b4, h3⟩ := h
  refine ⟨u _ _ h1, b2, b4, fun x hx => ?_⟩
  obtain ⟨r, gs, mv, e1, e2, e3⟩ := h3 x hx
  exact ⟨r, gs, mv, e1, e2.keep u, e3⟩
theorem WD.at {H : Hp} {wa D : Addr} {b : Nat} {kvs : Kvs} {sg : Str → Nat → Nat} {rs : List Str} (h : WD H wa D b kvs sg rs) (e : H D = some (.dK kvs)) : WAt H wa sg rs :=
  ⟨b, D, kvs, h.1, .inl e, h.2.1, h.2.2.1, h.2.2.2⟩
theorem world_of {H : Hp} {wa D : Addr} {b : Nat} {kvs : Kvs} {ks : List Str} (e : H wa = some (.tup [.int b, .ref D])) (g : Ks H b kvs ks) (b2 : 2 ≤ b) (b4 : b ≤ 4) : ∃ sg, WD H wa D b kvs sg ks := by
  obtain ⟨sg, hs⟩ := Classical.axiomOfChoice (r := fun (x : Str) (q : Nat → Nat) => x ∈ ks → ∃ (r : Addr) (gs : List Nat) (mv : List (List Nat)), valV kvs (Sum.inr x) = some (.ref r) ∧ RowAt H r gs mv ∧ Right b gs mv ∧ 0 < gs.length ∧ ∀ n : Nat, q n = gs.getD (go mv 0 (dgN b n)) 0) fun x => by
    by_cases hx : x ∈ ks
    · obtain ⟨r, gs, mv, h1, h2, h3, h4⟩ := g.good x hx
      exact ⟨fun n => gs.getD (go mv 0 (dgN b n)) 0, fun _ => ⟨r, gs, mv, h1, h2, h3, h4, fun _ => rfl⟩⟩
    · exact ⟨fun _ => 0, fun z => absurd z hx⟩
  exact ⟨sg, e, b2, b4, hs⟩
theorem ktu_dk {H : Hp} {d : Addr} {kvs : Kvs} {o : HO} (h : H d = some (.dK kvs)) : KTu H (upd H d o) := fun b ys e => by
  rw [upd_ne (ne_of e h (fun z => nomatch z))]; exact e
structure Fa (H : Hp) (d N V0 D wa : Addr) (bb : Nat) (kv kvw : Kvs) (sg : Str → Nat → Nat) (ss ks : List Str) : Prop where
  dk : Deck2 H d
  n : H N = some (.lst (ss.map V.str))
  v : H V0 = some (.dK kv)
  c : H D = some (.dK kvw)
  wd : WD H wa D bb kvw sg ks
section
variable {H H' : Hp} {d N V0 D wa : Addr} {bb : Nat} {kv kvw : Kvs} {sg : Str → Nat → Nat} {ss ks : List Str}
theorem Fa.same (h : Fa H d N V0 D wa bb kv kvw sg ss ks) (s : Same H H') : Fa H' d N V0 D wa bb kv kvw sg ss ks := ⟨h.dk.same s, s _ _ h.n, s _ _ h.v, s _ _ h.c, h.wd.keep s.kt⟩
theorem Fa.kb (h : Fa H d N V0 D wa bb kv kvw sg ss ks) (n1 : N ≠ d) (n2 : V0 ≠ d) (n3 : D ≠ d) (k : KB d H H') (dk : Deck2 H' d) : Fa H' d N V0 D wa bb kv kvw sg ss ks :=
  ⟨dk, k _ _ h.n n1, k _ _ h.v n2, k _ _ h.c n3, h.wd.keep (let ⟨_, e⟩ := h.dk.is; KTu.kb e k)⟩
end
section
variable {P : Program} {w : World} {K : PySem.W.Frag} {mg : Str → Option Value} {base : Heap}
theorem sc_law : FnScope ["_law_script", "_law_deck_here", "_law_world_here", "_law_names_here", "_law_values", "_law_name", "_law_saying_here", "_law_one", "_law_pair", "_law_most", "_law_due", "_law_handed", "_law_found", "_law_some"] ["_law_script"] (defScope s_law) := ⟨rfl, rfl, rfl, by decide +kernel, rfl, by decide +kernel, by decide +kernel⟩
theorem ok_law {a : Adr} {b : PAdr} {c : LAdr} (T : Txt K mg a) (U : TopsP K w.params mg b) (Y : TopsL K w.params mg c) : FnOk P w K mg base CX0 10 a.f_law a.fd_law ["_law_script"] (spLaw K) := by
  have G_l_next : FnOk P w K mg base CX0 1 a.f_l_next a.fd_l_next ["_law_deck_here", "_law_many"] spNext2 := ok_l_next T
  have G_l_deck : FnOk P w K mg base CX0 1 a.f_l_deck a.fd_l_deck ["_law_script", "_law_many"] (spDeck2 K) := ok_l_deck T
  have G_l_names : FnOk P w K mg base CX0 2 a.f_l_names a.fd_l_names ["_law_deck_here", "_law_many", "_law_great"] spNames := ok_l_names T
  have G_l_world : FnOk P w K mg base CX0 3 a.f_l_world a.fd_l_world ["_law_deck_here"] spWorld := ok_l_world T
  have G_l_plain : FnOk P w K mg base CX0 3 a.f_l_plain a.fd_l_plain ["_law_deck_here", "_law_names_here", "_law_rows"] (spPlain K) := ok_l_plain T
  have G_l_saying : FnOk P w K mg base CX0 9 a.f_l_saying a.fd_l_saying ["_law_deck_here", "_law_names_here", "_law_rows", "_law_box", "_law_deep"] (spSaying K 5) := ok_l_saying T 5
  have G_l_round : FnOk P w K mg base CX0 7 a.f_l_round a.fd_l_round ["_law_saying_here"] (spRound K 6) := ok_l_round T 6
  have G_l_holds : FnOk P w K mg base CX0 8 a.f_l_holds a.fd_l_holds ["_law_world_here", "_law_saying_here", "_law_values", "_law_most"] (spLH K 6) := ok_l_holds T 6
  have G_holds_plainly : FnOk P w K mg base CX0 4 a.f_holds_plainly a.fd_holds_plainly ["world", "saying", "values", "most"] (spHolds K) := ok_holds_plainly T U Y
  refine T.F_law.ok sc_law (fun vs H Q E h => ?_) (fun cdv A outer s H vs Q E hr h => ?_)
  · obtain ⟨sa, ns, rfl, _⟩ := h
    rfl
  · obtain ⟨sa, ns, rfl, hS, hns, k⟩ := h
    have hr_l_next : Room 1 _ := hr.mono (by decide)
    have hr_l_deck : Room 1 _ := hr.mono (by decide)
    have hr_l_names : Room 2 _ := hr.mono (by decide)
    have hr_l_world : Room 3 _ := hr.mono (by decide)
    have hr_l_plain : Room 3 _ := hr.mono (by decide)
    have hr_holds_plainly : Room 4 _ := hr.mono (by decide)
    have hr_l_round : Room 7 _ := hr.mono (by decide)
    have hr_l_holds : Room 8 _ := hr.mono (by decide)
    have hr_l_saying : Room 9 _ := hr
    refine ⟨_, (pss_cons (ps_set (i := 1) sc_law.nd rfl (Or.inl rfl) (pe_call G_l_deck hr_l_deck rfl T.m_l_deck T.k_l_deck T.b_l_deck .nil pass0 (pa_cons (pv 0) (pa_cons pe_int pa_nil))))
    (pss_cons (ps_set (i := 2) sc_law.nd rfl (Or.inl rfl) (pe_call G_l_world hr_l_world rfl T.m_l_world T.k_l_world T.b_l_world .nil pass0 (pa_cons (pv 1) pa_nil)))
    (pss_cons (ps_set (i := 3) sc_law.nd rfl (Or.inl rfl) (pe_call G_l_names hr_l_names rfl T.m_l_names T.k_l_names T.b_l_names .nil pass0 (pa_cons (pv 1) (pa_cons pe_int (pa_cons pe_bl pa_nil)))))
    (pss_cons (ps_set (i := 4) sc_law.nd rfl (Or.inl rfl) pe_dnewK)
    (pss_cons (ps_for PassesOwn.never rfl (pi_list (pv 3)) (pg_name (i := 5) sc_law.nd rfl (Or.inl rfl))
      (pss_one (ps_dput (hu_of hr) (pv 4) (pv 5) (pe_call G_l_next hr_l_next rfl T.m_l_next T.k_l_next T.b_l_next .nil pass0 (pa_cons (pv 1) (pa_cons pe_int pa_nil))) rfl)))
    (pss_cons (ps_set (i := 6) sc_law.nd rfl (Or.inl rfl) (pe_call G_l_saying hr_l_saying rfl T.m_l_saying T.k_l_saying T.b_l_saying .nil pass0 (pa_cons (pv 1) (pa_cons (pv 3) (pa_cons (pe_callTy (call_listD rfl) (by rfl) T.z_list bt_list (pa_cons (pe_ix (ix_tupK K) (pv 2) pe_int (fun _ _ => rfl)) pa_nil)) (pa_cons (pe_lst (pa_cons pe_int pa_nil)) (pa_cons (pe_op op_add pe_int (pe_call G_l_next hr_l_next rfl T.m_l_next T.k_l_next T.b_l_next .nil pass0 (pa_cons (pv 1) (pa_cons pe_int pa_nil)))) pa_nil)))))))
    (pss_cons (ps_set (i := 5) sc_law.nd rfl (Or.inl rfl) (pe_ix (ix_listK K) (pv 3) (pe_call G_l_next hr_l_next rfl T.m_l_next T.k_l_next T.b_l_next .nil pass0 (pa_cons (pv 1) (pa_cons pe_int pa_nil))) (fun _ _ => rfl)))
    (pss_cons (ps_if (pt_cmpR op_eq (pe_call G_l_next hr_l_next rfl T.m_l_next T.k_l_next T.b_l_next .nil pass0 (pa_cons (pv 1) (pa_cons pe_int pa_nil))) pe_int (nomark _))
      (pss_cons (ps_set (i := 7) sc_law.nd rfl (Or.inl rfl) (pe_tup (pa_cons (pe_ix (ix_listK K) (pe_lst (pa_cons pe_str (pa_cons pe_str pa_nil))) (pe_call G_l_next hr_l_next rfl T.m_l_next T.k_l_next T.b_l_next .nil pass0 (pa_cons (pv 1) (pa_cons pe_int pa_nil))) (fun _ _ => rfl)) (pa_cons (pv 5) (pa_cons (pe_call G_l_plain hr_l_plain rfl T.m_l_plain T.k_l_plain T.b_l_plain .nil pass0 (pa_cons (pv 1) (pa_cons (pv 3) (pa_cons (pe_callTy (call_listD rfl) (by rfl) T.z_list bt_list (pa_cons (pe_ix (ix_tupK K) (pv 2) pe_int (fun _ _ => rfl)) pa_nil)) pa_nil)))) pa_nil)))))
      (pss_cons (ps_set (i := 8) sc_law.nd rfl (Or.inl rfl) (pe_tup (pa_cons (pv 7) (pa_cons (pe_call G_l_plain hr_l_plain rfl T.m_l_plain T.k_l_plain T.b_l_plain .nil pass0 (pa_cons (pv 1) (pa_cons (pe_lst (pa_cons (pv 5) pa_nil)) (pa_cons (pe_callTy (call_listD rfl) (by rfl) T.z_list bt_list (pa_cons (pe_ix (ix_tupK K) (pv 2) pe_int (fun _ _ => rfl)) pa_nil)) pa_nil)))) pa_nil))))
      (pss_one (ps_set (i := 6) sc_law.nd rfl (Or.inl rfl) (pe_op (op_catNK K) (pe_tup (pa_cons (pe_ix (ix_listK K) (pe_lst (pa_cons pe_str (pa_cons pe_str pa_nil))) (pe_call G_l_next hr_l_next rfl T.m_l_next T.k_l_next T.b_l_next .nil pass0 (pa_cons (pv 1) (pa_cons pe_int pa_nil))) (fun _ _ => rfl)) pa_nil)) (pe_ix (ix_listK K) (pe_lst (pa_cons (pv 8) (pa_cons (pe_revT K (pv 8) po_none po_none (po_some (pe_un un_neg pe_int))) pa_nil))) (pe_call G_l_next hr_l_next rfl T.m_l_next T.k_l_next T.b_l_next .nil pass0 (pa_cons (pv 1) (pa_cons pe_int pa_nil))) (fun _ _ => rfl)))))))
      pss_nil)
    (pss_cons (ps_if (PW.pt (pw_and (pt_cmpR op_lt (pe_call G_l_round hr_l_round rfl T.m_l_round T.k_l_round T.b_l_round .nil pass0 (pa_cons (pv 6) pa_nil)) pe_int (nomark _)) (pw_and1 (pt_cmpR op_gt (pe_call G_l_next hr_l_next rfl T.m_l_next T.k_l_next T.b_l_next .nil pass0 (pa_cons (pv 1) (pa_cons pe_int pa_nil))) pe_int (nomark _)))))
      (pss_one (ps_set (i := 6) sc_law.nd rfl (Or.inl rfl) (pe_tup (pa_cons (pe_ix (ix_listK K) (pe_lst (pa_cons pe_str (pa_cons pe_str pa_nil))) (pe_call G_l_next hr_l_next rfl T.m_l_next T.k_l_next T.b_l_next .nil pass0 (pa_cons (pv 1) (pa_cons pe_int pa_nil))) (fun _ _ => rfl)) (pa_cons (pv 5) (pa_cons (pv 6) pa_nil))))))
      pss_nil)
    (pss_cons (ps_set (i := 9) sc_law.nd rfl (Or.inl rfl) (pe_call G_l_next hr_l_next rfl T.m_l_next T.k_l_next T.b_l_next .nil pass0 (pa_cons (pv 1) (pa_cons (pe_ix (ix_listK K) (pe_lst (pa_cons pe_int (pa_cons pe_int (pa_cons pe_int (pa_cons pe_int pa_nil))))) (pe_call G_l_round hr_l_round rfl T.m_l_round T.k_l_round T.b_l_round .nil pass0 (pa_cons (pv 6) pa_nil)) (fun _ _ => rfl)) pa_nil))))
    (pss_cons (ps_set (i := 10) sc_law.nd rfl (Or.inl rfl) (pe_call G_l_holds hr_l_holds rfl T.m_l_holds T.k_l_holds T.b_l_holds .nil pass0 (pa_cons (pv 2) (pa_cons (pv 6) (pa_cons (pv 4) (pa_cons (pv 9) pa_nil))))))
    (pss_cons (ps_set (i := 11) sc_law.nd rfl (Or.inl rfl) (pe_callTy call_dictK (by rfl) T.z_dict bt_dict (pa_cons (pv 4) pa_nil)))
    (pss_cons (ps_set (i := 12) sc_law.nd rfl (Or.inl rfl) (pe_call G_holds_plainly hr_holds_plainly rfl T.m_holds_plainly T.k_holds_plainly T.b_holds_plainly .nil pass0 (pa_cons (pv 2) (pa_cons (pv 6) (pa_cons (pv 11) (pa_cons (pv 9) pa_nil))))))
    (pss_cons (ps_if (PW.pt (pw_or (pt_not (pt_truth (pe_callB (call_isiK K) (by rfl) T.z_isinstance bt_isinstance (pa_cons (pv 12) (pa_cons (pe_bltn (v := .ty "bool") rfl T.z_bool bt_bool rfl) pa_nil))) (fun _ => rfl))) (pw_or (pt_cmpR op_ne (pv 12) (pv 10) (nomark _)) (pw_or1 (pt_cmpR (op_neDictI (Nat.lt_of_succ_lt (hu_of hr))) (pv 11) (pv 4) (nomark _))))))
      (pss_one (ps_ret pe_bl))
      pss_nil)
    (pss_cons (ps_if (pt_cmpR op_eq (pe_call G_l_round hr_l_round rfl T.m_l_round T.k_l_round T.b_l_round .nil pass0 (pa_cons (pv 6) pa_nil)) pe_int (nomark _))
      (pss_one (ps_ret pe_bl))
      pss_nil)
    (pss_cons (ps_set (i := 13) sc_law.nd rfl (Or.inl rfl) (pe_call G_holds_plainly hr_holds_plainly rfl T.m_holds_plainly T.k_holds_plainly T.b_holds_plainly .nil pass0 (pa_cons (pv 2) (pa_cons (pe_tup (pa_cons pe_str (pa_cons (pv 5) (pa_cons (pe_tup (pa_cons pe_str (pa_cons (pv 6) pa_nil))) pa_nil)))) (pa_cons (pv 4) (pa_cons pe_int pa_nil))))))
    (pss_one (ps_ret (pe_cmpR op_ne (pe_call G_holds_plainly hr_holds_plainly rfl T.m_holds_plainly T.k_holds_plainly T.b_holds_plainly .nil pass0 (pa_cons (pv 2) (pa_cons (pe_tup (pa_cons pe_str (pa_cons (pv 5) (pa_cons (pv 6) pa_nil)))) (pa_cons (pv 4) (pa_cons pe_int pa_nil))))) (pv 13) (nomark _)))))))))))))))))))), ?_⟩
    refine ⟨_, rfl, sa, ns, rfl, hS, hns, fun d H1 hd0 s1 d1 => ?_⟩
    refine ⟨_, rfl, d, rfl, d1, fun wa D bb kvw ks H2 k2 d2 eW eD kg b2 b4 lks hD0 => ?_⟩
    obtain ⟨sg, wd⟩ := world_of eW kg b2 b4
    have nDd : D ≠ d := (d1.ne hD0).symm
    refine ⟨_, rfl, d, 3, false, rfl, d2, by decide, fun N ss H3 hN0 k3 d3 eN ls nd => ?_⟩
    have wd3 := wd.keep (let ⟨_, e⟩ := d2.is; KTu.kb e k3)
    have eD3 := k3 _ _ eD nDd
    have nNd : N ≠ d := (d2.ne hN0).symm
    refine fun V0 hV => ?_
    have sV := Same.new (o := .dK []) hV
    have nVd : V0 ≠ d := (d3.ne hV).symm
    have nVN : V0 ≠ N := (ne_of_none eN hV).symm
    have nVD : V0 ≠ D := (ne_of_none eD3 hV).symm
    have fa0 : Fa (upd H3 V0 (.dK [])) d N V0 D wa bb [] kvw sg ss ks := ⟨d3.same sV, sV _ _ eN, upd_same, sV _ _ eD3, wd3.keep sV.kt⟩
    refine ⟨_, rfl, N, rfl, ⟨_, .of fa0.n⟩, for_list (xs := ss.map V.str) (fun i σ H' => ∃ (kv : Kvs) (v5 : Option V), σ = [some (.ref sa), some (.ref d), some (.ref wa), some (.ref N), some (.ref V0), v5, none, none, none, none, none, none, none, none] ∧ Fa H' d N V0 D wa bb kv kvw sg ss ks ∧ EnvOk (ss.take i) kv ∧ (∀ q ∈ kv, ∃ j, q.2 = V.int j) ∧ kv.length ≤ i)
      ⟨[], none, rfl, fa0, (fun x hx => by simp at hx), (fun q hq => by cases hq), Nat.le_refl _⟩ (fun i σ H' _ ⟨_, _, _, h, _⟩ => .of h.n) ?_ ?_⟩
    · rintro i x σ H4 hx ⟨kv, v5, rfl, fa, en, ki, lk⟩
      obtain ⟨z, rfl, ez⟩ := strItem hx
      have hi : i < ss.length := (List.getElem?_eq_some_iff.mp ez).1
      refine ⟨_, rfl, d, 20, rfl, fa.dk, by decide, fun r H5 r0 r1 k5 d5 => ?_⟩
      obtain ⟨rn, rfl⟩ : ∃ rn : Nat, r = (rn : Int) := ⟨r.toNat, by omega⟩
      have fa5 := fa.kb nNd nVd nDd k5 d5
      refine ⟨_, rfl, _, rfl, V0, _, rfl, DPut.k (k := Sum.inr z) fa5.v (Nat.lt_of_le_of_lt (show kv.length ≤ 10 by omega) (by decide)), ?_⟩
      have hrn : rn < 2 ^ 600 := Nat.lt_of_lt_of_le (show rn < 2 ^ 5 by omega) (Nat.pow_le_pow_right (by decide) (by decide))
      refine ⟨putK kv (Sum.inr z) (.int (rn : Nat)), _, rfl, ⟨fa5.dk.kb KB.write nVd.symm, by rw [upd_ne nVN.symm]; exact fa5.n, upd_same, by rw [upd_ne nVD.symm]; exact fa5.c, fa5.wd.keep (ktu_dk fa5.v)⟩, ?_, ints_put ki _ _, Nat.le_trans (length_putK _ _ _) (by omega)⟩
      intro x hx
      rw [take_snoc ez] at hx
      rw [valV_put]
      by_cases e : (Sum.inr x : Key) = Sum.inr z
      · rw [if_pos e]; exact ⟨rn, rfl, hrn⟩
      · rw [if_neg e]
        rcases List.mem_append.mp hx with hx | hx
        · exact en x hx
        · exact absurd (congrArg Sum.inr (List.mem_singleton.mp hx)) e
    rintro σ H4 ⟨kv, v5, rfl, fa, env, kints, lkv⟩
    rw [List.length_map] at env lkv
    rw [List.take_length] at env
    refine ⟨_, rfl, _, rfl, _, rfl, wa, _, _, _, rfl, rfl, .of fa.wd.1, atI_nat (j := 1) (v := .ref D) rfl, D, kvw, ks, rfl, fa.c, kg.keys, by omega, fun R hR => ⟨by show 1 ≤ sizeLine; decide, fun B hB => ?_⟩⟩
    have sR := Same.new (o := .lst (ks.map V.str)) hR
    have sB := Same.new (o := .lst [.int 7]) hB
    have sRB := sR.trans sB
    have fa12 := fa.same sRB
    have nBd : B ≠ d := ((fa.dk.same sR).ne hB).symm
    have nRd : R ≠ d := (fa.dk.ne hR).symm
    have nNB : N ≠ B := ne_of_none (sR _ _ fa.n) hB
    have nRB : R ≠ B := ne_of_none upd_same hB
    have nVB : V0 ≠ B := ne_of_none (sR _ _ fa.v) hB
    have nDB : D ≠ B := ne_of_none (sR _ _ fa.c) hB
    have eR12 := sB _ _ (upd_same (H := H4) (a := R) (o := .lst (ks.map V.str)))
    have eB12 := upd_same (H := upd H4 R (.lst (ks.map V.str))) (a := B) (o := .lst [.int 7])
    generalize upd (upd H4 R (.lst (ks.map V.str))) B (.lst [.int 7]) = H12 at fa12 eR12 eB12 ⊢
    refine ⟨_, rfl, d, 3, rfl, fa12.dk, by decide, fun dp H13 dp0 dp1 k13 d13 => ⟨_, _, rfl, rfl, ?_⟩⟩
    obtain ⟨de, hde, hde3⟩ : ∃ de : Nat, (1 : Int) + dp = (de : Int) ∧ de ≤ 3 := ⟨(1 + dp).toNat, by omega, by omega⟩
    have fa13 := fa12.kb nNd nVd nDd k13 d13
    have eR13 := k13 _ _ eR12 nRd
    have eB13 := k13 _ _ eB12 nBd
    refine ⟨d, N, R, B, ss, ks, 7, de, (by show [V.ref d, .ref N, .ref R, .ref B, .int (1 + dp)] = _; rw [hde]), fa13.dk, ⟨.of fa13.n, nNd, nNB, by omega, by omega⟩, ⟨.of eR13, nRd, nRB, by omega⟩, eB13, nBd, by omega, fun p f H14 bk' dt dq k14 d14 eB14 => ?_⟩
    have fa14 : Fa H14 d N V0 D wa bb kv kvw sg ss ks := ⟨d14, k14 _ _ fa13.n nNd nNB, k14 _ _ fa13.v nVd nVB, k14 _ _ fa13.c nDd nDB, fa13.wd.keep fun q xs e => by
      obtain ⟨_, ed⟩ := fa13.dk.is
      exact k14 _ _ e (ne_of e ed (fun z => nomatch z)) (ne_of e eB13 (fun z => nomatch z))⟩
    refine ⟨_, rfl, _, rfl, d, 3, rfl, fa14.dk, by decide, fun r H15 r0 r1 k15 d15 => ?_⟩
    obtain ⟨nm, hnm, nmm⟩ := pickS ss r r0 (by rw [ls]; exact r1)
    have fa15 := fa14.kb nNd nVd nDd k15 d15
    have dt15 := dat_stay (fa14.dk.kts k15) _ _ f.noL dt
    refine ⟨N, _, _, .str nm, rfl, rfl, .of fa15.n, hnm, ?_⟩
    dsimp only [gName]
    refine seq_rest (t := tIfS _ _ _) (u := tSeq _ _) (fun σ H' => ∃ (p : Addr) (f : Say) (v7 v8 : Option V), σ = [some (.ref sa), some (.ref d), some (.ref wa), some (.ref N), some (.ref V0), some (.str nm), some (.ref p), v7, v8, none, none, none, none, none] ∧ Fa H' d N V0 D wa bb kv kvw sg ss ks ∧ DatAt K H' (.ref p) f.dt ∧ f.Ok ss ks ∧ f.deep ≤ 3) ?_ (fun rest => ?_)
    · rintro σ H16 ⟨p, f, v7, v8, rfl, fa16, dt16, fok, fdp⟩
      have frd := round_deep f
      refine seq_rest (t := tIfS _ _ _) (u := tSeq _ _) (fun σ H' => ∃ (p : Addr) (f : Say), σ = [some (.ref sa), some (.ref d), some (.ref wa), some (.ref N), some (.ref V0), some (.str nm), some (.ref p), v7, v8, none, none, none, none, none] ∧ Fa H' d N V0 D wa bb kv kvw sg ss ks ∧ DatAt K H' (.ref p) f.dt ∧ f.Ok ss ks ∧ f.deep ≤ 4 ∧ f.round ≤ 3) ?_ (fun rest2 => ?_)
      · rintro σ H17 ⟨p, f, rfl, fa17, dt17, fok, fdp, frd⟩
        refine ⟨_, rfl, by show 4 ≤ sizeLine; decide, fun O hO => ?_⟩
        have sO := Same.new (o := .lst [.int 31, .int 31, .int 6, .int 5]) hO
        refine ⟨_, rfl, .ref p, f, rfl, dat_stay sO.kts _ _ f.noL dt17, by omega, fun H18 s18 => ?_⟩
        have fa18 := (fa17.same sO).same s18
        have dt18 := dat_stay (sO.trans s18).kts _ _ f.noL dt17
        obtain ⟨m, hm, hm0, hm1⟩ : ∃ m : Int, ([.int 31, .int 31, .int 6, .int 5] : List V)[f.round]? = some (.int m) ∧ 0 < m ∧ m ≤ 31 := by
          have : f.round = 0 ∨ f.round = 1 ∨ f.round = 2 ∨ f.round = 3 := by omega
          rcases this with e | e | e | e <;> rw [e]
          · exact ⟨31, rfl, by decide, by decide⟩
          · exact ⟨31, rfl, by decide, by decide⟩
          · exact ⟨6, rfl, by decide, by decide⟩
          · exact ⟨5, rfl, by decide, by decide⟩
        refine ⟨O, _, _, .int m, rfl, rfl, .of (s18 _ _ upd_same), atI_nat hm, d, m, rfl, fa18.dk, hm0, fun mo H19 mo0 mo1 k19 d19 => ?_⟩
        obtain ⟨most, rfl⟩ : ∃ mn : Nat, mo = (mn : Int) := ⟨mo.toNat, by omega⟩
        have fa19 := fa18.kb nNd nVd nDd k19 d19
        have dt19 := dat_stay (fa18.dk.kts k19) _ _ f.noL dt18
        refine ⟨_, rfl, _, rfl, _, rfl, _, rfl, wa, V0, .ref p, f, kv, sg, ss, ks, most, rfl, fa19.wd.at fa19.c, dt19, .inl fa19.v, by omega, by omega, fok, env, by omega, fun H20 s20 => ?_⟩
        have fa20 := fa19.same s20
        have dt20 := dat_stay s20.kts _ _ f.noL dt19
        refine ⟨_, rfl, V0, kv, rfl, .inl fa20.v, fun B2 hB2 => ?_⟩
        have s21 := Same.new (o := .dK kv) hB2
        have fa21 := fa20.same s21
        have dt21 := dat_stay s21.kts _ _ f.noL dt20
        have eB2 : (upd H20 B2 (.dK kv)) B2 = some (.dK kv) := upd_same
        generalize upd H20 B2 (.dK kv) = H21 at fa21 dt21 eB2 ⊢
        refine ⟨_, rfl, _, rfl, _, rfl, _, rfl, wa, B2, .ref p, f, kv, sg, ss, ks, most, rfl, fa21.wd.at fa21.c, dt21, .inl eB2, fok, env, by omega, by omega, by omega, fun H22 s22 => ?_⟩
        have fa22 := fa21.same s22
        have dt22 := dat_stay s22.kts _ _ f.noL dt21
        refine ⟨_, rfl, V.bl (hp sg most f kv), _, "bool", true, rfl, TyOf.bl _, kit_bb, true, rfl, iteF ?_⟩
        refine ⟨_, rfl, _, rfl, rfl, _, rfl, ?_⟩
        rw [show (!decide (V.bl (hp sg most f kv) = V.bl (hp sg most f kv))) = false by simp]
        refine iteF ⟨_, rfl, _, rfl, B2, V0, kv, rfl, rfl, .inl (s22 _ _ eB2), .inl fa22.v, kints, false, rfl, iteF ?_⟩
        refine ⟨_, rfl, .ref p, f, rfl, dt22, by omega, fun H23 s23 => ⟨rfl, _, rfl, ?_⟩⟩
        refine ite2 (fun _ => k H23) (fun _ => ?_)
        have fa23 := fa22.same s23
        have dt23 := dat_stay s23.kts _ _ f.noL dt22
        refine ⟨_, rfl, _, rfl, _, rfl, by show 2 ≤ sizeLine; decide, fun q hq => ⟨by show 3 ≤ sizeLine; decide, fun q2 hq2 => ?_⟩⟩
        have sq := Same.new (o := .tup [.str "not", .ref p]) hq
        have sq2 := Same.new (o := .tup [.str "some", .str nm, .ref q]) hq2
        have dtq : DatAt K (upd (upd H23 q (.tup [.str "not", .ref p])) q2 (.tup [.str "some", .str nm, .ref q])) (.ref q2) (Say.dt (.some nm (.no f))) :=
          dat_tup (.of upd_same) (dats_cons dat_str (dats_cons dat_str (dats_cons (dat_tup (sq2.seqT (.of upd_same)) (dats_cons dat_str (dats_cons (dat_stay (sq.trans sq2).kts _ _ f.noL dt23) dats_nil))) dats_nil)))
        have fa24 := (fa23.same sq).same sq2
        have dt24 := dat_stay (sq.trans sq2).kts _ _ f.noL dt23
        generalize upd (upd H23 q (.tup [.str "not", .ref p])) q2 (.tup [.str "some", .str nm, .ref q]) = H24 at dtq fa24 dt24 ⊢
        refine ⟨_, rfl, wa, V0, .ref q2, .some nm (.no f), kv, sg, ss, ks, 2, rfl, fa24.wd.at fa24.c, dtq, .inl fa24.v, ⟨nmm, fok⟩, env, by decide, by simp only [Say.deep]; omega, by omega, fun H25 s25 => ?_⟩
        have fa25 := fa24.same s25
        have dt25 := dat_stay s25.kts _ _ f.noL dt24
        refine ⟨_, rfl, _, rfl, _, rfl, by show 3 ≤ sizeLine; decide, fun q3 hq3 => ?_⟩
        have sq3 := Same.new (o := .tup [.str "each", .str nm, .ref p]) hq3
        refine ⟨_, rfl, wa, V0, .ref q3, .each nm f, kv, sg, ss, ks, 2, rfl, (fa25.same sq3).wd.at (fa25.same sq3).c, dat_tup (.of upd_same) (dats_cons dat_str (dats_cons dat_str (dats_cons (dat_stay sq3.kts _ _ f.noL dt25) dats_nil))), .inl (fa25.same sq3).v, ⟨nmm, fok⟩, env, by decide, by simp only [Say.deep]; omega, by omega, fun H26 s26 => ⟨_, rfl, rfl, ?_⟩⟩
        have ec : (!decide (V.bl (hp sg 2 (.each nm f) kv) = V.bl (hp sg 2 (.some nm (.no f)) kv))) = true := by
          have e1 : hp sg 2 (.each nm f) kv = !hp sg 2 (.some nm (.no f)) kv := by
            rw [hp, hp, List.all_eq_not_any_not]
            simp only [hp]
          rw [e1]
          cases hp sg 2 (.some nm (.no f)) kv <;> rfl
        rw [ec]
        exact k H26
      ·
        refine ⟨_, rfl, .ref p, f, rfl, dt16, by omega, fun H17 s17 => ⟨_, _, rfl, rfl, _, rfl, ?_⟩⟩
        have fa17 := fa16.same s17
        have dt17 := dat_stay s17.kts _ _ f.noL dt16
        refine ite2 (fun hr3 => ?_) (fun hr3 => iteF (rest2 _ _ ⟨p, f, rfl, fa17, dt17, fok, by omega, by omega⟩))
        have hr3' : f.round < 3 := by have := of_decide_eq_true hr3; omega
        refine ⟨_, rfl, d, 3, rfl, fa17.dk, by decide, fun r H18 r0 r1 k18 d18 => ⟨_, _, rfl, rfl, _, rfl, ?_⟩⟩
        have fa18 := fa17.kb nNd nVd nDd k18 d18
        have dt18 := dat_stay (fa17.dk.kts k18) _ _ f.noL dt17
        refine ite2 (fun _ => ?_) (fun _ => rest2 _ _ ⟨p, f, rfl, fa18, dt18, fok, by omega, by omega⟩)
        refine ⟨by show 2 ≤ sizeLine; decide, fun O hO => ?_⟩
        have sO := Same.new (o := .lst [.str "some", .str "each"]) hO
        have fa19 := fa18.same sO
        have nOd : O ≠ d := (fa18.dk.ne hO).symm
        refine ⟨_, rfl, d, 2, rfl, fa19.dk, by decide, fun r' H20 r0' r1' k20 d20 => ?_⟩
        obtain ⟨x, hx, hv⟩ := pick2 (V.str "some") (V.str "each") r' r0' r1'
        have fa20 := fa19.kb nNd nVd nDd k20 d20
        have dt20 := dat_stay (sO.kts.trans (fa19.dk.kts k20)) _ _ f.noL dt18
        refine ⟨O, _, _, x, rfl, rfl, .of (k20 _ _ upd_same nOd), hx, _, rfl, _, rfl, by show 3 ≤ sizeLine; decide, fun q hq => ?_⟩
        have sq := Same.new (o := .tup [x, .str nm, .ref p]) hq
        have m1 := dat_stay sq.kts _ _ f.noL dt20
        rcases hv with rfl | rfl
        · exact rest2 _ _ ⟨q, .some nm f, rfl, fa20.same sq, dat_tup (.of upd_same) (dats_cons dat_str (dats_cons dat_str (dats_cons m1 dats_nil))), ⟨nmm, fok⟩, by simp only [Say.deep]; omega, by simp only [Say.round]; omega⟩
        · exact rest2 _ _ ⟨q, .each nm f, rfl, fa20.same sq, dat_tup (.of upd_same) (dats_cons dat_str (dats_cons dat_str (dats_cons m1 dats_nil))), ⟨nmm, fok⟩, by simp only [Say.deep]; omega, by simp only [Say.round]; omega⟩
    ·
      refine ⟨_, rfl, d, 2, rfl, fa15.dk, by decide, fun r H16 r0 r1 k16 d16 => ⟨rfl, _, rfl, ?_⟩⟩
      have fa16 := fa15.kb nNd nVd nDd k16 d16
      have dt16 := dat_stay (fa15.dk.kts k16) _ _ f.noL dt15
      refine ite2 (fun _ => ?_) (fun _ => rest _ _ ⟨p, f, none, none, rfl, fa16, dt16, dq.2, by have := dq.1; omega⟩)
      refine ⟨by show 2 ≤ sizeLine; decide, fun O hO => ?_⟩
      have sO := Same.new (o := .lst [.str "some", .str "each"]) hO
      have nOd : O ≠ d := (fa16.dk.ne hO).symm
      have fa17 := fa16.same sO
      refine ⟨_, rfl, d, 2, rfl, fa17.dk, by decide, fun r2 H18 r20 r21 k18 d18 => ?_⟩
      obtain ⟨x, hx, hv⟩ := pick2 (V.str "some") (V.str "each") r2 r20 r21
      have fa18 := fa17.kb nNd nVd nDd k18 d18
      refine ⟨O, _, _, x, rfl, rfl, .of (k18 _ _ upd_same nOd), hx, _, rfl, _, rfl, _, rfl, _, rfl, wa, _, _, _, rfl, rfl, .of fa18.wd.1, atI_nat (j := 1) (v := .ref D) rfl, D, kvw, ks, rfl, fa18.c, kg.keys, by omega, fun R1 hR1 => ?_⟩
      have sR1 := Same.new (o := .lst (ks.map V.str)) hR1
      have nR1d : R1 ≠ d := (fa18.dk.ne hR1).symm
      have fa19 := fa18.same sR1
      refine ⟨d, N, R1, ss, ks, rfl, fa19.dk, .of fa19.n, nNd, by omega, .of upd_same, nR1d, by omega, fun p1 f1 H20 dt1 ok1 k20 d20 => ⟨by show 3 ≤ sizeLine; decide, fun q hq => ?_⟩⟩
      have fa20 := fa19.kb nNd nVd nDd k20 d20
      have sq := Same.new (o := .tup [x, .str nm, .ref p1]) hq
      have fa21 := fa20.same sq
      obtain ⟨g1, hg1, okg1, dpg1⟩ : ∃ g1 : Say, DatAt K (upd H20 q (.tup [x, .str nm, .ref p1])) (.ref q) g1.dt ∧ g1.Ok ss ks ∧ g1.deep ≤ 1 := by
        have m1 := dat_stay sq.kts _ _ f1.noL dt1
        have z0 := ok1.1
        rcases hv with rfl | rfl
        · exact ⟨.some nm f1, dat_tup (.of upd_same) (dats_cons dat_str (dats_cons dat_str (dats_cons m1 dats_nil))), ⟨nmm, ok1.2⟩, by simp only [Say.deep]; omega⟩
        · exact ⟨.each nm f1, dat_tup (.of upd_same) (dats_cons dat_str (dats_cons dat_str (dats_cons m1 dats_nil))), ⟨nmm, ok1.2⟩, by simp only [Say.deep]; omega⟩
      generalize upd H20 q (.tup [x, .str nm, .ref p1]) = H21 at fa21 hg1 ⊢
      refine ⟨_, rfl, _, rfl, _, rfl, by show 1 ≤ sizeLine; decide, fun M hM => ?_⟩
      have sM := Same.new (o := .lst [.str nm]) hM
      have nMd : M ≠ d := (fa21.dk.ne hM).symm
      have fa22 := fa21.same sM
      refine ⟨_, rfl, wa, _, _, _, rfl, rfl, .of fa22.wd.1, atI_nat (j := 1) (v := .ref D) rfl, D, kvw, ks, rfl, fa22.c, kg.keys, by omega, fun R2 hR2 => ?_⟩
      have sR2 := Same.new (o := .lst (ks.map V.str)) hR2
      have nR2d : R2 ≠ d := (fa22.dk.ne hR2).symm
      have fa23 := fa22.same sR2
      refine ⟨d, M, R2, [nm], ks, rfl, fa23.dk, .of (sR2 _ _ upd_same), nMd, (by show 1 ≤ 10; decide), .of upd_same, nR2d, by omega, fun p2 f2 H24 dt2 ok2 k24 d24 => ⟨by show 2 ≤ sizeLine; decide, fun pq hpq => ?_⟩⟩
      have fa24 := fa23.kb nNd nVd nDd k24 d24
      have spq := Same.new (o := .tup [.ref q, .ref p2]) hpq
      have fa25 := fa24.same spq
      have hg25 := dat_stay ((((sM.trans sR2).kts).trans (fa23.dk.kts k24)).trans spq.kts) _ _ g1.noL hg1
      have hf25 := dat_stay spq.kts _ _ f2.noL dt2
      have okf2 : f2.Ok ss ks := ok_mono (fun y hy => by rw [List.mem_singleton.mp hy]; exact nmm) ok2.2
      have epq : (upd H24 pq (.tup [.ref q, .ref p2])) pq = some (.tup [.ref q, .ref p2]) := upd_same
      generalize upd H24 pq (.tup [.ref q, .ref p2]) = H25 at fa25 hg25 hf25 epq ⊢
      refine ⟨by show 2 ≤ sizeLine; decide, fun O2 hO2 => ?_⟩
      have sO2 := Same.new (o := .lst [.str "and", .str "or"]) hO2
      have nO2d : O2 ≠ d := (fa25.dk.ne hO2).symm
      have fa26 := fa25.same sO2
      refine ⟨_, rfl, d, 2, rfl, fa26.dk, by decide, fun r3 H27 r30 r31 k27 d27 => ?_⟩
      obtain ⟨x2, hx2, hv2⟩ := pick2 (V.str "and") (V.str "or") r3 r30 r31
      have fa27 := fa26.kb nNd nVd nDd k27 d27
      have kt27 : KTs K H25 H27 := sO2.kts.trans (fa26.dk.kts k27)
      refine ⟨O2, _, _, x2, rfl, rfl, .of (k27 _ _ upd_same nO2d), hx2, by show 1 ≤ sizeLine; decide, fun t1 ht1 => ?_⟩
      have st1 := Same.new (o := .tup [x2]) ht1
      have fa28 := fa27.same st1
      have kt28 := kt27.trans st1.kts
      refine ⟨_, rfl, _, rfl, _, rfl, _, rfl, pq, [.ref q, .ref p2], rfl, rfl, rfl, rfl, kt28 _ _ (.of epq), fun rv hrv => ⟨by show 2 ≤ sizeLine; decide, fun O3 hO3 => ?_⟩⟩
      rw [show ([V.ref q, V.ref p2] : List V).reverse = [.ref p2, .ref q] from rfl] at hO3 ⊢
      have srv := Same.new (o := .tup [.ref p2, .ref q]) hrv
      have sO3 := Same.new (o := .lst [.ref pq, .ref rv]) hO3
      have fa30 := (fa28.same srv).same sO3
      have nO3d : O3 ≠ d := ((fa28.same srv).dk.ne hO3).symm
      have erv : SqT K (upd (upd (upd H27 t1 (.tup [x2])) rv (.tup [.ref p2, .ref q])) O3 (.lst [.ref pq, .ref rv])) rv [.ref p2, .ref q] := sO3.seqT (.of upd_same)
      have et1 : SqT K (upd (upd (upd H27 t1 (.tup [x2])) rv (.tup [.ref p2, .ref q])) O3 (.lst [.ref pq, .ref rv])) t1 [x2] := (srv.trans sO3).seqT (.of upd_same)
      have kt30 : KTs K H25 (upd (upd (upd H27 t1 (.tup [x2])) rv (.tup [.ref p2, .ref q])) O3 (.lst [.ref pq, .ref rv])) := kt28.trans (srv.trans sO3).kts
      have eO3 : (upd (upd (upd H27 t1 (.tup [x2])) rv (.tup [.ref p2, .ref q])) O3 (.lst [.ref pq, .ref rv])) O3 = some (.lst [.ref pq, .ref rv]) := upd_same
      generalize upd (upd (upd H27 t1 (.tup [x2])) rv (.tup [.ref p2, .ref q])) O3 (.lst [.ref pq, .ref rv]) = H30 at fa30 erv et1 kt30 eO3 ⊢
      refine ⟨_, rfl, d, 2, rfl, fa30.dk, by decide, fun r4 H31 r40 r41 k31 d31 => ?_⟩
      obtain ⟨y, hy, hvy⟩ := pick2 (V.ref pq) (V.ref rv) r4 r40 r41
      have fa31 := fa30.kb nNd nVd nDd k31 d31
      have kt31 := fa30.dk.kts (K := K) k31
      refine ⟨O3, _, _, y, rfl, rfl, .of (k31 _ _ eO3 nO3d), hy, ?_⟩
      obtain ⟨yb, u1, u2, rfl, hyb, ga, gb, da, db, oka, okb, dpa, dpb⟩ : ∃ (yb : Addr) (u1 u2 : V) , y = .ref yb ∧ SqT K H31 yb [u1, u2] ∧ ∃ (ga gb : Say), DatAt K H31 u1 ga.dt ∧ DatAt K H31 u2 gb.dt ∧ ga.Ok ss ks ∧ gb.Ok ss ks ∧ ga.deep ≤ 1 ∧ gb.deep ≤ 1 := by
        have e1 := dat_stay (kt30.trans kt31) _ _ g1.noL hg25
        have e2 := dat_stay (kt30.trans kt31) _ _ f2.noL hf25
        have z0 := ok2.1
        rcases hvy with rfl | rfl
        · exact ⟨pq, .ref q, .ref p2, rfl, (kt30.trans kt31) _ _ (.of epq), g1, f2, e1, e2, okg1, okf2, dpg1, by omega⟩
        · exact ⟨rv, .ref p2, .ref q, rfl, kt31 _ _ erv, f2, g1, e2, e1, okf2, okg1, by omega, dpg1⟩
      refine ⟨t1, yb, [x2], [u1, u2], rfl, rfl, kt31 _ _ et1, hyb, (fun z => nomatch z), by show 3 ≤ sizeLine; decide, (fun z => nomatch z), fun _ np hnp => ?_⟩
      have snp := Same.new (o := .tup ([x2] ++ [u1, u2])) hnp
      have m1 := dat_stay snp.kts _ _ ga.noL da
      have m2 := dat_stay snp.kts _ _ gb.noL db
      rcases hv2 with rfl | rfl
      · exact rest _ _ ⟨np, .and ga gb, some (.ref q), some (.ref pq), rfl, fa31.same snp, dat_tup (.of upd_same) (dats_cons dat_str (dats_cons m1 (dats_cons m2 dats_nil))), ⟨oka, okb⟩, by simp only [Say.deep]; omega⟩
      · exact rest _ _ ⟨np, .or ga gb, some (.ref q), some (.ref pq), rfl, fa31.same snp, dat_tup (.of upd_same) (dats_cons dat_str (dats_cons m1 (dats_cons m2 dats_nil))), ⟨oka, okb⟩, by simp only [Say.deep]; omega⟩
end
end My
set_option Elab.async false
set_option linter.all false
set_option maxRecDepth 100000
set_option maxHeartbeats 4000000
namespace My
open PySem L2
theorem all_mk {l : PySem.W.OpenLaw} {w : World} {K : PySem.W.Frag} {h : Heap} {mg : Str → Option Value} {fa : Addr} (X : K.In h) (G : h.Ns mainGlobals mg) (hfa : mg "law" = some (.ref fa))
    {f0 : Addr} {od0 an0 : Option Addr} {sl0 : Array (Option Value)} {oc0 kV0 dc0 pm0 cd0 ct0 : Value}
    {f1 : Addr} {od1 an1 : Option Addr} {sl1 : Array (Option Value)} {oc1 kV1 dc1 pm1 cd1 ct1 : Value}
    {f2 : Addr} {od2 an2 : Option Addr} {sl2 : Array (Option Value)} {oc2 kV2 dc2 pm2 cd2 ct2 : Value}
    {f3 : Addr} {od3 an3 : Option Addr} {sl3 : Array (Option Value)} {oc3 kV3 dc3 pm3 cd3 ct3 : Value}
    {f4 : Addr} {od4 an4 : Option Addr} {sl4 : Array (Option Value)} {oc4 kV4 dc4 pm4 cd4 ct4 : Value}
    {f5 : Addr} {od5 an5 : Option Addr} {sl5 : Array (Option Value)} {oc5 kV5 dc5 pm5 cd5 ct5 : Value}
    {f6 : Addr} {od6 an6 : Option Addr} {sl6 : Array (Option Value)} {oc6 kV6 dc6 pm6 cd6 ct6 : Value}
    {f7 : Addr} {od7 an7 : Option Addr} {sl7 : Array (Option Value)} {oc7 kV7 dc7 pm7 cd7 ct7 : Value}
    {f8 : Addr} {od8 an8 : Option Addr} {sl8 : Array (Option Value)} {oc8 kV8 dc8 pm8 cd8 ct8 : Value}
    {f9 : Addr} {od9 an9 : Option Addr} {sl9 : Array (Option Value)} {oc9 kV9 dc9 pm9 cd9 ct9 : Value}
    {f10 : Addr} {od10 an10 : Option Addr} {sl10 : Array (Option Value)} {oc10 kV10 dc10 pm10 cd10 ct10 : Value}
    {f11 : Addr} {od11 an11 : Option Addr} {sl11 : Array (Option Value)} {oc11 kV11 dc11 pm11 cd11 ct11 : Value}
    {f12 : Addr} {od12 an12 : Option Addr} {sl12 : Array (Option Value)} {oc12 kV12 dc12 pm12 cd12 ct12 : Value}
    {f13 : Addr} {od13 an13 : Option Addr} {sl13 : Array (Option Value)} {oc13 kV13 dc13 pm13 cd13 ct13 : Value}
    {f14 : Addr} {od14 an14 : Option Addr} {sl14 : Array (Option Value)} {oc14 kV14 dc14 pm14 cd14 ct14 : Value}
    {f15 : Addr} {od15 an15 : Option Addr} {sl15 : Array (Option Value)} {oc15 kV15 dc15 pm15 cd15 ct15 : Value}
    {f16 : Addr} {od16 an16 : Option Addr} {sl16 : Array (Option Value)} {oc16 kV16 dc16 pm16 cd16 ct16 : Value}
    {f17 : Addr} {od17 an17 : Option Addr} {sl17 : Array (Option Value)} {oc17 kV17 dc17 pm17 cd17 ct17 : Value}
    {f18 : Addr} {od18 an18 : Option Addr} {sl18 : Array (Option Value)} {oc18 kV18 dc18 pm18 cd18 ct18 : Value}
    {f19 : Addr} {od19 an19 : Option Addr} {sl19 : Array (Option Value)} {oc19 kV19 dc19 pm19 cd19 ct19 : Value}
    {f20 : Addr} {od20 an20 : Option Addr} {sl20 : Array (Option Value)} {oc20 kV20 dc20 pm20 cd20 ct20 : Value}
    {f21 : Addr} {od21 an21 : Option Addr} {sl21 : Array (Option Value)} {oc21 kV21 dc21 pm21 cd21 ct21 : Value}
    (a0 : PySem.W.nsIn K mainGlobals "figures_of" = some (some (.ref f0))) (l0 : K.lookup f0 = some ⟨oc0, od0, .func (PySem.W.fnOf "figures_of" "figures_of" (defArgs s_figures_of) (defBody s_figures_of) (defScope s_figures_of) .none kV0 dc0 pm0 an0 cd0 ct0), sl0⟩) (c0 : PySem.W.codeIn K cd0 "figures_of" = true) (k0 : PySem.W.keepIn K (.ref f0) = true)
    (a1 : PySem.W.nsIn K mainGlobals "room_after" = some (some (.ref f1))) (l1 : K.lookup f1 = some ⟨oc1, od1, .func (PySem.W.fnOf "room_after" "room_after" (defArgs s_room_after) (defBody s_room_after) (defScope s_room_after) .none kV1 dc1 pm1 an1 cd1 ct1), sl1⟩) (c1 : PySem.W.codeIn K cd1 "room_after" = true) (k1 : PySem.W.keepIn K (.ref f1) = true)
    (a2 : PySem.W.nsIn K mainGlobals "sign_at" = some (some (.ref f2))) (l2 : K.lookup f2 = some ⟨oc2, od2, .func (PySem.W.fnOf "sign_at" "sign_at" (defArgs s_sign_at) (defBody s_sign_at) (defScope s_sign_at) .none kV2 dc2 pm2 an2 cd2 ct2), sl2⟩) (c2 : PySem.W.codeIn K cd2 "sign_at" = true) (k2 : PySem.W.keepIn K (.ref f2) = true)
    (a3 : PySem.W.nsIn K mainGlobals "inner_parts" = some (some (.ref f3))) (l3 : K.lookup f3 = some ⟨oc3, od3, .func (PySem.W.fnOf "inner_parts" "inner_parts" (defArgs s_inner_parts) (defBody s_inner_parts) (defScope s_inner_parts) .none kV3 dc3 pm3 an3 cd3 ct3), sl3⟩) (c3 : PySem.W.codeIn K cd3 "inner_parts" = true) (k3 : PySem.W.keepIn K (.ref f3) = true)
    (a4 : PySem.W.nsIn K mainGlobals "worth_of" = some (some (.ref f4))) (l4 : K.lookup f4 = some ⟨oc4, od4, .func (PySem.W.fnOf "worth_of" "worth_of" (defArgs s_worth_of) (defBody s_worth_of) (defScope s_worth_of) .none kV4 dc4 pm4 an4 cd4 ct4), sl4⟩) (c4 : PySem.W.codeIn K cd4 "worth_of" = true) (k4 : PySem.W.keepIn K (.ref f4) = true)
    (a5 : PySem.W.nsIn K mainGlobals "atom_holds" = some (some (.ref f5))) (l5 : K.lookup f5 = some ⟨oc5, od5, .func (PySem.W.fnOf "atom_holds" "atom_holds" (defArgs s_atom_holds) (defBody s_atom_holds) (defScope s_atom_holds) .none kV5 dc5 pm5 an5 cd5 ct5), sl5⟩) (c5 : PySem.W.codeIn K cd5 "atom_holds" = true) (k5 : PySem.W.keepIn K (.ref f5) = true)
    (a6 : PySem.W.nsIn K mainGlobals "turns_of" = some (some (.ref f6))) (l6 : K.lookup f6 = some ⟨oc6, od6, .func (PySem.W.fnOf "turns_of" "turns_of" (defArgs s_turns_of) (defBody s_turns_of) (defScope s_turns_of) .none kV6 dc6 pm6 an6 cd6 ct6), sl6⟩) (c6 : PySem.W.codeIn K cd6 "turns_of" = true) (k6 : PySem.W.keepIn K (.ref f6) = true)
    (a7 : PySem.W.nsIn K mainGlobals "turn_at" = some (some (.ref f7))) (l7 : K.lookup f7 = some ⟨oc7, od7, .func (PySem.W.fnOf "turn_at" "turn_at" (defArgs s_turn_at) (defBody s_turn_at) (defScope s_turn_at) .none kV7 dc7 pm7 an7 cd7 ct7), sl7⟩) (c7 : PySem.W.codeIn K cd7 "turn_at" = true) (k7 : PySem.W.keepIn K (.ref f7) = true)
    (a8 : PySem.W.nsIn K mainGlobals "holds_plainly" = some (some (.ref f8))) (l8 : K.lookup f8 = some ⟨oc8, od8, .func (PySem.W.fnOf "holds_plainly" "holds_plainly" (defArgs s_holds_plainly) (defBody s_holds_plainly) (defScope s_holds_plainly) .none kV8 dc8 pm8 an8 cd8 ct8), sl8⟩) (c8 : PySem.W.codeIn K cd8 "holds_plainly" = true) (k8 : PySem.W.keepIn K (.ref f8) = true)
    (a9 : PySem.W.nsIn K mainGlobals "_law_deck" = some (some (.ref f9))) (l9 : K.lookup f9 = some ⟨oc9, od9, .func (PySem.W.fnOf "_law_deck" "_law_deck" (defArgs s_l_deck) (defBody s_l_deck) (defScope s_l_deck) .none kV9 dc9 pm9 an9 cd9 ct9), sl9⟩) (c9 : PySem.W.codeIn K cd9 "_law_deck" = true) (k9 : PySem.W.keepIn K (.ref f9) = true)
    (a10 : PySem.W.nsIn K mainGlobals "_law_next" = some (some (.ref f10))) (l10 : K.lookup f10 = some ⟨oc10, od10, .func (PySem.W.fnOf "_law_next" "_law_next" (defArgs s_l_next) (defBody s_l_next) (defScope s_l_next) .none kV10 dc10 pm10 an10 cd10 ct10), sl10⟩) (c10 : PySem.W.codeIn K cd10 "_law_next" = true) (k10 : PySem.W.keepIn K (.ref f10) = true)
    (a11 : PySem.W.nsIn K mainGlobals "_law_names" = some (some (.ref f11))) (l11 : K.lookup f11 = some ⟨oc11, od11, .func (PySem.W.fnOf "_law_names" "_law_names" (defArgs s_l_names) (defBody s_l_names) (defScope s_l_names) .none kV11 dc11 pm11 an11 cd11 ct11), sl11⟩) (c11 : PySem.W.codeIn K cd11 "_law_names" = true) (k11 : PySem.W.keepIn K (.ref f11) = true)
    (a12 : PySem.W.nsIn K mainGlobals "_law_row" = some (some (.ref f12))) (l12 : K.lookup f12 = some ⟨oc12, od12, .func (PySem.W.fnOf "_law_row" "_law_row" (defArgs s_l_row) (defBody s_l_row) (defScope s_l_row) .none kV12 dc12 pm12 an12 cd12 ct12), sl12⟩) (c12 : PySem.W.codeIn K cd12 "_law_row" = true) (k12 : PySem.W.keepIn K (.ref f12) = true)
    (a13 : PySem.W.nsIn K mainGlobals "_law_world" = some (some (.ref f13))) (l13 : K.lookup f13 = some ⟨oc13, od13, .func (PySem.W.fnOf "_law_world" "_law_world" (defArgs s_l_world) (defBody s_l_world) (defScope s_l_world) .none kV13 dc13 pm13 an13 cd13 ct13), sl13⟩) (c13 : PySem.W.codeIn K cd13 "_law_world" = true) (k13 : PySem.W.keepIn K (.ref f13) = true)
    (a14 : PySem.W.nsIn K mainGlobals "_law_term" = some (some (.ref f14))) (l14 : K.lookup f14 = some ⟨oc14, od14, .func (PySem.W.fnOf "_law_term" "_law_term" (defArgs s_l_term) (defBody s_l_term) (defScope s_l_term) .none kV14 dc14 pm14 an14 cd14 ct14), sl14⟩) (c14 : PySem.W.codeIn K cd14 "_law_term" = true) (k14 : PySem.W.keepIn K (.ref f14) = true)
    (a15 : PySem.W.nsIn K mainGlobals "_law_plain" = some (some (.ref f15))) (l15 : K.lookup f15 = some ⟨oc15, od15, .func (PySem.W.fnOf "_law_plain" "_law_plain" (defArgs s_l_plain) (defBody s_l_plain) (defScope s_l_plain) .none kV15 dc15 pm15 an15 cd15 ct15), sl15⟩) (c15 : PySem.W.codeIn K cd15 "_law_plain" = true) (k15 : PySem.W.keepIn K (.ref f15) = true)
    (a16 : PySem.W.nsIn K mainGlobals "_law_saying" = some (some (.ref f16))) (l16 : K.lookup f16 = some ⟨oc16, od16, .func (PySem.W.fnOf "_law_saying" "_law_saying" (defArgs s_l_saying) (defBody s_l_saying) (defScope s_l_saying) .none kV16 dc16 pm16 an16 cd16 ct16), sl16⟩) (c16 : PySem.W.codeIn K cd16 "_law_saying" = true) (k16 : PySem.W.keepIn K (.ref f16) = true)
    (a17 : PySem.W.nsIn K mainGlobals "_law_sign" = some (some (.ref f17))) (l17 : K.lookup f17 = some ⟨oc17, od17, .func (PySem.W.fnOf "_law_sign" "_law_sign" (defArgs s_l_sign) (defBody s_l_sign) (defScope s_l_sign) .none kV17 dc17 pm17 an17 cd17 ct17), sl17⟩) (c17 : PySem.W.codeIn K cd17 "_law_sign" = true) (k17 : PySem.W.keepIn K (.ref f17) = true)
    (a18 : PySem.W.nsIn K mainGlobals "_law_worth" = some (some (.ref f18))) (l18 : K.lookup f18 = some ⟨oc18, od18, .func (PySem.W.fnOf "_law_worth" "_law_worth" (defArgs s_l_worth) (defBody s_l_worth) (defScope s_l_worth) .none kV18 dc18 pm18 an18 cd18 ct18), sl18⟩) (c18 : PySem.W.codeIn K cd18 "_law_worth" = true) (k18 : PySem.W.keepIn K (.ref f18) = true)
    (a19 : PySem.W.nsIn K mainGlobals "_law_holds" = some (some (.ref f19))) (l19 : K.lookup f19 = some ⟨oc19, od19, .func (PySem.W.fnOf "_law_holds" "_law_holds" (defArgs s_l_holds) (defBody s_l_holds) (defScope s_l_holds) .none kV19 dc19 pm19 an19 cd19 ct19), sl19⟩) (c19 : PySem.W.codeIn K cd19 "_law_holds" = true) (k19 : PySem.W.keepIn K (.ref f19) = true)
    (a20 : PySem.W.nsIn K mainGlobals "_law_round" = some (some (.ref f20))) (l20 : K.lookup f20 = some ⟨oc20, od20, .func (PySem.W.fnOf "_law_round" "_law_round" (defArgs s_l_round) (defBody s_l_round) (defScope s_l_round) .none kV20 dc20 pm20 an20 cd20 ct20), sl20⟩) (c20 : PySem.W.codeIn K cd20 "_law_round" = true) (k20 : PySem.W.keepIn K (.ref f20) = true)
    (a21 : PySem.W.nsIn K mainGlobals "law" = some (some (.ref f21))) (l21 : K.lookup f21 = some ⟨oc21, od21, .func (PySem.W.fnOf "law" "law" (defArgs s_law) (defBody s_law) (defScope s_law) .none kV21 dc21 pm21 an21 cd21 ct21), sl21⟩) (c21 : PySem.W.codeIn K cd21 "law" = true) (k21 : PySem.W.keepIn K (.ref f21) = true)
    (z0 : PySem.W.nsIn K mainGlobals "len" = some none)
    (z1 : PySem.W.nsIn K mainGlobals "range" = some none)
    (z2 : PySem.W.nsIn K mainGlobals "sorted" = some none)
    (z3 : PySem.W.nsIn K mainGlobals "dict" = some none)
    (z4 : PySem.W.nsIn K mainGlobals "sum" = some none)
    (z5 : PySem.W.nsIn K mainGlobals "min" = some none)
    (z6 : PySem.W.nsIn K mainGlobals "int" = some none)
    (z7 : PySem.W.nsIn K mainGlobals "tuple" = some none)
    (z8 : PySem.W.nsIn K mainGlobals "max" = some none)
    (z9 : PySem.W.nsIn K mainGlobals "list" = some none)
    (z10 : PySem.W.nsIn K mainGlobals "all" = some none)
    (z11 : PySem.W.nsIn K mainGlobals "any" = some none)
    (z12 : PySem.W.nsIn K mainGlobals "isinstance" = some none)
    (z13 : PySem.W.nsIn K mainGlobals "bool" = some none)
    {pd : Addr} {pes : Array DictEntry} {pn : Nat}
    {p_no : Addr} {pn_no : Nat} {pt_no0 : _}
    {p_an : Addr} {pn_an : Nat} {pt_an0 : _} {pt_an1 : _}
    {p_or : Addr} {pn_or : Nat} {pt_or0 : _} {pt_or1 : _}
    {p_so : Addr} {pn_so : Nat} {pt_so0 : _}
    {p_ea : Addr} {pn_ea : Nat} {pt_ea0 : _}
    (p_a : PySem.W.nsIn K mainGlobals "PART_SPOTS" = some (some (.ref pd))) (p_l : K.lookup pd = some ⟨.type "dict", none, .dict pes pn, #[]⟩) (p_k : PySem.W.KeysLit w.params pes.toList) (p_s : (pd == sysModules) = false)
    (pq_no : PySem.W.nsIn K pd "not" = some (some (.ref p_no))) (pr_no : K.lookup p_no = some ⟨.type "tuple", none, .seq #[.int 1 pt_no0] pn_no, #[]⟩)
    (pq_an : PySem.W.nsIn K pd "and" = some (some (.ref p_an))) (pr_an : K.lookup p_an = some ⟨.type "tuple", none, .seq #[.int 1 pt_an0, .int 2 pt_an1] pn_an, #[]⟩)
    (pq_or : PySem.W.nsIn K pd "or" = some (some (.ref p_or))) (pr_or : K.lookup p_or = some ⟨.type "tuple", none, .seq #[.int 1 pt_or0, .int 2 pt_or1] pn_or, #[]⟩)
    (pq_so : PySem.W.nsIn K pd "some" = some (some (.ref p_so))) (pr_so : K.lookup p_so = some ⟨.type "tuple", none, .seq #[.int 2 pt_so0] pn_so, #[]⟩)
    (pq_ea : PySem.W.nsIn K pd "each" = some (some (.ref p_ea))) (pr_ea : K.lookup p_ea = some ⟨.type "tuple", none, .seq #[.int 2 pt_ea0] pn_ea, #[]⟩)
    (pq_same : PySem.W.nsIn K pd "same" = some none)
    (pq_less : PySem.W.nsIn K pd "less" = some none)
    (pq_sign : PySem.W.nsIn K pd "sign" = some none)
    (pq_alike : PySem.W.nsIn K pd "alike" = some none)
    {ld : Addr} {les : Array DictEntry} {ln : Nat}
    {l_no : Addr} {ln_no : Nat}
    {l_an : Addr} {ln_an : Nat}
    {l_or : Addr} {ln_or : Nat}
    {l_so : Addr} {ln_so : Nat}
    {l_ea : Addr} {ln_ea : Nat}
    (l_a : PySem.W.nsIn K mainGlobals "LOOKED_FOR" = some (some (.ref ld))) (l_l : K.lookup ld = some ⟨.type "dict", none, .dict les ln, #[]⟩) (l_k : PySem.W.KeysLit w.params les.toList) (l_s : (ld == sysModules) = false)
    (lq_no : PySem.W.nsIn K ld "not" = some (some (.ref l_no))) (lr_no : K.lookup l_no = some ⟨.type "tuple", none, .seq #[.bool true, .bool false] ln_no, #[]⟩)
    (lq_an : PySem.W.nsIn K ld "and" = some (some (.ref l_an))) (lr_an : K.lookup l_an = some ⟨.type "tuple", none, .seq #[.bool false, .bool false] ln_an, #[]⟩)
    (lq_or : PySem.W.nsIn K ld "or" = some (some (.ref l_or))) (lr_or : K.lookup l_or = some ⟨.type "tuple", none, .seq #[.bool true, .bool true] ln_or, #[]⟩)
    (lq_so : PySem.W.nsIn K ld "some" = some (some (.ref l_so))) (lr_so : K.lookup l_so = some ⟨.type "tuple", none, .seq #[.bool true, .bool true] ln_so, #[]⟩)
    (lq_ea : PySem.W.nsIn K ld "each" = some (some (.ref l_ea))) (lr_ea : K.lookup l_ea = some ⟨.type "tuple", none, .seq #[.bool false, .bool false] ln_ea, #[]⟩)
    (lq_same : PySem.W.nsIn K ld "same" = some none)
    (lq_less : PySem.W.nsIn K ld "less" = some none)
    (lq_sign : PySem.W.nsIn K ld "sign" = some none)
    (lq_alike : PySem.W.nsIn K ld "alike" = some none)
    : ∃ fd : FuncData, (∀ (s : Shared) (v : Value), BindsTo s fd ⟨[v], []⟩ [("_law_script", v)]) ∧ ∀ base : Heap, K.In base → base.Ns mainGlobals mg → FnOk l.prog w K mg base CX0 10 fa fd ["_law_script"] (spLaw K) := by
  have e := hfa.symm.trans (PySem.W.mg_of X G a21)
  cases e
  have F0 := fun_mk (st := s_figures_of) l0 c0 k0
  have b0 := F0.binds (ps := ["base", "number"]) fun _ _ _ _ _ _ us hl => match us, hl with | [_, _], _ => rfl
  have F1 := fun_mk (st := s_room_after) l1 c1 k1
  have b1 := F1.binds (ps := ["moves", "room", "figures"]) fun _ _ _ _ _ _ us hl => match us, hl with | [_, _, _], _ => rfl
  have F2 := fun_mk (st := s_sign_at) l2 c2 k2
  have b2 := F2.binds (ps := ["world", "name", "number"]) fun _ _ _ _ _ _ us hl => match us, hl with | [_, _, _], _ => rfl
  have F3 := fun_mk (st := s_inner_parts) l3 c3 k3
  have b3 := F3.binds (ps := ["saying"]) fun _ _ _ _ _ _ us hl => match us, hl with | [_], _ => rfl
  have F4 := fun_mk (st := s_worth_of) l4 c4 k4
  have b4 := F4.binds (ps := ["term", "values"]) fun _ _ _ _ _ _ us hl => match us, hl with | [_, _], _ => rfl
  have F5 := fun_mk (st := s_atom_holds) l5 c5 k5
  have b5 := F5.binds (ps := ["world", "saying", "values"]) fun _ _ _ _ _ _ us hl => match us, hl with | [_, _, _], _ => rfl
  have F6 := fun_mk (st := s_turns_of) l6 c6 k6
  have b6 := F6.binds (ps := ["saying", "most"]) fun _ _ _ _ _ _ us hl => match us, hl with | [_, _], _ => rfl
  have F7 := fun_mk (st := s_turn_at) l7 c7 k7
  have b7 := F7.binds (ps := ["saying", "values", "turn"]) fun _ _ _ _ _ _ us hl => match us, hl with | [_, _, _], _ => rfl
  have F8 := fun_mk (st := s_holds_plainly) l8 c8 k8
  have b8 := F8.binds (ps := ["world", "saying", "values", "most"]) fun _ _ _ _ _ _ us hl => match us, hl with | [_, _, _, _], _ => rfl
  have F9 := fun_mk (st := s_l_deck) l9 c9 k9
  have b9 := F9.binds (ps := ["_law_script", "_law_many"]) fun _ _ _ _ _ _ us hl => match us, hl with | [_, _], _ => rfl
  have F10 := fun_mk (st := s_l_next) l10 c10 k10
  have b10 := F10.binds (ps := ["_law_deck_here", "_law_many"]) fun _ _ _ _ _ _ us hl => match us, hl with | [_, _], _ => rfl
  have F11 := fun_mk (st := s_l_names) l11 c11 k11
  have b11 := F11.binds (ps := ["_law_deck_here", "_law_many", "_law_great"]) fun _ _ _ _ _ _ us hl => match us, hl with | [_, _, _], _ => rfl
  have F12 := fun_mk (st := s_l_row) l12 c12 k12
  have b12 := F12.binds (ps := ["_law_deck_here", "_law_base"]) fun _ _ _ _ _ _ us hl => match us, hl with | [_, _], _ => rfl
  have F13 := fun_mk (st := s_l_world) l13 c13 k13
  have b13 := F13.binds (ps := ["_law_deck_here"]) fun _ _ _ _ _ _ us hl => match us, hl with | [_], _ => rfl
  have F14 := fun_mk (st := s_l_term) l14 c14 k14
  have b14 := F14.binds (ps := ["_law_deck_here", "_law_names_here"]) fun _ _ _ _ _ _ us hl => match us, hl with | [_, _], _ => rfl
  have F15 := fun_mk (st := s_l_plain) l15 c15 k15
  have b15 := F15.binds (ps := ["_law_deck_here", "_law_names_here", "_law_rows"]) fun _ _ _ _ _ _ us hl => match us, hl with | [_, _, _], _ => rfl
  have F16 := fun_mk (st := s_l_saying) l16 c16 k16
  have b16 := F16.binds (ps := ["_law_deck_here", "_law_names_here", "_law_rows", "_law_box", "_law_deep"]) fun _ _ _ _ _ _ us hl => match us, hl with | [_, _, _, _, _], _ => rfl
  have F17 := fun_mk (st := s_l_sign) l17 c17 k17
  have b17 := F17.binds (ps := ["_law_world_here", "_law_name", "_law_number"]) fun _ _ _ _ _ _ us hl => match us, hl with | [_, _, _], _ => rfl
  have F18 := fun_mk (st := s_l_worth) l18 c18 k18
  have b18 := F18.binds (ps := ["_law_term_here", "_law_values"]) fun _ _ _ _ _ _ us hl => match us, hl with | [_, _], _ => rfl
  have F19 := fun_mk (st := s_l_holds) l19 c19 k19
  have b19 := F19.binds (ps := ["_law_world_here", "_law_saying_here", "_law_values", "_law_most"]) fun _ _ _ _ _ _ us hl => match us, hl with | [_, _, _, _], _ => rfl
  have F20 := fun_mk (st := s_l_round) l20 c20 k20
  have b20 := F20.binds (ps := ["_law_saying_here"]) fun _ _ _ _ _ _ us hl => match us, hl with | [_], _ => rfl
  have F21 := fun_mk (st := s_law) l21 c21 k21
  have T : Txt K mg ⟨f0, _, f1, _, f2, _, f3, _, f4, _, f5, _, f6, _, f7, _, f8, _, f9, _, f10, _, f11, _, f12, _, f13, _, f14, _, f15, _, f16, _, f17, _, f18, _, f19, _, f20, _, fa, _⟩ := ⟨F0, PySem.W.mg_of X G a0, k0, b0, F1, PySem.W.mg_of X G a1, k1, b1, F2, PySem.W.mg_of X G a2, k2, b2, F3, PySem.W.mg_of X G a3, k3, b3, F4, PySem.W.mg_of X G a4, k4, b4, F5, PySem.W.mg_of X G a5, k5, b5, F6, PySem.W.mg_of X G a6, k6, b6, F7, PySem.W.mg_of X G a7, k7, b7, F8, PySem.W.mg_of X G a8, k8, b8, F9, PySem.W.mg_of X G a9, k9, b9, F10, PySem.W.mg_of X G a10, k10, b10, F11, PySem.W.mg_of X G a11, k11, b11, F12, PySem.W.mg_of X G a12, k12, b12, F13, PySem.W.mg_of X G a13, k13, b13, F14, PySem.W.mg_of X G a14, k14, b14, F15, PySem.W.mg_of X G a15, k15, b15, F16, PySem.W.mg_of X G a16, k16, b16, F17, PySem.W.mg_of X G a17, k17, b17, F18, PySem.W.mg_of X G a18, k18, b18, F19, PySem.W.mg_of X G a19, k19, b19, F20, PySem.W.mg_of X G a20, k20, b20, F21, PySem.W.mg_of X G a21, PySem.W.mg_none_of X G z0, PySem.W.mg_none_of X G z1, PySem.W.mg_none_of X G z2, PySem.W.mg_none_of X G z3, PySem.W.mg_none_of X G z4, PySem.W.mg_none_of X G z5, PySem.W.mg_none_of X G z6, PySem.W.mg_none_of X G z7, PySem.W.mg_none_of X G z8, PySem.W.mg_none_of X G z9, PySem.W.mg_none_of X G z10, PySem.W.mg_none_of X G z11, PySem.W.mg_none_of X G z12, PySem.W.mg_none_of X G z13⟩
  have pD : TopDict K w.params pd (partTab ⟨pd, p_no, p_an, p_or, p_so, p_ea⟩) := ⟨⟨pes, pn, p_l, p_k, by
    intro x r hm
    simp only [partTab, List.mem_cons, List.mem_nil_iff, or_false, Prod.mk.injEq] at hm
    rcases hm with ⟨rfl, rfl⟩ | ⟨rfl, rfl⟩ | ⟨rfl, rfl⟩ | ⟨rfl, rfl⟩ | ⟨rfl, rfl⟩ | ⟨rfl, rfl⟩ | ⟨rfl, rfl⟩ | ⟨rfl, rfl⟩ | ⟨rfl, rfl⟩
    · rw [PySem.W.find_K p_l pq_no]; exact rfl
    · rw [PySem.W.find_K p_l pq_an]; exact rfl
    · rw [PySem.W.find_K p_l pq_or]; exact rfl
    · rw [PySem.W.find_K p_l pq_so]; exact rfl
    · rw [PySem.W.find_K p_l pq_ea]; exact rfl
    · rw [PySem.W.find_K p_l pq_same]; exact True.intro
    · rw [PySem.W.find_K p_l pq_less]; exact True.intro
    · rw [PySem.W.find_K p_l pq_sign]; exact True.intro
    · rw [PySem.W.find_K p_l pq_alike]; exact True.intro⟩, p_s⟩
  have U : TopsP K w.params mg ⟨pd, p_no, p_an, p_or, p_so, p_ea⟩ := ⟨PySem.W.mg_of X G p_a, pD, fun H => sqT_top (us := [.int 1 _]) pr_no (.cons ⟨_, rfl⟩ (.nil)) (by decide), fun H => sqT_top (us := [.int 1 _, .int 2 _]) pr_an (.cons ⟨_, rfl⟩ (.cons ⟨_, rfl⟩ (.nil))) (by decide), fun H => sqT_top (us := [.int 1 _, .int 2 _]) pr_or (.cons ⟨_, rfl⟩ (.cons ⟨_, rfl⟩ (.nil))) (by decide), fun H => sqT_top (us := [.int 2 _]) pr_so (.cons ⟨_, rfl⟩ (.nil)) (by decide), fun H => sqT_top (us := [.int 2 _]) pr_ea (.cons ⟨_, rfl⟩ (.nil)) (by decide)⟩
  have lD : TopDict K w.params ld (lookTab ⟨ld, l_no, l_an, l_or, l_so, l_ea⟩) := ⟨⟨les, ln, l_l, l_k, by
    intro x r hm
    simp only [lookTab, List.mem_cons, List.mem_nil_iff, or_false, Prod.mk.injEq] at hm
    rcases hm with ⟨rfl, rfl⟩ | ⟨rfl, rfl⟩ | ⟨rfl, rfl⟩ | ⟨rfl, rfl⟩ | ⟨rfl, rfl⟩ | ⟨rfl, rfl⟩ | ⟨rfl, rfl⟩ | ⟨rfl, rfl⟩ | ⟨rfl, rfl⟩
    · rw [PySem.W.find_K l_l lq_no]; exact rfl
    · rw [PySem.W.find_K l_l lq_an]; exact rfl
    · rw [PySem.W.find_K l_l lq_or]; exact rfl
    · rw [PySem.W.find_K l_l lq_so]; exact rfl
    · rw [PySem.W.find_K l_l lq_ea]; exact rfl
    · rw [PySem.W.find_K l_l lq_same]; exact True.intro
    · rw [PySem.W.find_K l_l lq_less]; exact True.intro
    · rw [PySem.W.find_K l_l lq_sign]; exact True.intro
    · rw [PySem.W.find_K l_l lq_alike]; exact True.intro⟩, l_s⟩
  have Y : TopsL K w.params mg ⟨ld, l_no, l_an, l_or, l_so, l_ea⟩ := ⟨PySem.W.mg_of X G l_a, lD, fun H => sqT_top (us := [.bool true, .bool false]) lr_no (.cons rfl (.cons rfl (.nil))) (by decide), fun H => sqT_top (us := [.bool false, .bool false]) lr_an (.cons rfl (.cons rfl (.nil))) (by decide), fun H => sqT_top (us := [.bool true, .bool true]) lr_or (.cons rfl (.cons rfl (.nil))) (by decide), fun H => sqT_top (us := [.bool true, .bool true]) lr_so (.cons rfl (.cons rfl (.nil))) (by decide), fun H => sqT_top (us := [.bool false, .bool false]) lr_ea (.cons rfl (.cons rfl (.nil))) (by decide)⟩
  exact ⟨PySem.W.fnOf "law" "law" (defArgs s_law) (defBody s_law) (defScope s_law) .none kV21 dc21 pm21 an21 cd21 ct21, fun s v => .of_eq rfl, fun base _ _ => ok_law T U Y⟩
theorem walk {l : PySem.W.OpenLaw} {q : Program} {loose : List Str} {XP : (Str → Option Value) → Heap → Prop} {YP : World → Heap → Prop} {d : DefRec} {K : Params → PySem.W.Frag} (hn : l.most = some 63) (hdf : d.params.defaults = [])
    (hY : ∀ (w : World) (h : Heap), YP w h → (K w.params).In h)
    (F : ∀ (w : World) (mg : Str → Option Value) (fa : Addr) (h : Heap), (K w.params).In h → h.Ns mainGlobals mg → mg d.name = some (.ref fa) →
      ∃ fd : FuncData, (∀ (s : Shared) (u : Value), BindsTo s fd ⟨[u], []⟩ [("_law_script", u)]) ∧ ∀ base : Heap, (K w.params).In base → base.Ns mainGlobals mg → FnOk l.prog w (K w.params) mg base CX0 10 fa fd ["_law_script"] (spLaw (K w.params))) :
    PySem.W.WalkO q loose XP YP l.row.toRowW d [] (fun f vs => PySem.call f vs) :=
  L2.walk_of (n := 63) (k := 10) (x := "_law_script") (CX := fun _ => CX0) (sp := fun w => spLaw (K w.params)) hn (by decide) hdf ⟨rfl, by decide, by decide, rfl⟩ hY F (fun _ _ a ns hl _ hS => ⟨a, ns, rfl, hS, hl, fun _ => rfl⟩) fun _ _ _ _ _ z => z
end My
open PySem PySem.W PyProof.Rows
set_option maxRecDepth 100000 in
set_option maxHeartbeats 0 in
theorem PySem.Challenge.cw_figurejudge_k26_some_and_each_to_a_bound_holds : PySem.Challenge.rw_figurejudge_k26_some_and_each_to_a_bound.Holds := by
  w_on; o_law; k_head; (case hw => w_witness2)
  k_fill
  refine My.walk (l := PySem.Challenge.rw_figurejudge_k26_some_and_each_to_a_bound) rfl rfl (fun w h Y => PySem.W.kIn_of Y) ?F
  case F =>
    intro w mg fa h KX G hmg
    refine' My.all_mk KX G hmg ?a0 ?l0 ?c0 ?k0 ?a1 ?l1 ?c1 ?k1 ?a2 ?l2 ?c2 ?k2 ?a3 ?l3 ?c3 ?k3 ?a4 ?l4 ?c4 ?k4 ?a5 ?l5 ?c5 ?k5 ?a6 ?l6 ?c6 ?k6 ?a7 ?l7 ?c7 ?k7 ?a8 ?l8 ?c8 ?k8 ?a9 ?l9 ?c9 ?k9 ?a10 ?l10 ?c10 ?k10 ?a11 ?l11 ?c11 ?k11 ?a12 ?l12 ?c12 ?k12 ?a13 ?l13 ?c13 ?k13 ?a14 ?l14 ?c14 ?k14 ?a15 ?l15 ?c15 ?k15 ?a16 ?l16 ?c16 ?k16 ?a17 ?l17 ?c17 ?k17 ?a18 ?l18 ?c18 ?k18 ?a19 ?l19 ?c19 ?k19 ?a20 ?l20 ?c20 ?k20 ?a21 ?l21 ?c21 ?k21 ?z0 ?z1 ?z2 ?z3 ?z4 ?z5 ?z6 ?z7 ?z8 ?z9 ?z10 ?z11 ?z12 ?z13 ?p_a ?p_l ?p_k ?p_s ?pq_no ?pr_no ?pq_an ?pr_an ?pq_or ?pr_or ?pq_so ?pr_so ?pq_ea ?pr_ea ?pq_same ?pq_less ?pq_sign ?pq_alike ?l_a ?l_l ?l_k ?l_s ?lq_no ?lr_no ?lq_an ?lr_an ?lq_or ?lr_or ?lq_so ?lr_so ?lq_ea ?lr_ea ?lq_same ?lq_less ?lq_sign ?lq_alike
    (case a0 => k_is)
    (case l0 => k_is)
    (case c0 => k_is)
    (case k0 => k_is)
    (case a1 => k_is)
    (case l1 => k_is)
    (case c1 => k_is)
    (case k1 => k_is)
    (case a2 => k_is)
    (case l2 => k_is)
    (case c2 => k_is)
    (case k2 => k_is)
    (case a3 => k_is)
    (case l3 => k_is)
    (case c3 => k_is)
    (case k3 => k_is)
    (case a4 => k_is)
    (case l4 => k_is)
    (case c4 => k_is)
    (case k4 => k_is)
    (case a5 => k_is)
    (case l5 => k_is)
    (case c5 => k_is)
    (case k5 => k_is)
    (case a6 => k_is)
    (case l6 => k_is)
    (case c6 => k_is)
    (case k6 => k_is)
    (case a7 => k_is)
    (case l7 => k_is)
    (case c7 => k_is)
    (case k7 => k_is)
    (case a8 => k_is)
    (case l8 => k_is)
    (case c8 => k_is)
    (case k8 => k_is)
    (case a9 => k_is)
    (case l9 => k_is)
    (case c9 => k_is)
    (case k9 => k_is)
    (case a10 => k_is)
    (case l10 => k_is)
    (case c10 => k_is)
    (case k10 => k_is)
    (case a11 => k_is)
    (case l11 => k_is)
    (case c11 => k_is)
    (case k11 => k_is)
    (case a12 => k_is)
    (case l12 => k_is)
    (case c12 => k_is)
    (case k12 => k_is)
    (case a13 => k_is)
    (case l13 => k_is)
    (case c13 => k_is)
    (case k13 => k_is)
    (case a14 => k_is)
    (case l14 => k_is)
    (case c14 => k_is)
    (case k14 => k_is)
    (case a15 => k_is)
    (case l15 => k_is)
    (case c15 => k_is)
    (case k15 => k_is)
    (case a16 => k_is)
    (case l16 => k_is)
    (case c16 => k_is)
    (case k16 => k_is)
    (case a17 => k_is)
    (case l17 => k_is)
    (case c17 => k_is)
    (case k17 => k_is)
    (case a18 => k_is)
    (case l18 => k_is)
    (case c18 => k_is)
    (case k18 => k_is)
    (case a19 => k_is)
    (case l19 => k_is)
    (case c19 => k_is)
    (case k19 => k_is)
    (case a20 => k_is)
    (case l20 => k_is)
    (case c20 => k_is)
    (case k20 => k_is)
    (case a21 => k_is)
    (case l21 => k_is)
    (case c21 => k_is)
    (case k21 => k_is)
    (case z0 => k_is)
    (case z1 => k_is)
    (case z2 => k_is)
    (case z3 => k_is)
    (case z4 => k_is)
    (case z5 => k_is)
    (case z6 => k_is)
    (case z7 => k_is)
    (case z8 => k_is)
    (case z9 => k_is)
    (case z10 => k_is)
    (case z11 => k_is)
    (case z12 => k_is)
    (case z13 => k_is)
    (case p_a => k_is)
    (case p_l => k_is)
    (case p_k => repeat (first | exact ⟨⟩ | refine ⟨⟨_, _, rfl, rfl⟩, ?_⟩))
    (case p_s => rfl)
    (case pq_no => k_is)
    (case pr_no => k_is)
    (case pq_an => k_is)
    (case pr_an => k_is)
    (case pq_or => k_is)
    (case pr_or => k_is)
    (case pq_so => k_is)
    (case pr_so => k_is)
    (case pq_ea => k_is)
    (case pr_ea => k_is)
    (case pq_same => k_is)
    (case pq_less => k_is)
    (case pq_sign => k_is)
    (case pq_alike => k_is)
    (case l_a => k_is)
    (case l_l => k_is)
    (case l_k => repeat (first | exact ⟨⟩ | refine ⟨⟨_, _, rfl, rfl⟩, ?_⟩))
    (case l_s => rfl)
    (case lq_no => k_is)
    (case lr_no => k_is)
    (case lq_an => k_is)
    (case lr_an => k_is)
    (case lq_or => k_is)
    (case lr_or => k_is)
    (case lq_so => k_is)
    (case lr_so => k_is)
    (case lq_ea => k_is)
    (case lr_ea => k_is)
    (case lq_same => k_is)
    (case lq_less => k_is)
    (case lq_sign => k_is)
    (case lq_alike => k_is)
#print axioms PySem.Challenge.cw_figurejudge_k26_some_and_each_to_a_bound_holds
