import PyProof.Rows.All
import Wide.All
import OpenK.AllK
import Wide.FinOn
import Lean
import PyProof.EqAt
import PyProof.EqKinds
import PyProof.TupleCall
import PyProof.NeKinds
import PyProof.ListRange
import PyProof.Draws
import PyProof.Rows.SortStr
import KE.KDictSum
import KE.KEqDict
import KE.KDictOf
import KE.KRevSl
import PyProof.SetKind
import PyProof.SetRoads
import PyProof.Rows.SetFrom
import PyProof.ReprRoads
import PyProof.ReprLen
import PyProof.NsDelKeeps
import PyProof.ListMulRoad
import PyProof.FactsAll.tuple_2
import PySem.Challenge.RW_figurejudge_k21_free_names
set_option Elab.async false
set_option linter.all false
set_option maxRecDepth 100000
namespace L2
open PySem PySem.Spec PyProof.Rows
abbrev Key := Sum Int Str
def keyIs : Key → Value → Bool
  | .inl k, v => Value.isInt k v
  | .inr x, v => Value.isStrOf x v
def keyH (w : World) : Key → Int
  | .inl k => hashInt k
  | .inr x => hashStr w x
theorem keyIs_shape : ∀ {k : Key} {v : Value}, keyIs k v = true → (∃ i t, k = Sum.inl i ∧ v = Value.int i t) ∨ (∃ x t, k = Sum.inr x ∧ v = Value.str x t)
  | .inl i, v, h => by
    obtain ⟨t, e⟩ := Value.isInt_shape (k := i) (v := v) h
    exact .inl ⟨i, t, rfl, e⟩
  | .inr x, v, h => by
    obtain ⟨t, e⟩ := Value.isStrOf_shape (x := x) (v := v) h
    exact .inr ⟨x, t, rfl, e⟩
theorem keyIs_int (i : Int) (t : Tok) : keyIs (.inl i) (.int i t) = true := by simp [keyIs, Value.isInt]
theorem keyIs_str (x : Str) (t : Tok) : keyIs (.inr x) (.str x t) = true := by simp [keyIs, Value.isStrOf]
theorem key_ll (a b : Int) : decide ((Sum.inl a : Key) = Sum.inl b) = (a == b) := by
  by_cases e : a = b
  · subst e; simp
  · have h : ¬ (Sum.inl a : Key) = Sum.inl b := fun q => e (Sum.inl.inj q)
    rw [decide_eq_false h]
    exact (beq_eq_false_iff_ne.mpr e).symm
theorem key_rr (a b : Str) : decide ((Sum.inr a : Key) = Sum.inr b) = decide (a = b) := by
  by_cases e : a = b
  · subst e; simp
  · have h : ¬ (Sum.inr a : Key) = Sum.inr b := fun q => e (Sum.inr.inj q)
    rw [decide_eq_false h, decide_eq_false e]
theorem key_lr (a : Int) (b : Str) : decide ((Sum.inl a : Key) = Sum.inr b) = false := decide_eq_false (fun q => nomatch q)
theorem key_rl (a : Str) (b : Int) : decide ((Sum.inr a : Key) = Sum.inl b) = false := decide_eq_false (fun q => nomatch q)
def mixKind (prog : Program) (w : World) : PySem.KeyKind prog w Key where
  is := keyIs
  hash := keyH w
  inj := fun v a b ha hb => by
    rcases keyIs_shape ha with ⟨i, t, rfl, rfl⟩ | ⟨x, t, rfl, rfl⟩
    · rcases keyIs_shape hb with ⟨j, u, rfl, e⟩ | ⟨y, u, rfl, e⟩
      · injection e with e1 _; rw [e1]
      · exact nomatch e
    · rcases keyIs_shape hb with ⟨j, u, rfl, e⟩ | ⟨y, u, rfl, e⟩
      · exact nomatch e
      · injection e with e1 _; rw [e1]
  byValue := fun k v h => by
    rcases keyIs_shape h with ⟨i, t, rfl, rfl⟩ | ⟨x, t, rfl, rfl⟩ <;> rfl
  pyHash := fun hv h => by
    rcases keyIs_shape hv with ⟨i, t, rfl, rfl⟩ | ⟨x, t, rfl, rfl⟩
    · exact wpAny_pyHash_int h
    · exact wpAny_pyHash_str h
  eqBool := fun hu hv h => by
    rcases keyIs_shape hu with ⟨i, t, rfl, rfl⟩ | ⟨x, t, rfl, rfl⟩
    · rcases keyIs_shape hv with ⟨j, u, rfl, rfl⟩ | ⟨y, u, rfl, rfl⟩
      · rw [key_ll] at h; exact wpAny_eqBool_int h
      · rw [key_lr] at h; exact SeqAt.EqAt.int_str i t y u _ _ _ _ h
    · rcases keyIs_shape hv with ⟨j, u, rfl, rfl⟩ | ⟨y, u, rfl, rfl⟩
      · rw [key_rl] at h; exact SeqAt.EqAt.str_int x t j u _ _ _ _ h
      · rw [key_rr] at h; exact wpAny_eqBool_str h
  «strs» := fun k x t v h => by
    rcases keyIs_shape h with ⟨i, u, rfl, e⟩ | ⟨y, u, rfl, e⟩
    · exact nomatch e
    · injection e with e1 _
      subst e1
      cases v <;> rfl
theorem mixKind_int (prog : Program) (w : World) (i : Int) (t : Tok) : (mixKind prog w).is (.inl i) (.int i t) = true := keyIs_int i t
theorem mixKind_str (prog : Program) (w : World) (x : Str) (t : Tok) : (mixKind prog w).is (.inr x) (.str x t) = true := keyIs_str x t
end L2
namespace L2
open PySem PySem.Spec PyProof.Rows
inductive V where
  | non | bl (b : Bool) | int (i : Int) | str (x : Str) | byt (b : Array UInt8) | flt (b : UInt64) | ref (a : Addr) | ty (n : String)
  deriving DecidableEq
def RelV : V → Value → Prop
  | .non, u => u = Value.none
  | .bl b, u => u = Value.bool b
  | .int i, u => ∃ t, u = Value.int i t
  | .str x, u => ∃ t, u = Value.str x t
  | .byt b, u => ∃ t, u = Value.bytes b t
  | .flt b, u => ∃ t, u = Value.float b t
  | .ref a, u => u = Value.ref a
  | .ty n, u => u = Value.type n
abbrev Vals : List V → List Value → Prop := Paired RelV
theorem Vals.length {xs : List V} {us : List Value} (r : Vals xs us) : xs.length = us.length := Paired.length r
theorem Vals.get : ∀ {xs : List V} {us : List Value} {i : Nat} {x : V}, Vals xs us → xs[i]? = some x → ∃ u, us[i]? = some u ∧ RelV x u
  | _, _, _, _, .nil, e => by simp at e
  | _, _, 0, _, .cons r _, e => by simp at e; subst e; exact ⟨_, rfl, r⟩
  | _, _, i + 1, x, .cons _ t, e => by
    obtain ⟨u, h1, h2⟩ := Vals.get (i := i) (x := x) t (by simpa using e)
    exact ⟨u, by simpa using h1, h2⟩
theorem Vals.set {x : V} {u : Value} (r : RelV x u) : ∀ {xs : List V} {us : List Value} (i : Nat), Vals xs us → Vals (xs.set i x) (us.set i u)
  | _, _, _, .nil => .nil
  | _, _, 0, .cons _ t => .cons r t
  | _, _, i + 1, .cons q t => .cons q (Vals.set r i t)
theorem Vals.append : ∀ {xs ys : List V} {us ws : List Value}, Vals xs us → Vals ys ws → Vals (xs ++ ys) (us ++ ws)
  | _, _, _, _, .nil, s => s
  | _, _, _, _, .cons r t, s => .cons r (Vals.append t s)
theorem Vals.take : ∀ {xs : List V} {us : List Value} (n : Nat), Vals xs us → Vals (xs.take n) (us.take n)
  | _, _, 0, _ => .nil
  | _, _, _ + 1, .nil => .nil
  | _, _, n + 1, .cons r t => .cons r (Vals.take n t)
theorem Vals.drop : ∀ {xs : List V} {us : List Value} (n : Nat), Vals xs us → Vals (xs.drop n) (us.drop n)
  | _, _, 0, r => r
  | _, _, _ + 1, .nil => .nil
  | _, _, n + 1, .cons _ t => Vals.drop n t
theorem Vals.none_of : ∀ {xs : List V} {us : List Value} {i : Nat}, Vals xs us → xs[i]? = none → us[i]? = none := fun {xs us i} r e => by
  have h1 := r.length
  have h2 : xs.length ≤ i := List.getElem?_eq_none_iff.mp e
  exact List.getElem?_eq_none_iff.mpr (by omega)
def RelO : Option V → Option Value → Prop
  | some v, some u => RelV v u
  | none, none => True
  | _, _ => False
def KV {κ : Type} : List (κ × V) → List (κ × Value) → Prop := Paired fun (p : κ × V) (q : κ × Value) => p.1 = q.1 ∧ RelV p.2 q.2
def kV : Key → V
  | .inl i => .int i
  | .inr x => .str x
inductive HO where
  | lst (xs : List V)
  | tup (xs : List V)
  | dK (kvs : List (Key × V)) | dT (kvs : List (List Key × V))
  | set (S : Int → Bool) (n : Nat)
  | ins (C dx : Addr) (fs : List (Str × V))
  | own (x : Addr)
  | xd (fs : List (Str × V))
  | met (f x : Addr)
  | rng (lo hi : Int)
  | frz (o : Obj) (u : HO)
  | tbl (ps : Array Value)
  | ext (φ : Heap → Prop)
abbrev Hp := Addr → Option HO
def upd (H : Hp) (a : Addr) (o : HO) : Hp := fun b => if b = a then some o else H b
theorem upd_same {H : Hp} {a : Addr} {o : HO} : upd H a o a = some o := by unfold upd; rw [if_pos rfl]
theorem upd_ne {H : Hp} {a b : Addr} {o : HO} (h : b ≠ a) : upd H a o b = H b := by unfold upd; rw [if_neg h]
theorem ne_of {H : Hp} {a b : Addr} {o u : HO} (h : H a = some o) (h' : H b = some u) (d : o ≠ u) : a ≠ b := by
  intro e; subst e; rw [h] at h'; exact d (Option.some.inj h')
theorem ne_of_none {H : Hp} {a b : Addr} {o : HO} (h : H a = some o) (h' : H b = none) : a ≠ b := by
  intro e; subst e; rw [h] at h'; cases h'
section
variable (P : Program) (w : World)
def ObjOk (H : Hp) (h : Heap) (a : Addr) : HO → Prop
  | .lst xs => xs.length ≤ sizeLine ∧ ∃ (its : List Value) (n : Nat), Vals xs its ∧ h.get? a = some { cls := .type "list", data := .seq its.toArray n }
  | .tup xs => xs.length ≤ sizeLine ∧ ∃ its : List Value, Vals xs its ∧ IsTup h a its.toArray
  | .dK kvs => kvs.length ≤ sizeLine ∧ (a == sysModules) = false ∧ ∃ vs, KV kvs vs ∧ h.DictOf (mixKind P w) a vs
  | .dT kvs => kvs.length ≤ sizeLine ∧ (a == sysModules) = false ∧ ∃ xs : List (List Key × Addr × Value),
      Paired (fun (p : List Key × V) (q : List Key × Addr × Value) => p.1 = q.1 ∧ H q.2.1 = some (.tup (p.1.map kV)) ∧ RelV p.2 q.2.2) kvs xs ∧
      ∃ o es ep, h.get? a = some o ∧ o.ExactDict ∧ o.data = .dict es ep ∧ es.toList = xs.map (entryOfKey (tupleKind (mixKind P w))) ∧ (xs.map (·.1)).Nodup
  | .set S n => h.SetOf (intKind P w) a S n
  | .ins C dx fs => H dx = some (.own a) ∧ fs.length ≤ 1000 ∧ dx ≠ a ∧ h.get? a = some (PySem.W.instObj C dx) ∧
      ∃ mA, h.Ns1 dx mA ∧ (∀ f, RelO (fs.lookup f) (mA f)) ∧ PySem.Within mA (fs.map (·.1))
  | .own _ => ∃ o, h.get? a = some o
  | .xd fs => ∃ mA, h.Ns1 a mA ∧ ∀ f, RelO (fs.lookup f) (mA f)
  | .rng lo hi => ∃ t u v, h.get? a = some { cls := .type "range", data := .fields #[.int lo t, .int hi u, .int 1 v] }
  | .frz o u => h.get? a = some o ∧ ObjOk H h a u
  | .tbl ps => h.get? a = some { cls := .none, data := .fields ps }
  | .met f x => h.get? a = some (PySem.W.methodObj (.ref f) (.ref x))
  | .ext φ => φ h ∧ (∃ o, h.get? a = some o) ∧ ∀ h1 h2 : Heap, φ h1 → (∀ o, h1.get? a = some o → h2.get? a = some o) → φ h2
def HOk (H : Hp) (h : Heap) : Prop := ∀ a o, H a = some o → ObjOk P w H h a o
end
section
variable {P : Program} {w : World} {H H' : Hp} {h h' : Heap} {a : Addr} {o : HO}
theorem ObjOk.lt (x : ObjOk P w H h a o) : a < h.objs.size := by
  cases o with
  | lst xs => obtain ⟨_, _, _, _, e⟩ := x; exact Heap.lt_size e
  | tup xs => obtain ⟨_, _, _, p⟩ := x; exact p.lt
  | dK kvs => obtain ⟨_, _, _, _, o, _, _, e, _⟩ := x; exact Heap.lt_size e
  | dT kvs => obtain ⟨_, _, _, _, o, _, _, e, _⟩ := x; exact Heap.lt_size e
  | set S n => obtain ⟨o, _, _, _, e, _⟩ := x; exact Heap.lt_size e
  | ins C dx fs => obtain ⟨_, _, _, e, _⟩ := x; exact Heap.lt_size e
  | own y => obtain ⟨_, e⟩ := x; exact Heap.lt_size e
  | xd fs => obtain ⟨_, ⟨_, _, _, e, _⟩, _⟩ := x; exact Heap.lt_size e
  | rng lo hi => obtain ⟨_, _, _, e⟩ := x; exact Heap.lt_size e
  | frz ob u => obtain ⟨e, _⟩ := x; exact Heap.lt_size e
  | tbl ps => exact Heap.lt_size (show h.get? a = some _ from x)
  | met f y => exact Heap.lt_size (show h.get? a = some _ from x)
  | ext φ => obtain ⟨_, ⟨_, e⟩, _⟩ := x; exact Heap.lt_size e
theorem Paired.mapP {α β : Type} {F G : α → β → Prop} : ∀ {l₁ : List α} {l₂ : List β}, Paired F l₁ l₂ → (∀ a b, F a b → G a b) → Paired G l₁ l₂
  | _, _, .nil, _ => .nil
  | _, _, .cons r t, f => .cons (f _ _ r) (Paired.mapP t f)
theorem ObjOk.stay (x : ObjOk P w H h a o) (k : ∀ b u, (b = a ∨ H b = some (.own a)) → h.get? b = some u → h'.get? b = some u)
    (ho : ∀ b, H b = some (.own a) → H' b = some (.own a)) (ht : ∀ b xs, H b = some (.tup xs) → H' b = some (.tup xs)) : ObjOk P w H' h' a o := by
  induction o with
  | lst xs => obtain ⟨z, its, n, r, e⟩ := x; exact ⟨z, its, n, r, k _ _ (.inl rfl) e⟩
  | tup xs => obtain ⟨z, its, r, ob, e, c⟩ := x; exact ⟨z, its, r, ob, k _ _ (.inl rfl) e, c⟩
  | dK kvs => obtain ⟨z, y, vs, r, ob, es, ep, e, c⟩ := x; exact ⟨z, y, vs, r, ob, es, ep, k _ _ (.inl rfl) e, c⟩
  | dT kvs =>
    obtain ⟨z, y, xs, r, ob, es, ep, e, c⟩ := x
    exact ⟨z, y, xs, Paired.mapP r fun p q z => ⟨z.1, ht _ _ z.2.1, z.2.2⟩, ob, es, ep, k _ _ (.inl rfl) e, c⟩
  | set S n => obtain ⟨ob, es, ep, t, e, c⟩ := x; exact ⟨ob, es, ep, t, k _ _ (.inl rfl) e, c⟩
  | ins C dx fs =>
    obtain ⟨d, z, ne, e, mA, ⟨od, es, ep, e2, c⟩, r⟩ := x
    exact ⟨ho _ d, z, ne, k _ _ (.inl rfl) e, mA, ⟨od, es, ep, k _ _ (.inr d) e2, c⟩, r⟩
  | own y => obtain ⟨ob, e⟩ := x; exact ⟨ob, k _ _ (.inl rfl) e⟩
  | xd fs => obtain ⟨mA, ⟨od, es, ep, e, c⟩, r⟩ := x; exact ⟨mA, ⟨od, es, ep, k _ _ (.inl rfl) e, c⟩, r⟩
  | rng lo hi => obtain ⟨t, u, v, e⟩ := x; exact ⟨t, u, v, k _ _ (.inl rfl) e⟩
  | frz ob u ih => obtain ⟨e, q⟩ := x; exact ⟨k _ _ (.inl rfl) e, ih q⟩
  | tbl ps =>
    have e : h.get? a = some { cls := .none, data := .fields ps } := x
    show h'.get? a = some { cls := .none, data := .fields ps }
    exact k a _ (.inl rfl) e
  | met f y =>
    have e : h.get? a = some (PySem.W.methodObj (.ref f) (.ref y)) := x
    show h'.get? a = some (PySem.W.methodObj (.ref f) (.ref y))
    exact k a _ (.inl rfl) e
  | ext φ => obtain ⟨p, ⟨o, e⟩, st⟩ := x; exact ⟨st _ _ p fun o q => k _ _ (.inl rfl) q, ⟨o, k _ _ (.inl rfl) e⟩, st⟩
theorem HOk.lt (x : HOk P w H h) (e : H a = some o) : a < h.objs.size := (x a o e).lt
theorem HOk.fresh (x : HOk P w H h) (e : h.objs.size ≤ a) : H a = none := by
  cases q : H a with
  | none => rfl
  | some u => exact absurd (Nat.lt_of_lt_of_le (x.lt q) e) (Nat.lt_irrefl _)
theorem HOk.kept (x : HOk P w H h) (k : ∀ b u, h.get? b = some u → h'.get? b = some u) : HOk P w H h' := fun a o e =>
  (x a o e).stay (fun b u _ q => k b u q) (fun _ q => q) fun _ _ q => q
theorem HOk.laid (x : HOk P w H h) (k : ∀ b u, h.get? b = some u → h'.get? b = some u) (hp : h.objs.size ≤ a) (new : ObjOk P w (upd H a o) h' a o) : HOk P w (upd H a o) h' := fun b u e => by
  have hn := x.fresh hp
  by_cases hb : b = a
  · subst hb; rw [upd_same] at e; cases e; exact new
  · rw [upd_ne hb] at e
    exact (x b u e).stay (fun c v _ q => k c v q) (fun c q => by rw [upd_ne (ne_of_none q hn)]; exact q) fun c xs q => by rw [upd_ne (ne_of_none q hn)]; exact q
end
def Rd (H : Hp) (a : Addr) (u : HO) : Prop := H a = some u ∨ ∃ o, H a = some (.frz o u)
theorem Rd.of {H : Hp} {a : Addr} {u : HO} (h : H a = some u) : Rd H a u := .inl h
theorem Rd.ok {P : Program} {w : World} {H : Hp} {h : Heap} {a : Addr} {u : HO} (r : Rd H a u) (x : HOk P w H h) : ObjOk P w H h a u := by
  rcases r with r | ⟨o, r⟩
  · exact x a u r
  · obtain ⟨_, q⟩ := x a _ r
    exact q
def Mut : Option HO → Prop
  | some (.lst _) => True
  | some (.dK _) => True
  | some (.dT _) => True
  | some (.set _ _) => True
  | some (.ins _ _ _) => True
  | some (.ext _) => True
  | _ => False
section
variable {P : Program} {w : World} {H : Hp} {h h' : Heap} {x e : Addr} {o' : HO}
theorem HOk.write (ok : HOk P w H h) (mu : Mut (H x)) (he : e = x ∨ H e = some (.own x)) (k : ∀ b u, b ≠ e → h.get? b = some u → h'.get? b = some u) (heo : ∃ u, h'.get? e = some u)
    (new : ObjOk P w (upd H x o') h' x o') : HOk P w (upd H x o') h' := fun b u q => by
  have nown : ∀ c y, H c = some (.own y) → c ≠ x := fun c y r z => by subst z; rw [r] at mu; exact mu
  have ntup : ∀ c xs, H c = some (.tup xs) → c ≠ x := fun c xs r z => by subst z; rw [r] at mu; exact mu
  by_cases hb : b = x
  · subst hb; rw [upd_same] at q; cases q; exact new
  · rw [upd_ne hb] at q
    by_cases hbe : b = e
    · have q' : H b = some (.own x) := by
        rcases he with z | z
        · exact absurd (hbe.trans z) hb
        · rw [hbe]; exact z
      rw [q] at q'; cases q'
      obtain ⟨v, hv⟩ := heo
      exact ⟨v, by rw [hbe]; exact hv⟩
    · refine (ok b u q).stay (fun c v hc r => k c v ?_ r) (fun c r => by rw [upd_ne (nown c b r)]; exact r) fun c xs r => by rw [upd_ne (ntup c xs r)]; exact r
      rcases hc with rfl | hc
      · exact hbe
      · rintro rfl
        rcases he with z | z
        · exact nown c b hc z
        · rw [hc] at z; cases z; exact hb rfl
end
structure Un (fs ex : List Addr) (H H' : Hp) (h h' : Heap) : Prop where
  keep : ∀ b o, h.get? b = some o → H b = none → b ∉ fs → b ∉ ex → h'.get? b = some o
  slot : ∀ b o, h.get? b = some o → H b = none → b ∈ fs → b ∉ ex → ∃ sl, h'.get? b = some { o with slots := sl }
  free : ∀ b o, h.get? b = some o → H b = none → b ∉ ex → H' b = none
  there : ∀ b o, h.get? b = some o → b ∉ ex → ∃ o', h'.get? b = some o'
  tups : ∀ b xs, H b = some (.tup xs) → H' b = some (.tup xs)
  frzs : ∀ b o u, H b = some (.frz o u) → H' b = some (.frz o u)
  tbls : ∀ b ps, H b = some (.tbl ps) → ∃ more, H' b = some (.tbl (ps ++ more))
section
variable {fs fs' ex ex' : List Addr} {H H1 H2 : Hp} {h h1 h2 h' : Heap} {a x e : Addr} {o : HO}
theorem Un.any (u : Un fs ex H H1 h h1) {b : Addr} {ob : Obj} (q : h.get? b = some ob) (n : H b = none) (hx : b ∉ ex) : ∃ sl, h1.get? b = some { ob with slots := sl } := by
  by_cases hb : b ∈ fs
  · exact u.slot b ob q n hb hx
  · exact ⟨ob.slots, u.keep b ob q n hb hx⟩
theorem Un.trans (a : Un fs ex H H1 h h1) (b : Un fs ex H1 H2 h1 h2) : Un fs ex H H2 h h2 where
  keep := fun c ob q n hc hx => b.keep c ob (a.keep c ob q n hc hx) (a.free c ob q n hx) hc hx
  slot := fun c ob q n hc hx => by
    obtain ⟨sl, e1⟩ := a.slot c ob q n hc hx
    obtain ⟨sl', e2⟩ := b.slot c _ e1 (a.free c ob q n hx) hc hx
    exact ⟨sl', e2⟩
  free := fun c ob q n hx => by
    obtain ⟨o', e1⟩ := a.there c ob q hx
    exact b.free c o' e1 (a.free c ob q n hx) hx
  there := fun c ob q hx => by
    obtain ⟨o', e1⟩ := a.there c ob q hx
    exact b.there c o' e1 hx
  tups := fun c xs q => b.tups c xs (a.tups c xs q)
  frzs := fun c ob xs q => b.frzs c ob xs (a.frzs c ob xs q)
  tbls := fun c ps q => by
    obtain ⟨m1, e1⟩ := a.tbls c ps q
    obtain ⟨m2, e2⟩ := b.tbls c _ e1
    exact ⟨m1 ++ m2, by rw [e2, Array.append_assoc]⟩
theorem Un.kept (k : ∀ b u, h.get? b = some u → h'.get? b = some u) : Un fs ex H H h h' :=
  ⟨fun b ob q _ _ _ => k b ob q, fun b ob q _ _ _ => ⟨ob.slots, k b ob q⟩, fun _ _ _ n _ => n, fun b ob q _ => ⟨ob, k b ob q⟩, fun _ _ q => q, fun _ _ _ q => q, fun _ ps q => ⟨#[], by rw [q]; simp⟩⟩
theorem Un.refl : Un fs ex H H h h := Un.kept fun _ _ q => q
theorem Un.laid (k : ∀ b u, h.get? b = some u → h'.get? b = some u) (hp : h.objs.size ≤ a) (hn : H a = none) : Un fs ex H (upd H a o) h h' where
  keep := fun b u q _ _ _ => k b u q
  slot := fun b u q _ _ _ => ⟨u.slots, k b u q⟩
  free := fun b u q n _ => by rw [upd_ne (Nat.ne_of_lt (Nat.lt_of_lt_of_le (Heap.lt_size q) hp))]; exact n
  there := fun b u q _ => ⟨u, k b u q⟩
  tups := fun b xs q => by rw [upd_ne (ne_of_none q hn)]; exact q
  frzs := fun b u xs q => by rw [upd_ne (ne_of_none q hn)]; exact q
  tbls := fun b ps q => ⟨#[], by rw [upd_ne (ne_of_none q hn), q]; simp⟩
theorem Un.write (mu : Mut (H x)) (he : e = x ∨ H e = some (.own x)) (k : ∀ b u, b ≠ e → h.get? b = some u → h'.get? b = some u) (heo : ∃ u, h'.get? e = some u) : Un fs ex H (upd H x o) h h' := by
  have hx : ∀ b, H b = none → b ≠ x := fun b n z => by subst z; rw [n] at mu; exact mu
  have hb : ∀ b, H b = none → b ≠ e := fun b n z => by
    subst z
    rcases he with r | r
    · exact hx b n r
    · rw [n] at r; cases r
  have hm : ∀ b u, H b = some u → ¬ Mut (some u) → b ≠ x := fun b u q nm z => by subst z; rw [q] at mu; exact nm mu
  refine ⟨fun b u q n _ _ => k b u (hb b n) q, fun b u q n _ _ => ⟨u.slots, k b u (hb b n) q⟩, fun b u q n _ => by rw [upd_ne (hx b n)]; exact n, fun b u q _ => ?_,
    fun b xs q => by rw [upd_ne (hm b _ q fun z => z)]; exact q, fun b u xs q => by rw [upd_ne (hm b _ q fun z => z)]; exact q, fun b ps q => ⟨#[], by rw [upd_ne (hm b _ q fun z => z), q]; simp⟩⟩
  by_cases hbe : b = e
  · subst hbe; exact heo
  · exact ⟨u, k b u hbe q⟩
theorem Un.mono (u : Un fs ex H H1 h h1) (hs : ∀ b ∈ fs, b ∈ fs') (hx : ∀ b ∈ ex, b ∈ ex') : Un fs' ex' H H1 h h1 :=
  ⟨fun b ob q n hb he => u.keep b ob q n (fun z => hb (hs b z)) fun z => he (hx b z), fun _ _ q n _ he => u.any q n fun z => he (hx _ z), fun b ob q n he => u.free b ob q n fun z => he (hx b z), fun b ob q he => u.there b ob q fun z => he (hx b z), u.tups, u.frzs, u.tbls⟩
end
def trk (h : Heap) (H : Hp) : List Addr := (List.range h.objs.size).filter fun a => (H a).isSome
def hidT (h : Heap) (H : Hp) : Heap := PySem.W.hideAll h (trk h H)
theorem hidT_size (h : Heap) (H : Hp) : (hidT h H).objs.size = h.objs.size := PySem.W.hideAll_size _ _
theorem hidT_get {h : Heap} {H : Hp} {b : Addr} {o : Obj} (e : h.get? b = some o) (n : H b = none) : (hidT h H).get? b = some o :=
  PySem.W.hideAll_get _ e fun hm => by
    have q : (H b).isSome = true := (List.mem_filter.mp hm).2
    rw [n] at q; simp at q
theorem of_hidT {h : Heap} {H : Hp} {b : Addr} {o : Obj} (e : (hidT h H).get? b = some o) : h.get? b = some o ∧ H b = none := by
  have e' : h.get? b = some o := PySem.W.of_hideAll (trk h H) e
  refine ⟨e', ?_⟩
  cases q : H b with
  | none => rfl
  | some x =>
    have hm : b ∈ trk h H := List.mem_filter.mpr ⟨List.mem_range.mpr (Heap.lt_size e'), by simp [q]⟩
    have z : (hidT h H).get? b = none := PySem.W.hideAll_none (trk h H) hm
    rw [z] at e; cases e
def allNews (g h : Heap) (L : Addr) : List (Addr × Obj) := (List.range h.objs.size).filterMap fun a => if a = L ∨ (g.get? a).isSome = true then none else (h.get? a).map fun o => (a, o)
def rest (g h : Heap) (L d : Addr) : List (Addr × Obj) := (allNews g h L).filter fun p => decide (p.1 ≠ d)
end L2
namespace L2
open PySem PySem.Spec PyProof.Rows
structure Mod (K : PySem.W.Frag) (mg : Str → Option Value) (base : Heap) : Prop where
  kin : K.In base
  glob : base.Ns mainGlobals mg
  blt : ∃ mb, base.Ns builtinsNs mb ∧ ∀ x : Str, x ≠ "__name__" → mb x = bootBuiltins x
  nolimit : base.NoLimit
structure Cx where
  prog : Program
  w : World
  K : PySem.W.Frag
  mg : Str → Option Value
  base : Heap
  A : Around
  N : List Str
  s₀ : Shared
  H₀ : Hp
  env : Env
  outer : List Env
  stack : List Env
  ex : List Addr
  fn : Str → Bool
  calm : Bool
  pn : List (Addr × Obj)
  xe : Value → Shared → Prop
def frs (l : List Env) : List Addr := l.filterMap (·.frame)
abbrev Cx.fs (X : Cx) : List Addr := frs X.outer
def Vis (sc : Scope) (x : Str) : Prop := sc.names.lookup x = some .local ∨ sc.names.lookup x = some .cell ∨ sc.names.lookup x = some .free
def Loc (sc : Scope) (x : Str) : Prop := sc.names.lookup x = some .local ∨ sc.names.lookup x = some .cell
def Look (env : Env) (h : Heap) (m : Str → Option Value) (x : Str) (u : Value) : Prop :=
  (env.kindOf x = some .local ∧ m x = some u) ∨ ((env.kindOf x = some .cell ∨ env.kindOf x = some .free) ∧ ∃ c, env.cells.lookup x = some c ∧ h.IsCell c (some u))
structure Cx.Ok (X : Cx) : Prop where
  mod : Mod X.K X.mg X.base
  kind : X.env.scope.kind = .function
  glob : X.env.globals = mainGlobals
  blt : X.env.builtins = builtinsNs
  above : X.s₀.heap.objs.size ≤ X.env.locals
  inj : ∀ x y c, X.env.cells.lookup x = some c → X.env.cells.lookup y = some c → x = y
  has : ∀ x, (X.env.kindOf x = some .cell ∨ X.env.kindOf x = some .free) → ∃ c, X.env.cells.lookup x = some c
  cab : ∀ x c, X.fn x = true → X.env.cells.lookup x = some c → X.s₀.heap.objs.size ≤ c
  hd : X.calm = true → X.A.handled = none
  frames : X.A.frames = some X.stack
  stk : X.stack = X.outer ∨ (X.stack = X.env :: X.outer ∧ X.env.frame = some X.env.locals)
  exf : ∀ b ∈ X.ex, b ≠ X.env.locals ∧ ∀ x c, X.env.cells.lookup x = some c → c ≠ b
  bs : ∀ b o, X.base.get? b = some o → X.s₀.heap.get? b = some o ∧ X.H₀ b = none
  bsz : X.base.objs.size ≤ X.s₀.heap.objs.size
  noex : ∀ b o, X.base.get? b = some o → b ∉ X.ex
  exfs : ∀ b ∈ X.ex, b ∉ X.fs
  funs : X.s₀.heap.FunFrames X.base X.outer
  frf : ∀ b ∈ X.fs, X.H₀ b = none
structure Inv (X : Cx) (pins : List (Addr × Obj)) (σ : List (Option V)) (H : Hp) (s : Shared) : Prop where
  ok : X.Ok
  os : s.os = X.s₀.os
  bare : AllBare s.gens
  base : Un X.fs X.ex X.H₀ H X.s₀.heap s.heap
  loc : ∃ m, s.heap.Ns X.env.locals m ∧ ∀ (i : Nat) (x : Str) (v : V), X.N[i]? = some x → σ[i]? = some (some v) → Vis X.env.scope x → ∃ u, RelV v u ∧ Look X.env s.heap m x u
  cell : ∀ x c, X.env.cells.lookup x = some c → ∃ v, s.heap.IsCell c v
  free : H X.env.locals = none
  freeC : ∀ x c, X.env.cells.lookup x = some c → H c = none
  pin : ∀ p ∈ X.pn ++ pins, s.heap.get? p.1 = some p.2 ∧ H p.1 = none ∧ p.1 ≠ X.env.locals ∧ p.1 ∉ X.fs ∧ ∀ v, p.2.data ≠ .cell v
  hok : HOk X.prog X.w H s.heap
  len : σ.length = X.N.length
section
variable {X : Cx} {pins : List (Addr × Obj)} {σ : List (Option V)} {H H' : Hp} {s : Shared} {h' : Heap}
theorem Cx.Ok.nofr (ok : X.Ok) {b : Addr} {o : Obj} (e : X.base.get? b = some o) : b ∉ X.fs := fun hb => by
  have := (ok.funs.mem hb).1
  rw [e] at this; cases this
theorem Inv.bs (I : Inv X pins σ H s) : ∀ b o, X.base.get? b = some o → s.heap.get? b = some o ∧ H b = none := fun b o e =>
  ⟨I.base.keep b o (I.ok.bs b o e).1 (I.ok.bs b o e).2 (I.ok.nofr e) (I.ok.noex b o e), I.base.free b o (I.ok.bs b o e).1 (I.ok.bs b o e).2 (I.ok.noex b o e)⟩
theorem Inv.bk (I : Inv X pins σ H s) : ∀ b o, X.base.get? b = some o → s.heap.get? b = some o := fun b o e => (I.bs b o e).1
theorem Inv.mod (I : Inv X pins σ H s) : Mod X.K X.mg X.base := I.ok.mod
theorem Inv.kIn (I : Inv X pins σ H s) : X.K.In s.heap := I.ok.mod.kin.keeps I.bk
theorem Inv.nolimit (I : Inv X pins σ H s) : s.heap.NoLimit := I.ok.mod.nolimit.keeps I.bk
theorem Inv.fr (I : Inv X pins σ H s) : ∃ m, Fr X.base X.env.locals s.heap m :=
  let ⟨m, hn, _⟩ := I.loc
  ⟨m, hn, I.bk, Nat.le_trans I.ok.bsz I.ok.above⟩
theorem Inv.lt (I : Inv X pins σ H s) : X.env.locals < s.heap.objs.size := let ⟨_, hn, _⟩ := I.loc; hn.lt
theorem Inv.sz (I : Inv X pins σ H s) : X.s₀.heap.objs.size ≤ s.heap.objs.size := Nat.le_trans I.ok.above (Nat.le_of_lt I.lt)
theorem Inv.nofs (I : Inv X pins σ H s) {a : Addr} (h : s.heap.objs.size ≤ a) : a ∉ X.fs := fun hb => by
  obtain ⟨_, o, ho, _⟩ := I.ok.funs.mem hb
  exact absurd (Nat.lt_of_lt_of_le (Heap.lt_size ho) (Nat.le_trans I.sz h)) (Nat.lt_irrefl _)
theorem Inv.cne (I : Inv X pins σ H s) : ∀ x c, X.env.cells.lookup x = some c → c ≠ X.env.locals := fun x c e z => by
  obtain ⟨v, o, ho, hd⟩ := I.cell x c e
  obtain ⟨m, ⟨o', es, ep, ho', hd', _⟩, _⟩ := I.loc
  rw [z, ho'] at ho; cases ho; rw [hd'] at hd; cases hd
theorem Inv.funs (I : Inv X pins σ H s) : s.heap.FunFrames X.base X.outer := by
  have all : ∀ (l : List Env), (∀ b ∈ frs l, b ∈ X.fs) → X.s₀.heap.FunFrames X.base l → s.heap.FunFrames X.base l := by
    intro l
    induction l with
    | nil => intro _ _; trivial
    | cons env r ih =>
      intro hs hl
      obtain ⟨hk, ⟨L, o, hf, hn, ho, hd⟩, hr⟩ := hl
      have hL : L ∈ X.fs := hs L (by unfold frs; rw [List.filterMap_cons, hf]; exact List.mem_cons_self)
      obtain ⟨sl, e⟩ := I.base.slot L o ho (I.ok.frf L hL) hL fun z => I.ok.exfs L z hL
      exact ⟨hk, ⟨L, _, hf, hn, e, hd⟩, ih (fun b hb => hs b (by unfold frs; rw [List.filterMap_cons, hf]; exact List.mem_cons_of_mem _ hb)) hr⟩
  exact all X.outer (fun _ hb => hb) I.ok.funs
theorem Inv.stack (I : Inv X pins σ H s) : s.heap.FunFrames X.base X.stack := by
  rcases I.ok.stk with e | ⟨e, hf⟩
  · rw [e]; exact I.funs
  · rw [e]
    obtain ⟨m, hn, _⟩ := I.loc
    refine .cons (by rw [I.ok.kind]; decide) hf hn ?_ I.funs
    exact Heap.get?_none_of_le (Nat.le_trans I.ok.bsz I.ok.above)
theorem Inv.stkSub (I : Inv X pins σ H s) : ∀ b ∈ frs X.stack, b ∈ X.env.locals :: X.fs := fun b hb => by
  rcases I.ok.stk with e | ⟨e, hf⟩
  · rw [e] at hb; exact List.mem_cons_of_mem _ hb
  · rw [e] at hb
    unfold frs at hb
    rw [List.filterMap_cons, hf] at hb
    exact hb
theorem Inv.stkFree (I : Inv X pins σ H s) : ∀ b ∈ frs X.stack, H b = none := fun b hb => by
  rcases List.mem_cons.mp (I.stkSub b hb) with e | hb
  · rw [e]; exact I.free
  · obtain ⟨_, o, ho, _⟩ := I.ok.funs.mem hb
    exact I.base.free b o ho (I.ok.frf b hb) fun z => I.ok.exfs b z hb
theorem Inv.step {g' : Array GenState} {t' : Nat} {d' : Drawn} {ch : List Addr} (I : Inv X pins σ H s)
    (hch : ∀ b ∈ ch, (b ∈ X.ex ∨ X.s₀.heap.objs.size ≤ b) ∧ b ≠ X.env.locals ∧ (∀ x c, X.env.cells.lookup x = some c → c ≠ b) ∧ ∀ p ∈ X.pn ++ pins, p.1 ≠ b)
    (keep : ∀ b o, b ≠ X.env.locals → b ∉ X.fs → b ∉ ch → s.heap.get? b = some o → H b = none → h'.get? b = some o)
    (slot : ∀ b o, b ≠ X.env.locals → b ∈ X.fs → b ∉ ch → s.heap.get? b = some o → H b = none → ∃ sl, h'.get? b = some { o with slots := sl }) (free : ∀ b o, b ∉ ch → s.heap.get? b = some o → H b = none → H' b = none)
    (there : ∀ b o, b ∉ ch → s.heap.get? b = some o → ∃ o', h'.get? b = some o')
    (tups : ∀ b xs, H b = some (.tup xs) → H' b = some (.tup xs)) (frzs : ∀ b o u, H b = some (.frz o u) → H' b = some (.frz o u)) (tbls : ∀ b ps, H b = some (.tbl ps) → ∃ more, H' b = some (.tbl (ps ++ more)))
    (ns : ∀ m, s.heap.Ns X.env.locals m → h'.Ns X.env.locals m) (hok : HOk X.prog X.w H' h') (hg : AllBare g') :
    Inv X pins σ H' { s with heap := h', gens := g', drawn := d', toks := t' } := by
  have neL : ∀ b o, X.s₀.heap.get? b = some o → b ≠ X.env.locals := fun b o e => Nat.ne_of_lt (Nat.lt_of_lt_of_le (Heap.lt_size e) I.ok.above)
  have neC : ∀ b o, X.s₀.heap.get? b = some o → b ∉ X.ex → b ∉ ch := fun b o e hx hb => by
    rcases (hch b hb).1 with z | z
    · exact hx z
    · exact absurd (Nat.lt_of_lt_of_le (Heap.lt_size e) z) (Nat.lt_irrefl _)
  have cellK : ∀ x c, X.env.cells.lookup x = some c → ∀ v, s.heap.IsCell c v → h'.IsCell c v := fun x c e v ⟨o, ho, hd⟩ => by
    have nch : c ∉ ch := fun z => (hch c z).2.2.1 x c e rfl
    by_cases hc : c ∈ X.fs
    · obtain ⟨sl, q⟩ := slot c o (I.cne x c e) hc nch ho (I.freeC x c e)
      exact ⟨_, q, hd⟩
    · exact ⟨o, keep c o (I.cne x c e) hc nch ho (I.freeC x c e), hd⟩
  refine ⟨I.ok, I.os, hg, ⟨fun b o e n hb hx => ?_, fun b o e n hb hx => ?_, fun b o e n hx => ?_, fun b o e hx => ?_, fun b xs e => tups b xs (I.base.tups b xs e), fun b o xs e => frzs b o xs (I.base.frzs b o xs e), fun b ps e => ?_⟩, ?_, fun x c e => ?_, ?_, fun x c e => ?_, fun p hp => ?_, hok, I.len⟩
  · exact keep b o (neL b o e) hb (neC b o e hx) (I.base.keep b o e n hb hx) (I.base.free b o e n hx)
  · obtain ⟨sl, e1⟩ := I.base.slot b o e n hb hx
    obtain ⟨sl', e2⟩ := slot b _ (neL b o e) hb (neC b o e hx) e1 (I.base.free b o e n hx)
    exact ⟨sl', e2⟩
  · obtain ⟨o', e1⟩ := I.base.there b o e hx
    exact free b o' (neC b o e hx) e1 (I.base.free b o e n hx)
  · obtain ⟨o', e1⟩ := I.base.there b o e hx
    exact there b o' (neC b o e hx) e1
  · obtain ⟨m1, e1⟩ := I.base.tbls b ps e
    obtain ⟨m2, e2⟩ := tbls b _ e1
    exact ⟨m1 ++ m2, by rw [e2, Array.append_assoc]⟩
  · obtain ⟨m, hn, hl⟩ := I.loc
    refine ⟨m, ns m hn, fun i x v e1 e2 e3 => ?_⟩
    obtain ⟨u, r, l⟩ := hl i x v e1 e2 e3
    refine ⟨u, r, ?_⟩
    rcases l with l | ⟨k, c, e, z⟩
    · exact .inl l
    · exact .inr ⟨k, c, e, cellK x c e _ z⟩
  · obtain ⟨v, z⟩ := I.cell x c e
    exact ⟨v, cellK x c e v z⟩
  · obtain ⟨m, ⟨o, _, _, ho, _⟩, _⟩ := I.loc
    exact free _ o (fun z => (hch _ z).2.1 rfl) ho I.free
  · obtain ⟨v, o, ho, hd⟩ := I.cell x c e
    exact free c o (fun z => (hch c z).2.2.1 x c e rfl) ho (I.freeC x c e)
  · obtain ⟨e, n, ne, nf, d⟩ := I.pin p hp
    have nch : p.1 ∉ ch := fun z => (hch p.1 z).2.2.2 p hp rfl
    exact ⟨keep p.1 p.2 ne nf nch e n, free p.1 p.2 nch e n, ne, nf, d⟩
theorem Inv.un {t' : Nat} (I : Inv X pins σ H s) (u : Un X.fs [] H H' s.heap h') (hok : HOk X.prog X.w H' h') : Inv X pins σ H' { s with heap := h', toks := t' } := by
  obtain ⟨m, ⟨o, es, ep, ho, r⟩, _⟩ := id I.loc
  obtain ⟨sl, hL⟩ := u.any ho I.free (by simp)
  exact I.step (g' := s.gens) (d' := s.drawn) (ch := []) (fun _ z => nomatch z) (fun b o _ hb _ e n => u.keep b o e n hb (by simp)) (fun b o _ hb _ e n => u.slot b o e n hb (by simp)) (fun b o _ e n => u.free b o e n (by simp)) (fun b o _ e => u.there b o e (by simp)) u.tups u.frzs u.tbls (fun m' hm => by
    obtain ⟨o', es', ep', ho', r'⟩ := hm
    rw [ho] at ho'; cases ho'
    exact ⟨_, es', ep', hL, r'⟩) hok I.bare
theorem Inv.call {g' : Array GenState} {t' : Nat} {d' : Drawn} {ch : List Addr} (I : Inv X pins σ H s) (u : Un (frs X.stack) ch H H' s.heap h') (hok : HOk X.prog X.w H' h') (hg : AllBare g')
    (hch : ∀ b ∈ ch, (b ∈ X.ex ∨ X.s₀.heap.objs.size ≤ b) ∧ b ≠ X.env.locals ∧ (∀ x c, X.env.cells.lookup x = some c → c ≠ b) ∧ ∀ p ∈ X.pn ++ pins, p.1 ≠ b) :
    Inv X pins σ H' { s with heap := h', gens := g', drawn := d', toks := t' } := by
  obtain ⟨m, ⟨o, es, ep, ho, r⟩, _⟩ := id I.loc
  obtain ⟨sl, hL⟩ := u.any ho I.free fun z => (hch _ z).2.1 rfl
  exact I.step (ch := ch) hch (fun b o hL hb hc e n => u.keep b o e n (fun z => (List.mem_cons.mp (I.stkSub b z)).elim hL hb) hc) (fun b o _ _ hc e n => u.any e n hc) (fun b o hc e n => u.free b o e n hc) (fun b o hc e => u.there b o e hc) u.tups u.frzs u.tbls (fun m' hm => by
    obtain ⟨o', es', ep', ho', r'⟩ := hm
    rw [ho] at ho'; cases ho'
    exact ⟨_, es', ep', hL, r'⟩) hok hg
theorem Inv.turned {t' : Nat} {it : Addr} (I : Inv X pins σ H s) (k : ∀ b o, b ≠ it → s.heap.get? b = some o → h'.get? b = some o) (hn : H it = none) (hL : it ≠ X.env.locals)
    (h1 : it ∈ X.ex ∨ X.s₀.heap.objs.size ≤ it) (h2 : ∀ x c, X.env.cells.lookup x = some c → c ≠ it) (h3 : ∀ p ∈ X.pn ++ pins, p.1 ≠ it) : Inv X pins σ H { s with heap := h', toks := t' } := by
  have nit : ∀ b u, H b = some u → b ≠ it := fun b u e z => by rw [z, hn] at e; cases e
  refine I.step (g' := s.gens) (d' := s.drawn) (ch := [it]) (fun b hb => ?_) (fun b o _ _ hc e _ => k b o (fun z => hc (by simp [z])) e) (fun b o _ _ hc e _ => ⟨o.slots, k b o (fun z => hc (by simp [z])) e⟩) (fun _ _ _ _ n => n)
    (fun b o hc e => ⟨o, k b o (fun z => hc (by simp [z])) e⟩) (fun _ _ e => e) (fun _ _ _ e => e) (fun b ps e => ⟨#[], by rw [e]; simp⟩) (fun m hm => ?_) (fun b u e => ?_) I.bare
  · have e : b = it := by simpa using hb
    subst e
    exact ⟨h1, hL, h2, h3⟩
  · obtain ⟨o, es, ep, ho, r⟩ := hm
    exact ⟨o, es, ep, k _ o (Ne.symm hL) ho, r⟩
  · refine (I.hok b u e).stay (fun c v hc q => k c v ?_ q) (fun _ q => q) fun _ _ q => q
    rcases hc with z | z
    · rw [z]; exact nit b u e
    · exact nit c _ z
theorem Inv.tok (I : Inv X pins σ H s) (t : Nat) : Inv X pins σ H { s with toks := t } := I.un (h' := s.heap) (t' := t) Un.refl I.hok
theorem Inv.kept {t' : Nat} (I : Inv X pins σ H s) (k : ∀ b u, s.heap.get? b = some u → h'.get? b = some u) : Inv X pins σ H { s with heap := h', toks := t' } := I.un (Un.kept k) (I.hok.kept k)
theorem Inv.laid {a : Addr} {o : HO} {t' : Nat} (I : Inv X pins σ H s) (k : ∀ b u, s.heap.get? b = some u → h'.get? b = some u) (hp : s.heap.objs.size ≤ a) (new : ObjOk X.prog X.w (upd H a o) h' a o) :
    Inv X pins σ (upd H a o) { s with heap := h', toks := t' } := I.un (Un.laid k hp (I.hok.fresh hp)) (I.hok.laid k hp new)
theorem Inv.write {x e : Addr} {o : HO} {t' : Nat} (I : Inv X pins σ H s) (mu : Mut (H x)) (he : e = x ∨ H e = some (.own x)) (k : ∀ b u, b ≠ e → s.heap.get? b = some u → h'.get? b = some u) (heo : ∃ u, h'.get? e = some u)
    (new : ObjOk X.prog X.w (upd H x o) h' x o) : Inv X pins σ (upd H x o) { s with heap := h', toks := t' } := I.un (Un.write mu he k heo) (I.hok.write mu he k heo new)
theorem Inv.pins_of {pins' : List (Addr × Obj)} (I : Inv X pins σ H s) (h : ∀ p ∈ pins', s.heap.get? p.1 = some p.2 ∧ H p.1 = none ∧ p.1 ≠ X.env.locals ∧ p.1 ∉ X.fs ∧ ∀ v, p.2.data ≠ .cell v) : Inv X pins' σ H s :=
  ⟨I.ok, I.os, I.bare, I.base, I.loc, I.cell, I.free, I.freeC, fun p hp => (List.mem_append.mp hp).elim (fun z => I.pin p (List.mem_append_left _ z)) (h p), I.hok, I.len⟩
theorem nodup_ix {N : List Str} (hN : N.Nodup) {i j : Nat} {x : Str} (a : N[i]? = some x) (b : N[j]? = some x) : i = j := by
  obtain ⟨h1, e1⟩ := List.getElem?_eq_some_iff.mp a
  obtain ⟨h2, e2⟩ := List.getElem?_eq_some_iff.mp b
  exact (List.getElem_inj hN).mp (e1.trans e2.symm)
theorem store_ok2 {M : Model} {A : Around} {E : Value → Shared → Prop} {i : Nat} {x : Str} {v : V} {u : Value} {Q : Unit → Shared → Prop} (I : Inv X pins σ H s) (hN : X.N.Nodup) (hi : X.N[i]? = some x) (hx : Loc X.env.scope x) (r : RelV v u)
    (h : ∀ s', Inv X pins (σ.set i (some v)) H s' → (∃ a, Heap.SameBut a s.heap s'.heap ∧ (a = X.env.locals ∨ X.env.cells.lookup x = some a)) → Q () s') (hf : X.fn x = true ∨ X.env.scope.names.lookup x = some .local := by first | exact .inl rfl | exact .inr rfl | assumption) : wpAny M A (storeName X.env x u) Q E s := by
  obtain ⟨m, hn, hl⟩ := id I.loc
  have hcls : (X.env.scope.kind == .class || (X.env.scope.kind == .module && X.env.locals != X.env.globals)) = false := by rw [I.ok.kind]; rfl
  have hiσ : i < σ.length := by rw [I.len]; exact (List.getElem?_eq_some_iff.mp hi).1
  have cne := I.cne
  have tracked : ∀ {a : Addr} {h' : Heap}, (∃ o, s.heap.get? a = some o ∧ H a = none) → Heap.SameBut a s.heap h' → HOk X.prog X.w H h' := fun {a h'} ha hs b ob e => by
    obtain ⟨_, _, hfree⟩ := ha
    refine (I.hok b ob e).stay (fun c w' hc q => (hs.2 c ?_).trans q) (fun _ q => q) fun _ _ q => q
    rintro rfl
    rcases hc with rfl | hc
    · rw [hfree] at e; cases e
    · rw [hfree] at hc; cases hc
  rcases hx with hk | hk
  · refine wpAny_storeName_local hk hn (fun h' hn' hs => ?_) hcls
    obtain ⟨oL, _, _, hoL, _⟩ := id hn
    refine h _ ⟨I.ok, I.os, I.bare, ⟨fun b o e n hb hx => ?_, fun b o e n hb hx => ?_, I.base.free, fun b o e hx => ?_, I.base.tups, I.base.frzs, I.base.tbls⟩, ⟨_, hn', fun j y v' e1 e2 e3 => ?_⟩, fun y c e => ?_, I.free, I.freeC, fun p hp => ?_, tracked ⟨oL, hoL, I.free⟩ hs, by simpa using I.len⟩ ⟨_, hs, .inl rfl⟩
    · exact (hs.2 b (Nat.ne_of_lt (Nat.lt_of_lt_of_le (Heap.lt_size e) I.ok.above))).trans (I.base.keep b o e n hb hx)
    · obtain ⟨sl, e1⟩ := I.base.slot b o e n hb hx
      exact ⟨sl, (hs.2 b (Nat.ne_of_lt (Nat.lt_of_lt_of_le (Heap.lt_size e) I.ok.above))).trans e1⟩
    · obtain ⟨o', e1⟩ := I.base.there b o e hx
      exact ⟨o', (hs.2 b (Nat.ne_of_lt (Nat.lt_of_lt_of_le (Heap.lt_size e) I.ok.above))).trans e1⟩
    · by_cases hj : j = i
      · subst hj
        rw [hi] at e1; cases e1
        rw [List.getElem?_set_self hiσ] at e2
        cases e2
        exact ⟨u, r, .inl ⟨hk, by simp⟩⟩
      · rw [List.getElem?_set_ne (Ne.symm hj)] at e2
        obtain ⟨u', r', q⟩ := hl j y v' e1 e2 e3
        refine ⟨u', r', ?_⟩
        rcases q with ⟨k, e⟩ | ⟨k, c, e, z⟩
        · refine .inl ⟨k, ?_⟩
          have : y ≠ x := fun e => hj (nodup_ix hN e1 (e ▸ hi))
          simp [this, e]
        · exact .inr ⟨k, c, e, z.sameBut hs (cne y c e)⟩
    · obtain ⟨w', z⟩ := I.cell y c e
      exact ⟨w', z.sameBut hs (cne y c e)⟩
    · obtain ⟨e, n, ne, nf, d⟩ := I.pin p hp
      exact ⟨(hs.2 p.1 ne).trans e, n, ne, nf, d⟩
  · have hfn : X.fn x = true := by
      rcases hf with z | z
      · exact z
      · rw [z] at hk; cases hk
    obtain ⟨c, hc⟩ := I.ok.has x (.inl hk)
    obtain ⟨w', z⟩ := I.cell x c hc
    refine wpAny_storeName_cell I.ok.kind hk hc z (fun h' hc' hs => ?_)
    obtain ⟨oc, hoc, hocd⟩ := id z
    refine h { s with heap := h' } ⟨I.ok, I.os, I.bare, ⟨fun b o e n hb hx => ?_, fun b o e n hb hx => ?_, I.base.free, fun b o e hx => ?_, I.base.tups, I.base.frzs, I.base.tbls⟩, ⟨m, hn.sameBut hs (Ne.symm (cne x c hc)), fun j y v' e1 e2 e3 => ?_⟩, fun y c' e => ?_, I.free, I.freeC, fun p hp => ?_, tracked ⟨oc, hoc, I.freeC x c hc⟩ hs, by simpa using I.len⟩ ⟨c, hs, .inr hc⟩
    · exact (hs.2 b (Nat.ne_of_lt (Nat.lt_of_lt_of_le (Heap.lt_size e) (I.ok.cab x c hfn hc)))).trans (I.base.keep b o e n hb hx)
    · obtain ⟨sl, e1⟩ := I.base.slot b o e n hb hx
      exact ⟨sl, (hs.2 b (Nat.ne_of_lt (Nat.lt_of_lt_of_le (Heap.lt_size e) (I.ok.cab x c hfn hc)))).trans e1⟩
    · obtain ⟨o', e1⟩ := I.base.there b o e hx
      exact ⟨o', (hs.2 b (Nat.ne_of_lt (Nat.lt_of_lt_of_le (Heap.lt_size e) (I.ok.cab x c hfn hc)))).trans e1⟩
    · by_cases hj : j = i
      · subst hj
        rw [hi] at e1; cases e1
        rw [List.getElem?_set_self hiσ] at e2
        cases e2
        exact ⟨u, r, .inr ⟨.inl hk, c, hc, hc'⟩⟩
      · rw [List.getElem?_set_ne (Ne.symm hj)] at e2
        obtain ⟨u', r', q⟩ := hl j y v' e1 e2 e3
        refine ⟨u', r', ?_⟩
        rcases q with q | ⟨k, c', e, z'⟩
        · exact .inl q
        · refine .inr ⟨k, c', e, z'.sameBut hs ?_⟩
          rintro rfl
          exact hj (nodup_ix hN e1 (I.ok.inj _ _ _ e hc ▸ hi))
    · by_cases hcc : c' = c
      · subst hcc; exact ⟨_, hc'⟩
      · obtain ⟨w2, z2⟩ := I.cell y c' e
        exact ⟨w2, z2.sameBut hs hcc⟩
    · obtain ⟨e, n, ne, nf, d⟩ := I.pin p hp
      refine ⟨(hs.2 p.1 ?_).trans e, n, ne, nf, d⟩
      intro q
      rw [q, hoc] at e
      have q' : oc = p.2 := Option.some.inj e
      exact d w' (by rw [← q']; exact hocd)
theorem store_ok {M : Model} {A : Around} {E : Value → Shared → Prop} {i : Nat} {x : Str} {v : V} {u : Value} {Q : Unit → Shared → Prop} (I : Inv X pins σ H s) (hN : X.N.Nodup) (hi : X.N[i]? = some x) (hx : Loc X.env.scope x) (r : RelV v u)
    (h : ∀ s', Inv X pins (σ.set i (some v)) H s' → Q () s') (hf : X.fn x = true ∨ X.env.scope.names.lookup x = some .local := by first | exact .inl rfl | exact .inr rfl | assumption) : wpAny M A (storeName X.env x u) Q E s :=
  store_ok2 I hN hi hx r (fun s' I' _ => h s' I') hf
theorem Inv.call' {s' : Shared} {ch : List Addr} (I : Inv X pins σ H s) (ho : s'.os = s.os) (u : Un (frs X.stack) ch H H' s.heap s'.heap) (hok : HOk X.prog X.w H' s'.heap) (hg : AllBare s'.gens)
    (hch : ∀ b ∈ ch, (b ∈ X.ex ∨ X.s₀.heap.objs.size ≤ b) ∧ b ≠ X.env.locals ∧ (∀ x c, X.env.cells.lookup x = some c → c ≠ b) ∧ ∀ p ∈ X.pn ++ pins, p.1 ≠ b) : Inv X pins σ H' s' := by
  obtain ⟨h', g', d', t', o'⟩ := s'
  have e : o' = s.os := ho
  subst e
  exact I.call (g' := g') (t' := t') (d' := d') u hok hg hch
end
abbrev XK := Value → Option Addr → Hp → Prop
abbrev St := List (Option V)
abbrev VK := V → Hp → Prop
abbrev TE := St → Hp → VK → Prop
abbrev TT := St → Hp → (Bool → Hp → Prop) → Prop
abbrev TA := St → Hp → (List V → Hp → Prop) → Prop
structure Ends where
  nx : St → Hp → Prop
  rt : VK
  bk : St → Hp → Prop := fun _ _ => False
  ct : St → Hp → Prop := fun _ _ => False
abbrev TS := Ends → St → Hp → Prop
def EP (X : Cx) (pins : List (Addr × Obj)) (σ : St) (Q : VK) (u : Value) (s' : Shared) : Prop := ∃ v H', Inv X pins σ H' s' ∧ RelV v u ∧ Q v H'
def TP (X : Cx) (pins : List (Addr × Obj)) (σ : St) (Q : Bool → Hp → Prop) (b : Bool) (s' : Shared) : Prop := ∃ H', Inv X pins σ H' s' ∧ Q b H'
def AP (X : Cx) (pins : List (Addr × Obj)) (σ : St) (Q : List V → Hp → Prop) (us : List Value) (s' : Shared) : Prop := ∃ vs H', Inv X pins σ H' s' ∧ Vals vs us ∧ Q vs H'
def SP (X : Cx) (pins : List (Addr × Obj)) (D : Ends) (f : Flow) (s' : Shared) : Prop :=
  match f with
  | .next => ∃ σ' H', Inv X pins σ' H' s' ∧ D.nx σ' H'
  | .brk => ∃ σ' H', Inv X pins σ' H' s' ∧ D.bk σ' H'
  | .cont => ∃ σ' H', Inv X pins σ' H' s' ∧ D.ct σ' H'
  | .ret u => ∃ v σ' H', Inv X pins σ' H' s' ∧ RelV v u ∧ D.rt v H'
def PE (X : Cx) (e : Expr) (t : TE) : Prop :=
  ∀ (pins : List (Addr × Obj)) (s : Shared) (σ : St) (H : Hp) (Q : VK), Inv X pins σ H s → t σ H Q → wpAny (model X.prog X.w) X.A (eval e X.env) (EP X pins σ Q) X.xe s
def PT (X : Cx) (e : Expr) (t : TT) : Prop :=
  ∀ (pins : List (Addr × Obj)) (s : Shared) (σ : St) (H : Hp) (Q : Bool → Hp → Prop), Inv X pins σ H s → t σ H Q → wpAny (model X.prog X.w) X.A (isTrue e X.env (eval e X.env)) (TP X pins σ Q) X.xe s
def PW (X : Cx) (e : Expr) (t : TT) : Prop :=
  ∀ (whole : Sem Value) (pins : List (Addr × Obj)) (s : Shared) (σ : St) (H : Hp) (Q : Bool → Hp → Prop), Inv X pins σ H s → t σ H Q → wpAny (model X.prog X.w) X.A (isTrue e X.env whole) (TP X pins σ Q) X.xe s
theorem PW.pt {X : Cx} {e : Expr} {t : TT} (h : PW X e t) : PT X e t := h _
def PA (X : Cx) (es : List Expr) (t : TA) : Prop :=
  ∀ (pos : Pos) (pins : List (Addr × Obj)) (s : Shared) (σ : St) (H : Hp) (Q : List V → Hp → Prop), Inv X pins σ H s → t σ H Q → wpAny (model X.prog X.w) X.A (spliced (backTo pos (starEach es X.env))) (AP X pins σ Q) X.xe s
def PS (X : Cx) (st : Stmt) (t : TS) : Prop :=
  ∀ (pins : List (Addr × Obj)) (s : Shared) (σ : St) (H : Hp) (D : Ends), Inv X pins σ H s → t D σ H → wpAny (model X.prog X.w) X.A (exec st X.env) (SP X pins D) X.xe s
def PSs (X : Cx) (st : List Stmt) (t : TS) : Prop :=
  ∀ (pins : List (Addr × Obj)) (s : Shared) (σ : St) (H : Hp) (D : Ends), Inv X pins σ H s → t D σ H → wpAny (model X.prog X.w) X.A (execs st X.env) (SP X pins D) X.xe s
theorem thn {α : Type} {t : Sem α} {Q Q' : α → Shared → Prop} {M : Model} {A : Around} {E : Value → Shared → Prop} {s : Shared} (h : wpAny M A t Q E s) (hQ : ∀ a s, Q a s → Q' a s) : wpAny M A t Q' E s := wpAny_mono h hQ fun _ _ x => x
end L2
namespace L2
open PySem PySem.Spec PyProof.Rows
section
variable {X : Cx}
def tVar (i : Nat) : TE := fun σ H Q => ∃ v, σ[i]? = some (some v) ∧ Q v H
def tC (v : V) : TE := fun _ H Q => Q v H
theorem pe_var {i : Nat} {x : Str} {pos : Pos} (hN : X.N[i]? = some x) (hv : Vis X.env.scope x) (hd : (x == ("__debug__" : Str)) = false := by decide) (hcd : (x == ("__classdict__" : Str)) = false := by decide) : PE X (.Name x pos) (tVar i) := by
  intro pins s σ H Q I h
  obtain ⟨v, e, h⟩ := h
  obtain ⟨m, hn, hl⟩ := I.loc
  obtain ⟨u, r, l⟩ := hl i x v hN e hv
  have fin : EP X pins σ Q u s := ⟨v, H, I, r, h⟩
  rcases l with ⟨hk, hm⟩ | ⟨hk, c, hc, hcell⟩
  · exact wpAny_Name (wpAny_loadName_local I.ok.kind hk hn hm fin) hd
  · rcases hk with hk | hk
    · exact wpAny_Name (wpAny_loadName_cell I.ok.kind hk hc hcell fin) hd
    · exact wpAny_Name (wpAny_loadName_free I.ok.kind hk hc hcell fin hcd) hd
theorem pe_int {i j pos} : PE X (.Constant (.int i) j pos) (tC (.int i)) := fun _ _ _ H _ I h => wpAny_Constant_int ⟨.int i, H, I.tok _, ⟨_, rfl⟩, h⟩
theorem pe_bl {b j pos} : PE X (.Constant (.bool b) j pos) (tC (.bl b)) := fun _ _ _ H _ I h => Constant_bool ⟨.bl b, H, I, rfl, h⟩
theorem pe_str {x j pos} : PE X (.Constant (.str x) j pos) (tC (.str x)) := fun _ _ _ H _ I h => Calls.Constant_str ⟨.str x, H, I.tok _, ⟨_, rfl⟩, h⟩
def Gl (X : Cx) (x : Str) : Prop := X.env.kindOf x = some .globalImplicit
theorem ld_glob {E : Value → Shared → Prop} {pins : List (Addr × Obj)} {s : Shared} {σ : St} {H : Hp} {x : Str} {u : Value} {pos : Pos} {Q : Value → Shared → Prop} (I : Inv X pins σ H s) (hg : Gl X x) (hm : X.mg x = some u) (h : Q u s)
    (hd : (x == ("__debug__" : Str)) = false := by decide) : wpAny (model X.prog X.w) X.A (eval (.Name x pos) X.env) Q E s :=
  Calls.Name_function_global I.ok.kind hg (Calls.loadGlobal_global (by rw [I.ok.glob]; exact I.mod.glob.keeps I.bk) hm h) hd
theorem ld_blt {E : Value → Shared → Prop} {pins : List (Addr × Obj)} {s : Shared} {σ : St} {H : Hp} {x : Str} {u : Value} {pos : Pos} {Q : Value → Shared → Prop} (I : Inv X pins σ H s) (hg : Gl X x) (hm : X.mg x = none) (hv : bootBuiltins x = some u) (h : Q u s)
    (hn : x ≠ "__name__" := by decide) (hd : (x == ("__debug__" : Str)) = false := by decide) : wpAny (model X.prog X.w) X.A (eval (.Name x pos) X.env) Q E s := by
  obtain ⟨mb, h1, h2⟩ := I.mod.blt
  exact Calls.Name_function_global I.ok.kind hg (Calls.loadGlobal_builtin (by rw [I.ok.glob]; exact I.mod.glob.keeps I.bk) hm (by rw [I.ok.blt]; exact h1.keeps I.bk) ((h2 x hn).trans hv) h) hd
theorem pe_bltn {x : Str} {v : V} {u : Value} {pos : Pos} (hg : Gl X x) (hm : X.mg x = none) (hv : bootBuiltins x = some u) (r : RelV v u) (hn : x ≠ "__name__" := by decide) (hd : (x == ("__debug__" : Str)) = false := by decide) : PE X (.Name x pos) (tC v) :=
  fun _ _ _ H _ I h => ld_blt I hg hm hv ⟨v, H, I, r, h⟩ hn hd
variable {a b : Expr} {ta tb : TE} {pos : Pos}
variable {tA tB' : TT} {rest : List Expr}
def tAnd (t u : TT) : TT := fun σ H Q => t σ H fun c H1 => if c = true then u σ H1 Q else Q false H1
def tOr (t u : TT) : TT := fun σ H Q => t σ H fun c H1 => if c = true then Q true H1 else u σ H1 Q
def tNot (t : TT) : TT := fun σ H Q => t σ H fun c H1 => Q (!c) H1
theorem pw_and1 (ha : PT X a tA) : PW X (.BoolOp .And [a] pos) tA := by
  intro wh pins s σ H Q I h
  refine isTrue_and (thn (ha pins s σ H Q I h) fun c s1 e => ?_)
  cases c with
  | true => exact isTrue_and_nil e
  | false => exact e
theorem pw_or1 (ha : PT X a tA) : PW X (.BoolOp .Or [a] pos) tA := by
  intro wh pins s σ H Q I h
  refine isTrue_or (thn (ha pins s σ H Q I h) fun c s1 e => ?_)
  cases c with
  | false => exact isTrue_or_nil e
  | true => exact e
theorem pw_and (ha : PT X a tA) (hb : PW X (.BoolOp .And (b :: rest) pos) tB') : PW X (.BoolOp .And (a :: b :: rest) pos) (tAnd tA tB') := by
  intro wh pins s σ H Q I h
  refine isTrue_and (thn (ha pins s σ H _ I h) fun c s1 ⟨H1, I1, q1⟩ => ?_)
  cases c with
  | true => exact hb wh pins s1 σ H1 Q I1 q1
  | false => exact ⟨H1, I1, q1⟩
theorem pw_or (ha : PT X a tA) (hb : PW X (.BoolOp .Or (b :: rest) pos) tB') : PW X (.BoolOp .Or (a :: b :: rest) pos) (tOr tA tB') := by
  intro wh pins s σ H Q I h
  refine isTrue_or (thn (ha pins s σ H _ I h) fun c s1 ⟨H1, I1, q1⟩ => ?_)
  cases c with
  | true => exact ⟨H1, I1, q1⟩
  | false => exact hb wh pins s1 σ H1 Q I1 q1
theorem pt_not (ha : PT X a tA) : PT X (.UnaryOp .Not a pos) (tNot tA) := by
  intro pins s σ H Q I h
  exact isTrue_not (ha pins s σ H (fun c H1 => Q (!c) H1) I h)
end
end L2
namespace L2
open PySem PySem.Spec PyProof.Rows
def SqL (K : PySem.W.Frag) (H : Hp) (a : Addr) (xs : List V) : Prop :=
  Rd H a (.lst xs) ∨
    ∃ (o : Obj) (its : Array Value) (n : Nat), K.lookup a = some o ∧ o.cls = .type "list" ∧ o.dict = none ∧ o.data = .seq its n ∧ its.size ≤ sizeLine ∧ Vals xs its.toList
def SqT (K : PySem.W.Frag) (H : Hp) (a : Addr) (xs : List V) : Prop :=
  Rd H a (.tup xs) ∨
    ∃ (o : Obj) (its : Array Value) (n : Nat), K.lookup a = some o ∧ o.cls = .type "tuple" ∧ o.data = .seq its n ∧ its.size ≤ sizeLine ∧ Vals xs its.toList
def absV : Value → Option V
  | .none => some .non
  | .bool b => some (.bl b)
  | .int i _ => some (.int i)
  | .str x _ => some (.str x)
  | .bytes b _ => some (.byt b)
  | .float b _ => some (.flt b)
  | .ref a => some (.ref a)
  | .type n => some (.ty n)
  | _ => none
theorem RelV.abs {x : V} {u : Value} (r : RelV x u) : absV u = some x := by
  cases x with
  | non => cases r; rfl
  | bl _ => cases r; rfl
  | int _ => obtain ⟨t, rfl⟩ := r; rfl
  | str _ => obtain ⟨t, rfl⟩ := r; rfl
  | byt _ => obtain ⟨t, rfl⟩ := r; rfl
  | flt _ => obtain ⟨t, rfl⟩ := r; rfl
  | ref _ => cases r; rfl
  | ty _ => cases r; rfl
theorem RelV.inj {x y : V} {u : Value} (r : RelV x u) (q : RelV y u) : x = y := Option.some.inj (r.abs.symm.trans q.abs)
theorem Vals.inj : ∀ {xs ys : List V} {us : List Value}, Vals xs us → Vals ys us → xs = ys
  | _, _, _, .nil, .nil => rfl
  | _, _, _, .cons r t, .cons r' t' => by rw [r.inj r', Vals.inj t t']
section
variable {X : Cx} {pins : List (Addr × Obj)} {σ : St} {H : Hp} {s : Shared} {a : Addr} {xs ys : List V}
theorem SqL.of {K : PySem.W.Frag} (h : H a = some (.lst xs)) : SqL K H a xs := .inl (.inl h)
theorem SqT.of {K : PySem.W.Frag} (h : H a = some (.tup xs)) : SqT K H a xs := .inl (.inl h)
theorem Inv.list (I : Inv X pins σ H s) (h : SqL X.K H a xs) : ∃ its : List Value, Vals xs its ∧ PlainL s.heap a its.toArray ∧ xs.length ≤ sizeLine := by
  rcases h with h | ⟨o, its, n, hk, hc, hd, hs, hz, r⟩
  · obtain ⟨z, its, n, r, e⟩ := h.ok I.hok
    exact ⟨its, r, ⟨_, n, e, rfl, rfl, rfl⟩, z⟩
  · refine ⟨its.toList, r, ⟨o, n, I.kIn a o hk, hc, hd, by simpa using hs⟩, ?_⟩
    have e := r.length
    simp only [Array.length_toList] at e
    omega
theorem Inv.tuple (I : Inv X pins σ H s) (h : SqT X.K H a xs) : ∃ its : List Value, Vals xs its ∧ IsTup s.heap a its.toArray ∧ xs.length ≤ sizeLine := by
  rcases h with h | ⟨o, its, n, hk, hc, hs, hz, r⟩
  · obtain ⟨z, its, r, p⟩ := h.ok I.hok
    exact ⟨its, r, p, z⟩
  · refine ⟨its.toList, r, ⟨o, I.kIn a o hk, hc, n, by simpa using hs⟩, ?_⟩
    have e := r.length
    simp only [Array.length_toList] at e
    omega
theorem Inv.list_inj (I : Inv X pins σ H s) (h : SqL X.K H a xs) (h' : SqL X.K H a ys) : xs = ys := by
  obtain ⟨its, r, ⟨o, n, e, _, _, d⟩, _⟩ := I.list h
  obtain ⟨its', r', ⟨o', n', e', _, _, d'⟩, _⟩ := I.list h'
  rw [e] at e'; cases e'
  rw [d] at d'
  injection d' with d1 _
  have : its = its' := by simpa using congrArg Array.toList d1
  subst this
  exact r.inj r'
theorem Inv.tuple_inj (I : Inv X pins σ H s) (h : SqT X.K H a xs) (h' : SqT X.K H a ys) : xs = ys := by
  obtain ⟨its, r, ⟨o, e, _, n, d⟩, _⟩ := I.tuple h
  obtain ⟨its', r', ⟨o', e', _, n', d'⟩, _⟩ := I.tuple h'
  rw [e] at e'; cases e'
  rw [d] at d'
  injection d' with d1 _
  have : its = its' := by simpa using congrArg Array.toList d1
  subst this
  exact r.inj r'
end
abbrev Cx.wish (X : Cx) (E : Value → Shared → Prop) : Cx := { X with xe := E }
abbrev Cx.nox (X : Cx) : Cx := X.wish fun _ _ => False
theorem Cx.Ok.wish {X : Cx} (ok : X.Ok) (E : Value → Shared → Prop) : (X.wish E).Ok :=
  ⟨ok.mod, ok.kind, ok.glob, ok.blt, ok.above, ok.inj, ok.has, ok.cab, ok.hd, ok.frames, ok.stk, ok.exf, ok.bs, ok.bsz, ok.noex, ok.exfs, ok.funs, ok.frf⟩
theorem Cx.Ok.unwish {X : Cx} {E : Value → Shared → Prop} (ok : (X.wish E).Ok) : X.Ok :=
  ⟨ok.mod, ok.kind, ok.glob, ok.blt, ok.above, ok.inj, ok.has, ok.cab, ok.hd, ok.frames, ok.stk, ok.exf, ok.bs, ok.bsz, ok.noex, ok.exfs, ok.funs, ok.frf⟩
section
variable {X : Cx} {pins : List (Addr × Obj)} {σ : St} {H : Hp} {s : Shared} {E : Value → Shared → Prop}
theorem Inv.wish (I : Inv X pins σ H s) (E : Value → Shared → Prop) : Inv (X.wish E) pins σ H s := ⟨I.ok.wish E, I.os, I.bare, I.base, I.loc, I.cell, I.free, I.freeC, I.pin, I.hok, I.len⟩
theorem Inv.unwish (I : Inv (X.wish E) pins σ H s) : Inv X pins σ H s := ⟨I.ok.unwish, I.os, I.bare, I.base, I.loc, I.cell, I.free, I.freeC, I.pin, I.hok, I.len⟩
theorem SP.unwish {D : Ends} {f : Flow} {s' : Shared} (h : SP (X.wish E) pins D f s') : SP X pins D f s' := by
  cases f with
  | next => obtain ⟨σ', H', I, q⟩ := h; exact ⟨σ', H', I.unwish, q⟩
  | brk => obtain ⟨σ', H', I, q⟩ := h; exact ⟨σ', H', I.unwish, q⟩
  | cont => obtain ⟨σ', H', I, q⟩ := h; exact ⟨σ', H', I.unwish, q⟩
  | ret u => obtain ⟨v, σ', H', I, r, q⟩ := h; exact ⟨v, σ', H', I.unwish, r, q⟩
theorem PE.nox {e : Expr} {t : TE} (h : PE X.nox e t) : PE X e t := fun pins s σ H Q I hw =>
  wpAny_mono (h pins s σ H Q (I.wish _) hw) (fun _ _ ⟨v, H', I', r, q⟩ => ⟨v, H', I'.unwish, r, q⟩) fun _ _ z => False.elim z
theorem PT.nox {e : Expr} {t : TT} (h : PT X.nox e t) : PT X e t := fun pins s σ H Q I hw =>
  wpAny_mono (h pins s σ H Q (I.wish _) hw) (fun _ _ ⟨H', I', q⟩ => ⟨H', I'.unwish, q⟩) fun _ _ z => False.elim z
theorem PSs.nox {st : List Stmt} {t : TS} (h : PSs X.nox st t) : PSs X st t := fun pins s σ H D I hw =>
  wpAny_mono (h pins s σ H D (I.wish _) hw) (fun _ _ q => q.unwish) fun _ _ z => False.elim z
end
section
variable {X : Cx} {st : Stmt} {rest : List Stmt} {t u : TS} {e : Expr} {te : TE} {pos : Pos}
def tNext : TS := fun D σ H => D.nx σ H
def tSeq (t u : TS) : TS := fun D σ H => t { D with nx := u D } σ H
theorem pss_nil : PSs X [] tNext := fun _ _ σ H _ I h => wpAny_execs_nil ⟨σ, H, I, h⟩
theorem pss_cons (h1 : PS X st t) (h2 : PSs X rest u) : PSs X (st :: rest) (tSeq t u) := by
  intro pins s σ H D I h
  refine wpAny_execs_cons (thn (h1 pins s σ H { D with nx := u D } I h) fun f s1 q => ?_)
  cases f with
  | next =>
    obtain ⟨σ', H', I', q⟩ := q
    exact h2 pins s1 σ' H' D I' q
  | ret v => exact q
  | brk => exact q
  | cont => exact q
theorem pss_one (h1 : PS X st t) : PSs X [st] t := by
  intro pins s σ H D I h
  refine wpAny_execs_cons (thn (h1 pins s σ H D I h) fun f s1 q => ?_)
  cases f with
  | next => exact wpAny_execs_nil q
  | ret v => exact q
  | brk => exact q
  | cont => exact q
theorem Inv.quiet {pins : List (Addr × Obj)} {σ : St} {H : Hp} {s : Shared} (I : Inv X pins σ H s) : interactive X.env = false := by simp [interactive, I.ok.kind]
def tDrop (te : TE) : TS := fun D σ H => te σ H fun _ H1 => D.nx σ H1
theorem ps_expr (he : PE X e te) (hs : swapsWith e none pos.line X.env = pure false := by rfl) : PS X (.Expr e pos) (tDrop te) := by
  intro pins s σ H D I h
  exact wpAny_Expr_any (thn (he pins s σ H _ I h) fun v s1 ⟨x, H1, I1, r1, q1⟩ => ⟨σ, H1, I1, q1⟩) I.quiet hs
def tRet (te : TE) : TS := fun D σ H => te σ H D.rt
theorem ps_ret (he : PE X e te) : PS X (.Return (some e) pos) (tRet te) := by
  intro pins s σ H D I h
  exact wpAny_Return_some (thn (he pins s σ H _ I h) fun v s1 ⟨x, H1, I1, r1, q1⟩ => ⟨x, σ, H1, I1, r1, q1⟩)
def tIfS (c : TT) (t u : TS) : TS := fun D σ H => c σ H fun b H1 => if b = true then t D σ H1 else u D σ H1
theorem ps_if {c : Expr} {a b : List Stmt} {tc : TT} (hc : PT X c tc) (ha : PSs X a t) (hb : PSs X b u) : PS X (.If c a b pos) (tIfS tc t u) := by
  intro pins s σ H D I h
  refine wpAny_If (thn (hc pins s σ H _ I h) fun d s1 ⟨H1, I1, q1⟩ => ?_)
  cases d with
  | true => exact ha pins s1 σ H1 D I1 q1
  | false => exact hb pins s1 σ H1 D I1 q1
end
abbrev TG := V → St → Hp → (St → Hp → Prop) → Prop
abbrev TGs := List V → St → Hp → (St → Hp → Prop) → Prop
def PG (X : Cx) (target : Expr) (t : TG) : Prop :=
  ∀ (pins : List (Addr × Obj)) (s : Shared) (σ : St) (H : Hp) (v : V) (u : Value) (Q : St → Hp → Prop), Inv X pins σ H s → RelV v u → t v σ H Q →
    wpAny (model X.prog X.w) X.A (assign target X.env u) (fun _ s' => ∃ σ' H', Inv X pins σ' H' s' ∧ Q σ' H') X.xe s
def PGs (X : Cx) (ts : List Expr) (t : TGs) : Prop :=
  ∀ (pins : List (Addr × Obj)) (s : Shared) (σ : St) (H : Hp) (vs : List V) (us : List Value) (Q : St → Hp → Prop), Inv X pins σ H s → Vals vs us → t vs σ H Q →
    wpAny (model X.prog X.w) X.A (assignInOrder ((assignEach ts X.env).map (·.2)) us) (fun _ s' => ∃ σ' H', Inv X pins σ' H' s' ∧ Q σ' H') X.xe s
abbrev TSet := V → V → V → Hp → (Hp → Prop) → Prop
def PSet (X : Cx) (t : TSet) : Prop :=
  ∀ (pins : List (Addr × Obj)) (s : Shared) (σ : St) (H : Hp) (o i v : V) (ov iv u : Value) (Q : Hp → Prop), Inv X pins σ H s → RelV o ov → RelV i iv → RelV v u → t o i v H Q →
    wpAny (model X.prog X.w) X.A (setItem ov iv u) (fun _ s' => ∃ H', Inv X pins σ H' s' ∧ Q H') X.xe s
section
variable {X : Cx} {pos : Pos}
def gName (i : Nat) : TG := fun v σ H Q => Q (σ.set i (some v)) H
theorem pg_name {i : Nat} {x : Str} (hN : X.N.Nodup) (hi : X.N[i]? = some x) (hx : Loc X.env.scope x) (hf : X.fn x = true ∨ X.env.scope.names.lookup x = some .local := by first | exact .inl rfl | exact .inr rfl | assumption) : PG X (.Name x pos) (gName i) := by
  intro pins s σ H v u Q I r h
  exact wpAny_assign_Name (store_ok I hN hi hx r (fun s' I' => ⟨_, H, I', h⟩) hf)
def gNil : TGs := fun vs σ H Q => vs = [] ∧ Q σ H
def gCons (t : TG) (u : TGs) : TGs := fun vs σ H Q => ∃ v r, vs = v :: r ∧ t v σ H fun σ' H' => u r σ' H' Q
theorem pgs_nil : PGs X [] gNil := by
  intro pins s σ H vs us Q I r h
  obtain ⟨e, h⟩ := h
  subst e
  cases r
  exact assignInOrder_nil ⟨σ, H, I, h⟩
theorem pgs_cons {e : Expr} {es : List Expr} {t : TG} {u : TGs} (h1 : PG X e t) (h2 : PGs X es u)
    (hs : (assignEach (e :: es) X.env).map (·.2) = assign e X.env :: (assignEach es X.env).map (·.2) := by rfl) : PGs X (e :: es) (gCons t u) := by
  intro pins s σ H vs us Q I r h
  obtain ⟨v, vr, e1, h⟩ := h
  subst e1
  cases r with
  | cons r rr =>
    rw [hs]
    refine assignInOrder_cons (thn (h1 pins s σ H _ _ _ I r h) fun _ s1 ⟨σ1, H1, I1, q1⟩ => ?_)
    exact h2 pins s1 σ1 H1 _ _ Q I1 rr q1
def gTup (K : PySem.W.Frag) (n : Nat) (t : TGs) : TG := fun v σ H Q => ∃ a xs, v = .ref a ∧ SqT K H a xs ∧ xs.length = n ∧ t xs σ H Q
theorem pg_tup {es : List Expr} {k : Nat} {t : TGs} {n : Nat} (hc : X.calm = true) (h : PGs X es t)
    (hn : (assignEach es X.env).length = n := by rfl) (hst : (assignEach es X.env).findIdx? (·.1) = none := by rfl) : PG X (.Tuple es k pos) (gTup X.K n t) := by
  intro pins s σ H v u Q I r hw
  obtain ⟨a, xs, e1, hq, hl, hw⟩ := hw
  subst e1
  cases r
  obtain ⟨its, rv, ht, hz⟩ := I.tuple hq
  refine assign_Tuple_tuple (I.ok.hd hc) ht (by simp [hn, ← hl, rv.length]) hst fun h' hx => ?_
  have I1 : Inv X pins σ H { s with heap := h' } := I.kept (t' := s.toks) fun b o e => hx b o (Nat.ne_of_lt (Heap.lt_size e)) e
  exact h pins _ σ H xs _ Q I1 (by simpa using rv) hw
def gSub (to ti : TE) (t : TSet) : TG := fun v σ H Q => to σ H fun o H1 => ti σ H1 fun i H2 => t o i v H2 fun H3 => Q σ H3
theorem pg_sub {o i : Expr} {to ti : TE} {t : TSet} (ho : PE X o to) (hi : PE X i ti) (hs : PSet X t)
    (ha : ∀ v, assign (.Subscript o i pos) X.env v = (do
      let ov ← holding [v] (eval o X.env)
      let iv ← holding [v, ov] (eval i X.env)
      standAt pos
      holding [v, ov, iv] (setItem ov iv v)
      release [v, ov, iv] []) := by intro _; rfl) : PG X (.Subscript o i pos) (gSub to ti t) := by
  intro pins s σ H v u Q I r h
  rw [ha]
  refine wpAny_bind (wpAny_holding (thn (ho pins s σ H _ I h) fun ov s1 ⟨x, H1, I1, r1, q1⟩ => ?_))
  refine wpAny_bind (wpAny_holding (thn (hi pins s1 σ H1 _ I1 q1) fun iv s2 ⟨y, H2, I2, r2, q2⟩ => ?_))
  refine wpAny_bind (wpAny_standAt (wpAny_bind (wpAny_holding (thn (hs pins s2 σ H2 x y v ov iv u _ I2 r1 r2 r q2) fun _ s3 ⟨H3, I3, q3⟩ => ?_))))
  exact wpAny_release ⟨σ, H3, I3, q3⟩
def tAsg (te : TE) (g : TG) : TS := fun D σ H => te σ H fun x H1 => g x σ H1 D.nx
theorem ps_asg {tg e : Expr} {te : TE} {g : TG} (he : PE X e te) (hg : PG X tg g) (hs : swapsWithSole [tg] e pos.line X.env = pure false := by rfl) (hw : swappedStores [tg] e X.env = pure none := by rfl)
    (h1 : (assignEach [tg] X.env).map (·.2) = [assign tg X.env] := by rfl) : PS X (.Assign [tg] e pos) (tAsg te g) := by
  intro pins s σ H D I h
  refine wpAny_Assign_stores (thn (he pins s σ H _ I h) fun v s1 ⟨x, H1, I1, r1, q1⟩ => ?_) hs hw
  rw [h1]
  exact thn (hg pins s1 σ H1 x v _ I1 r1 q1) fun _ s2 q => q
theorem ps_set {i : Nat} {x : Str} {e : Expr} {te : TE} {pos' : Pos} (hN : X.N.Nodup) (hi : X.N[i]? = some x) (hx : Loc X.env.scope x) (he : PE X e te) (hs : swapsWith e (some (.Name x pos')) pos.line X.env = pure false := by rfl) (hf : X.fn x = true ∨ X.env.scope.names.lookup x = some .local := by first | exact .inl rfl | exact .inr rfl | assumption) :
    PS X (.Assign [.Name x pos'] e pos) (tAsg te (gName i)) := by
  intro pins s σ H D I h
  refine wpAny_Assign_Name (thn (he pins s σ H _ I h) fun v s1 ⟨y, H1, I1, r1, q1⟩ => ?_) hs
  exact store_ok I1 hN hi hx r1 (fun s2 I2 => ⟨_, H1, I2, q1⟩) hf
end
section
variable {X : Cx} {pos : Pos}
def tWhile (c : TT) (tb : TS) : TS := fun D σ H => ∃ W : Nat → St → Hp → Prop, (∃ m, W m σ H) ∧ ∀ m σ H, W m σ H →
  c σ H fun b H1 => if b = true then ∃ N : St → Hp → Prop, (∀ σ' H', N σ' H' → ∃ m', m' < m ∧ W m' σ' H') ∧ tb { D with nx := N, ct := N, bk := D.nx } σ H1 else D.nx σ H1
theorem ps_while {c : Expr} {body : List Stmt} {tc : TT} {tb : TS} (hp : PassesOwn (model X.prog X.w) X.A X.env X.xe) (hc : PT X c tc) (hb : PSs X body tb) : PS X (.While c body [] pos) (tWhile tc tb) := by
  intro pins s σ H D I h
  obtain ⟨W, ⟨m0, w0⟩, turn⟩ := h
  refine wpAny_While (codeAny_whileLoop (fun n s' => ∃ σ' H', Inv X pins σ' H' s' ∧ W n σ' H') ?_ m0 ⟨σ, H, I, w0⟩)
  rintro n s1 ⟨σ1, H1, I1, w1⟩
  refine wpAny_passesOwn hp (thn (hc pins s1 σ1 H1 _ I1 (turn n σ1 H1 w1)) fun b s2 ⟨H2, I2, q2⟩ => ?_)
  cases b with
  | true =>
    obtain ⟨N, hN, q2⟩ := q2
    rw [if_pos rfl]
    refine wpAny_passesOwn hp (thn (hb pins s2 σ1 H2 _ I2 q2) fun f s3 q3 => ?_)
    cases f with
    | next =>
      obtain ⟨σ3, H3, I3, n3⟩ := q3
      obtain ⟨m', hm, w3⟩ := hN σ3 H3 n3
      exact ⟨m', hm, σ3, H3, I3, w3⟩
    | cont =>
      obtain ⟨σ3, H3, I3, n3⟩ := q3
      obtain ⟨m', hm, w3⟩ := hN σ3 H3 n3
      exact ⟨m', hm, σ3, H3, I3, w3⟩
    | brk => exact q3
    | ret v => exact q3
  | false =>
    rw [if_neg Bool.false_ne_true]
    exact wpAny_execs_nil ⟨σ1, H2, I2, q2⟩
end
structure It where
  go : Nat → Hp → Prop
  yld : Nat → Hp → V → Hp → Prop
  stop : Nat → Hp → Prop
def FpOk (X : Cx) (pins : List (Addr × Obj)) (H : Hp) (b : Addr) : Prop :=
  H b = none ∧ b ≠ X.env.locals ∧ b ∉ X.fs ∧ (b ∈ X.ex ∨ X.s₀.heap.objs.size ≤ b) ∧ (∀ x c, X.env.cells.lookup x = some c → c ≠ b) ∧ ∀ p ∈ X.pn ++ pins, p.1 ≠ b
theorem Inv.fpOk {X : Cx} {pins : List (Addr × Obj)} {σ : St} {H H' : Hp} {s : Shared} {b : Addr} (I : Inv X pins σ H s) (hb : s.heap.objs.size ≤ b) (hn : H' b = none) : FpOk X pins H' b := by
  refine ⟨hn, Nat.ne_of_gt (Nat.lt_of_lt_of_le I.lt hb), I.nofs hb, .inr (Nat.le_trans I.sz hb), fun x c e z => ?_, fun p hp z => ?_⟩
  · obtain ⟨v, q⟩ := I.cell x c e
    exact absurd (Nat.lt_of_lt_of_le q.lt (by rw [z]; exact hb)) (Nat.lt_irrefl _)
  · exact absurd (Nat.lt_of_lt_of_le (Heap.lt_size (I.pin p hp).1) (by rw [z]; exact hb)) (Nat.lt_irrefl _)
structure Turn (P : Program) (w : World) (K : PySem.W.Frag) (tg : Expr) (J : It) (fp : List Addr) (it : Addr) (tn : Nat → Heap → Prop) : Prop where
  mem : it ∈ fp
  obj : ∀ i h, tn i h → ∀ b ∈ fp, ∃ o, h.get? b = some o ∧ ∀ v, o.data ≠ .cell v
  keep : ∀ i h h', tn i h → (∀ b ∈ fp, ∀ o, h.get? b = some o → h'.get? b = some o) → tn i h'
  item : ∀ (X : Cx), X.prog = P → X.w = w → X.K = K → X.calm = true → ∀ (i : Nat) (pins : List (Addr × Obj)) (s : Shared) (σ : St) (H : Hp) (E : Value → Shared → Prop), Inv X pins σ H s → (∀ b ∈ fp, FpOk X pins H b) → tn i s.heap → J.go i H →
    wpAny (model P w) X.A (pyNext (.ref it)) (fun r s1 => ∃ u, r = some u ∧
      wpAny (model P w) X.A (letOwnedTupleGo tg (.ref it) u) (fun _ s2 => ∃ x H', Inv X pins σ H' s2 ∧ RelV x u ∧ J.yld i H x H' ∧ tn (i + 1) s2.heap ∧ ∀ b ∈ fp, H' b = none) E s1) E s
  done : ∀ (X : Cx), X.prog = P → X.w = w → X.K = K → X.calm = true → ∀ (i : Nat) (pins : List (Addr × Obj)) (s : Shared) (σ : St) (H : Hp) (E : Value → Shared → Prop), Inv X pins σ H s → (∀ b ∈ fp, FpOk X pins H b) → tn i s.heap → J.stop i H →
    wpAny (model P w) X.A (pyNext (.ref it)) (fun r s1 => r = none ∧ Inv X pins σ H s1) E s
  self : ∀ (A : Around) (i : Nat) (s : Shared) (Q : Value → Shared → Prop) (E : Value → Shared → Prop), tn i s.heap → Q (.ref it) s → wpAny (model P w) A (pyIter (.ref it)) Q E s
abbrev TI := St → Hp → (It → Hp → Prop) → Prop
def PIE (X : Cx) (pins : List (Addr × Obj)) (σ : St) (tg : Expr) (R : It → Hp → Prop) (itv : Value) (s2 : Shared) : Prop :=
  ∃ (it : Addr) (fp : List Addr) (tn : Nat → Heap → Prop) (J : It) (H' : Hp), itv = .ref it ∧ Inv X pins σ H' s2 ∧ Turn X.prog X.w X.K tg J fp it tn ∧ tn 0 s2.heap ∧ (∀ b ∈ fp, FpOk X pins H' b) ∧ R J H'
def PI (X : Cx) (tg iter : Expr) (wi : TI) : Prop :=
  ∀ (pins : List (Addr × Obj)) (s : Shared) (σ : St) (H : Hp) (R : It → Hp → Prop), Inv X pins σ H s → wi σ H R →
    wpAny (model X.prog X.w) X.A (eval iter X.env) (fun v s1 => wpAny (model X.prog X.w) X.A (pyIter v) (PIE X pins σ tg R) X.xe s1) X.xe s
theorem go_of {M : Model} {A : Around} {E : Value → Shared → Prop} {s : Shared} {tg : Expr} {it : Addr} {u : Value} {o : Obj} {n : String} {vs : Array Value} {Q : Unit → Shared → Prop} (ho : s.heap.get? it = some o) (hc : o.cls = .type n) (hd : o.data = .fields vs)
    (hn : ["enumerate", "zip", "dict_itemiterator", "dict_reverseitemiterator", "odict_iterator", "itertools.zip_longest", "itertools.pairwise"].contains n = false) (hQ : Q () s) : wpAny M A (letOwnedTupleGo tg (.ref it) u) Q E s := by
  unfold letOwnedTupleGo
  cases tg <;> first
    | exact wpAny_pure hQ
    | (cases u <;> first
        | exact wpAny_pure hQ
        | (refine wpAny_bind (wpAny_load ho ?_)
           rw [hc, hd]
           show wpAny M A (if (["enumerate", "zip", "dict_itemiterator", "dict_reverseitemiterator", "odict_iterator", "itertools.zip_longest", "itertools.pairwise"].contains n && vs[0]? == some (rawInt _)) = true then _ else _) Q E s
           rw [if_neg (by intro h; rw [hn, Bool.false_and] at h; cases h)]
           exact wpAny_pure hQ))
def Itl (K : PySem.W.Frag) (a : Addr) : It :=
  ⟨fun i H => ∃ xs x, SqL K H a xs ∧ xs[i]? = some x, fun i H x H' => H' = H ∧ ∀ xs, SqL K H a xs → xs[i]? = some x, fun i H => ∃ xs, SqL K H a xs ∧ xs.length ≤ i⟩
def Itt (K : PySem.W.Frag) (a : Addr) : It :=
  ⟨fun i H => ∃ xs x, SqT K H a xs ∧ xs[i]? = some x, fun i H x H' => H' = H ∧ ∀ xs, SqT K H a xs → xs[i]? = some x, fun i H => ∃ xs, SqT K H a xs ∧ xs.length ≤ i⟩
def Itr (lo : Int) (n : Nat) : It := ⟨fun i _ => i < n, fun i H x H' => H' = H ∧ x = .int (lo + i), fun i _ => n ≤ i⟩
theorem turn_list {P : Program} {w : World} {K : PySem.W.Frag} {tg : Expr} (a it : Addr) : Turn P w K tg (Itl K a) [it] it (fun i h => h.IsListIter it a i) where
  mem := by simp
  obj := fun i h st b hb => by
    have e : b = it := by simpa using hb
    subst e
    obtain ⟨o, e, c, d⟩ := st
    exact ⟨o, e, fun v z => by rw [d] at z; cases z⟩
  keep := fun i h h' st k => st.at fun o e => k it (by simp) o e
  item := by
    intro X hP hw hK hc i pins s σ H E I hf st hg
    subst hP hw hK
    obtain ⟨xs, x, hq, hx⟩ := hg
    obtain ⟨its, rv, p, hz⟩ := I.list hq
    obtain ⟨u, hu, ru⟩ := rv.get hx
    obtain ⟨f0, f1, f2, f3, f4, f5⟩ := hf it (by simp)
    refine wpAny_pyNext_list_item st p.isList (x := u) (by simpa using hu) fun h' st' sb => ?_
    have I1 : Inv X pins σ H { s with heap := h' } := I.turned (t' := s.toks) (fun b o hb e => (sb.2 b hb).trans e) f0 f1 f3 f4 f5
    obtain ⟨o, e, c, d⟩ := id st'
    exact ⟨u, rfl, go_of (s := { s with heap := h' }) e c d (by decide) ⟨x, H, I1, ru, ⟨rfl, fun ys hy => by rw [I.list_inj hy hq]; exact hx⟩, st', fun b hb => (hf b hb).1⟩⟩
  done := by
    intro X hP hw hK hc i pins s σ H E I hf st hg
    subst hP hw hK
    obtain ⟨xs, hq, hx⟩ := hg
    obtain ⟨its, rv, p, hz⟩ := I.list hq
    obtain ⟨f0, f1, f2, f3, f4, f5⟩ := hf it (by simp)
    have hl := rv.length
    exact wpAny_pyNext_list_end (I.ok.hd hc) st p.isList (by simp; omega) fun h' eb => ⟨rfl, I.turned (t' := s.toks) (fun b o hb e => eb b o hb e) f0 f1 f3 f4 f5⟩
  self := fun _ _ _ _ _ st h => wpAny_pyIter_listiter st h
theorem turn_tuple {P : Program} {w : World} {K : PySem.W.Frag} {tg : Expr} (a it : Addr) : Turn P w K tg (Itt K a) [it] it (fun i h => h.IsTupleIter it a i) where
  mem := by simp
  obj := fun i h st b hb => by
    have e : b = it := by simpa using hb
    subst e
    obtain ⟨o, e, c, d⟩ := st
    exact ⟨o, e, fun v z => by rw [d] at z; cases z⟩
  keep := fun i h h' st k => st.at fun o e => k it (by simp) o e
  item := by
    intro X hP hw hK hc i pins s σ H E I hf st hg
    subst hP hw hK
    obtain ⟨xs, x, hq, hx⟩ := hg
    obtain ⟨its, rv, p, hz⟩ := I.tuple hq
    obtain ⟨u, hu, ru⟩ := rv.get hx
    obtain ⟨f0, f1, f2, f3, f4, f5⟩ := hf it (by simp)
    refine wpAny_pyNext_tuple_item st (show s.heap.IsTuple a its.toArray from p) (x := u) (by simpa using hu) fun h' st' sb => ?_
    have I1 : Inv X pins σ H { s with heap := h' } := I.turned (t' := s.toks) (fun b o hb e => (sb.2 b hb).trans e) f0 f1 f3 f4 f5
    obtain ⟨o, e, c, d⟩ := id st'
    exact ⟨u, rfl, go_of (s := { s with heap := h' }) e c d (by decide) ⟨x, H, I1, ru, ⟨rfl, fun ys hy => by rw [I.tuple_inj hy hq]; exact hx⟩, st', fun b hb => (hf b hb).1⟩⟩
  done := by
    intro X hP hw hK hc i pins s σ H E I hf st hg
    subst hP hw hK
    obtain ⟨xs, hq, hx⟩ := hg
    obtain ⟨its, rv, p, hz⟩ := I.tuple hq
    obtain ⟨f0, f1, f2, f3, f4, f5⟩ := hf it (by simp)
    have hl := rv.length
    exact wpAny_pyNext_tuple_end (I.ok.hd hc) st (show s.heap.IsTuple a its.toArray from p) (by simp; omega) fun h' eb => ⟨rfl, I.turned (t' := s.toks) (fun b o hb e => eb b o hb e) f0 f1 f3 f4 f5⟩
  self := fun _ _ _ _ _ st h => wpAny_pyIter_tupleiter st h
theorem turn_range {P : Program} {w : World} {K : PySem.W.Frag} {tg : Expr} (it : Addr) (lo : Int) (n : Nat) : Turn P w K tg (Itr lo n) [it] it (fun i h => IsRangeIter h it (lo + (i : Nat) * 1) ((n : Int) - (i : Nat)) 1) where
  mem := by simp
  obj := fun i h st b hb => by
    have e : b = it := by simpa using hb
    subst e
    exact ⟨_, st, fun v z => by
      have z' : Data.fields _ = Data.cell v := z
      cases z'⟩
  keep := fun i h h' st k => k it (by simp) _ st
  item := by
    intro X hP hw hK hc i pins s σ H E I hf st hg
    subst hP hw hK
    obtain ⟨f0, f1, f2, f3, f4, f5⟩ := hf it (by simp)
    have W := Walks.range (prog := X.prog) (w := X.w) (I.ok.hd hc) it lo 1 n
    refine W.item i s _ _ hg st fun v h' tk hv st' kk => ?_
    obtain ⟨t, rfl⟩ := hv
    have I1 : Inv X pins σ H { s with heap := h', toks := tk } := I.turned (fun b o hb e => kk b o (by simpa using hb) e) f0 f1 f3 f4 f5
    refine ⟨_, rfl, go_of (s := { s with heap := h', toks := tk }) (n := "range_iterator") st' rfl rfl (by decide) ⟨.int (lo + i), H, I1, ⟨t, ?_⟩, ⟨rfl, rfl⟩, st', fun b hb => (hf b hb).1⟩⟩
    rw [Int.mul_one]
  done := by
    intro X hP hw hK hc i pins s σ H E I hf st hg
    subst hP hw hK
    obtain ⟨f0, f1, f2, f3, f4, f5⟩ := hf it (by simp)
    exact wpAny_pyNext_range_end (I.ok.hd hc) st (by have : n ≤ i := hg; omega) fun h' eb => ⟨rfl, I.turned (t' := s.toks) (fun b o hb e => eb b o hb e) f0 f1 f3 f4 f5⟩
  self := fun _ _ _ _ _ st h => wpAny_pyIter_rangeiter st h
end L2
namespace L2
open PySem PySem.Spec PyProof.Rows
section
variable {X : Cx} {tg : Expr}
def iList (K : PySem.W.Frag) (tl : TE) : TI := fun σ H R => tl σ H fun x H1 => ∃ a, x = .ref a ∧ (∃ xs, SqL K H1 a xs) ∧ R (Itl K a) H1
def iTup (K : PySem.W.Frag) (tl : TE) : TI := fun σ H R => tl σ H fun x H1 => ∃ a, x = .ref a ∧ (∃ xs, SqT K H1 a xs) ∧ R (Itt K a) H1
theorem pi_list {l : Expr} {tl : TE} (hl : PE X l tl) : PI X tg l (iList X.K tl) := by
  intro pins s σ H R I h
  refine thn (hl pins s σ H _ I h) fun v s1 ⟨x, H1, I1, r1, q1⟩ => ?_
  obtain ⟨a, e, ⟨xs, hq⟩, q⟩ := q1
  subst e
  cases r1
  obtain ⟨its, rv, p, hz⟩ := I1.list hq
  refine wpAny_pyIter_list p.isList ?_
  refine ⟨s1.heap.objs.size, [s1.heap.objs.size], _, _, H1, rfl, I1.kept (t' := s1.toks) fun b o e => Heap.get?_push_of_some _ e, turn_list a _, ⟨_, Heap.get?_push_size _ rfl, rfl, rfl⟩, fun b hb => ?_, q⟩
  have e : b = s1.heap.objs.size := by simpa using hb
  subst e
  exact I1.fpOk (Nat.le_refl _) (I1.hok.fresh (Nat.le_refl _))
theorem pi_tup {l : Expr} {tl : TE} (hl : PE X l tl) : PI X tg l (iTup X.K tl) := by
  intro pins s σ H R I h
  refine thn (hl pins s σ H _ I h) fun v s1 ⟨x, H1, I1, r1, q1⟩ => ?_
  obtain ⟨a, e, ⟨xs, hq⟩, q⟩ := q1
  subst e
  cases r1
  obtain ⟨its, rv, p, hz⟩ := I1.tuple hq
  refine wpAny_pyIter_tuple (show s1.heap.IsTuple a its.toArray from p) ?_
  refine ⟨s1.heap.objs.size, [s1.heap.objs.size], _, _, H1, rfl, I1.kept (t' := s1.toks) fun b o e => Heap.get?_push_of_some _ e, turn_tuple a _, ⟨_, Heap.get?_push_size _ rfl, rfl, rfl⟩, fun b hb => ?_, q⟩
  have e : b = s1.heap.objs.size := by simpa using hb
  subst e
  exact I1.fpOk (Nat.le_refl _) (I1.hok.fresh (Nat.le_refl _))
theorem range_it {pins : List (Addr × Obj)} {σ : St} {H : Hp} {s : Shared} {R : It → Hp → Prop} {E : Value → Shared → Prop} {lo hi : Int} {t u v : Tok} {tk : Nat} (I : Inv X pins σ H s) (h1 : -(2 ^ 62) ≤ lo) (h2 : lo < 2 ^ 62) (h3 : -(2 ^ 62) ≤ hi) (h4 : hi < 2 ^ 62)
    (q : R (Itr lo (hi - lo).toNat) H) : wpAny (model X.prog X.w) X.A (pyIter (.ref s.heap.objs.size)) (PIE X pins σ tg R) E { s with heap := s.heap.push { cls := .type "range", data := .fields #[.int lo t, .int hi u, .int 1 v] }, toks := tk } := by
  refine wpAny_pyIter_range (IsRange.new ..) (small_one h1 h2 h3 h4) ?_
  have I1 : Inv X pins σ H { s with heap := s.heap.push { cls := .type "range", data := .fields #[.int lo t, .int hi u, .int 1 v] }, toks := tk } := I.kept fun b o e => Heap.get?_push_of_some _ e
  refine ⟨(s.heap.push { cls := .type "range", data := .fields #[.int lo t, .int hi u, .int 1 v] }).objs.size, [(s.heap.push { cls := .type "range", data := .fields #[.int lo t, .int hi u, .int 1 v] }).objs.size], _, _, H, rfl,
    I1.kept (t' := tk) fun b o e => Heap.get?_push_of_some _ e, turn_range _ lo (hi - lo).toNat, ?_, fun b hb => ?_, q⟩
  · have e1 : lo + ((0 : Nat) : Int) * 1 = lo := by simp
    have e2 : (((hi - lo).toNat : Nat) : Int) - ((0 : Nat) : Int) = Builtin.Range.rangeSize lo hi 1 := by rw [rangeSize_one]; split <;> omega
    show IsRangeIter _ _ (lo + ((0 : Nat) : Int) * 1) ((((hi - lo).toNat : Nat) : Int) - ((0 : Nat) : Int)) 1
    rw [e1, e2]
    exact Heap.get?_push_size _ rfl
  · have e : b = (s.heap.push { cls := .type "range", data := .fields #[.int lo t, .int hi u, .int 1 v] }).objs.size := by simpa using hb
    subst e
    exact I1.fpOk (Nat.le_refl _) (I1.hok.fresh (Nat.le_refl _))
def iRng1 (ta : TA) : TI := fun σ H R => ta σ H fun vs H1 => ∃ j : Int, vs = [.int j] ∧ -(2 ^ 62) ≤ j ∧ j < 2 ^ 62 ∧ R (Itr 0 j.toNat) H1
def iRng2 (ta : TA) : TI := fun σ H R => ta σ H fun vs H1 => ∃ i j : Int, vs = [.int i, .int j] ∧ (-(2 ^ 62) ≤ i ∧ i < 2 ^ 62 ∧ -(2 ^ 62) ≤ j ∧ j < 2 ^ 62) ∧ R (Itr i (j - i).toNat) H1
theorem pi_range1 {a : Expr} {ta : TA} {p pos : Pos} (hg : Gl X "range") (hm : X.mg "range" = none) (ha : PA X [a] ta) (hs : starEach [a] X.env = [(false, eval a X.env)] := by rfl) : PI X tg (.Call (.Name "range" p) [a] [] pos) (iRng1 ta) := by
  intro pins s σ H R I h
  refine Call_ (ld_blt I hg hm boot_range (PyProof.Rows.callWith_type1 (thn (ha pos pins s σ H _ I h) fun us s1 ⟨vs, H1, I1, r1, q1⟩ => ?_) hs rfl))
  obtain ⟨j, e, q1, q2, q⟩ := q1
  subst e
  cases r1 with
  | cons r rr =>
    cases rr
    obtain ⟨t, rfl⟩ := r
    exact call_range_1 (range_it I1 (by omega) (by omega) q1 q2 (by simpa using q))
theorem pi_range2 {a b : Expr} {ta : TA} {p pos : Pos} (hg : Gl X "range") (hm : X.mg "range" = none) (ha : PA X [a, b] ta) (hs : starEach [a, b] X.env = [(false, eval a X.env), (false, eval b X.env)] := by rfl) (hs2 : starEach [b] X.env = [(false, eval b X.env)] := by rfl) :
    PI X tg (.Call (.Name "range" p) [a, b] [] pos) (iRng2 ta) := by
  intro pins s σ H R I h
  refine Call_ (ld_blt I hg hm boot_range (PyProof.Rows.callWith_type1 (thn (ha pos pins s σ H _ I h) fun us s1 ⟨vs, H1, I1, r1, q1⟩ => ?_) (by rw [hs, hs2]) (by rw [hs2]; rfl)))
  obtain ⟨i, j, e, ⟨q1, q2, q3, q4⟩, q⟩ := q1
  subst e
  cases r1 with
  | cons r rr =>
    cases rr with
    | cons r' rr =>
      cases rr
      obtain ⟨t, rfl⟩ := r
      obtain ⟨t', rfl⟩ := r'
      exact call_range_2 (range_it I1 q1 q2 q3 q4 q)
def tFor (wi : TI) (g : TG) (tb : TS) : TS := fun D σ H => wi σ H fun J H1 => ∃ W : Nat → Nat → St → Hp → Prop, (∃ m, W 0 m σ H1) ∧ ∀ i m σ H, W i m σ H →
  (J.stop i H ∧ D.nx σ H) ∨ (J.go i H ∧ ∃ N : St → Hp → Prop, (∀ σ' H', N σ' H' → ∃ m', m' < m ∧ W (i + 1) m' σ' H') ∧ ∀ x H', J.yld i H x H' → g x σ H' fun σ2 H2 => tb { D with nx := N, ct := N, bk := D.nx } σ2 H2)
def pinsAt (fp : List Addr) (h : Heap) : List (Addr × Obj) := fp.filterMap fun b => (h.get? b).map fun o => (b, o)
theorem mem_pinsAt {fp : List Addr} {h : Heap} {b : Addr} {o : Obj} (hb : b ∈ fp) (e : h.get? b = some o) : (b, o) ∈ pinsAt fp h := List.mem_filterMap.mpr ⟨b, hb, by rw [e]; rfl⟩
theorem of_pinsAt {fp : List Addr} {h : Heap} {p : Addr × Obj} (hp : p ∈ pinsAt fp h) : p.1 ∈ fp ∧ h.get? p.1 = some p.2 := by
  obtain ⟨b, hb, e⟩ := List.mem_filterMap.mp hp
  cases q : h.get? b with
  | none => rw [q] at e; cases e
  | some o =>
    rw [q] at e
    have e' : (b, o) = p := Option.some.inj e
    subst e'
    exact ⟨hb, q⟩
theorem Inv.pinned {pins : List (Addr × Obj)} {σ : St} {H : Hp} {s : Shared} {fp : List Addr} (I : Inv X pins σ H s) (hf : ∀ b ∈ fp, FpOk X pins H b) (ho : ∀ b ∈ fp, ∃ o, s.heap.get? b = some o ∧ ∀ v, o.data ≠ .cell v) : Inv X (pins ++ pinsAt fp s.heap) σ H s :=
  I.pins_of fun p hp => (List.mem_append.mp hp).elim (fun z => I.pin p (List.mem_append_right _ z)) fun z => by
    obtain ⟨hb, e⟩ := of_pinsAt z
    obtain ⟨f0, f1, f2, _⟩ := hf p.1 hb
    obtain ⟨o, e', d⟩ := ho p.1 hb
    rw [e] at e'; cases e'
    exact ⟨e, f0, f1, f2, d⟩
theorem Inv.unpinned {pins pl : List (Addr × Obj)} {σ : St} {H : Hp} {s : Shared} (I : Inv X (pins ++ pl) σ H s) : Inv X pins σ H s := I.pins_of fun p hp => I.pin p (List.mem_append_right _ (List.mem_append_left _ hp))
theorem ps_for {iter : Expr} {body : List Stmt} {wi : TI} {g : TG} {tb : TS} {pos : Pos} (hp : PassesOwn (model X.prog X.w) X.A X.env X.xe) (hc : X.calm = true) (hi : PI X tg iter wi) (hg : PG X tg g) (hb : PSs X body tb)
    (hs : ∀ x, foldedSetIterable iter X.env x = pure x := by intro _; rfl) : PS X (.For tg iter body [] pos) (tFor wi g tb) := by
  intro pins s σ H D I h
  refine wpAny_For (thn (hi pins s σ H _ I h) fun v s1 h1 => thn h1 fun itv s2 h2 => ?_) hs
  obtain ⟨it, fp, tn, J, H2, e, I2, T, st2, f2, W, ⟨m0, w0⟩, turn⟩ := h2
  subst e
  have stat : ∀ {H' : Hp}, (∀ b ∈ fp, H' b = none) → ∀ b ∈ fp, FpOk X pins H' b := fun hn b hb => ⟨hn b hb, (f2 b hb).2⟩
  refine codeAny_forLoop_any (fun n s' => ∃ i σ' H', Inv X pins σ' H' s' ∧ tn i s'.heap ∧ (∀ b ∈ fp, H' b = none) ∧ W i n σ' H') ?_ m0 ⟨0, σ, H2, I2, st2, fun b hb => (f2 b hb).1, w0⟩
  rintro n s3 ⟨i, σ3, H3, I3, st3, fr3, w3⟩
  rcases turn i n σ3 H3 w3 with ⟨stop, qn⟩ | ⟨go, N, hN, step⟩
  · refine wpAny_passesOwn hp (thn (T.done X rfl rfl rfl hc i pins s3 σ3 H3 X.xe I3 (stat fr3) st3 stop) fun r s4 ⟨hr, I4⟩ => ?_)
    subst hr
    exact wpAny_execs_nil ⟨σ3, H3, I4, qn⟩
  · refine wpAny_passesOwn hp (thn (T.item X rfl rfl rfl hc i pins s3 σ3 H3 X.xe I3 (stat fr3) st3 go) fun r s4 ⟨u, hr, h4⟩ => ?_)
    subst hr
    refine wpAny_passesOwn hp (thn h4 fun _ s5 ⟨x, H5, I5, r5, y5, st5, fr5⟩ => ?_)
    have I5' := I5.pinned (stat fr5) (T.obj _ _ st5)
    refine wpAny_passesOwn hp (thn (hg _ s5 σ3 H5 x u _ I5' r5 (step x H5 y5)) fun _ s6 ⟨σ6, H6, I6, q6⟩ => ?_)
    refine wpAny_passesOwn hp (thn (hb _ s6 σ6 H6 _ I6 q6) fun f s7 q7 => ?_)
    have again : ∀ {σ7 : St} {H7 : Hp}, Inv X (pins ++ pinsAt fp s5.heap) σ7 H7 s7 → N σ7 H7 → ∃ m, m < n ∧ ∃ i σ' H', Inv X pins σ' H' s7 ∧ tn i s7.heap ∧ (∀ b ∈ fp, H' b = none) ∧ W i m σ' H' := fun {σ7 H7} I7 n7 => by
      obtain ⟨m', hm, w7⟩ := hN σ7 H7 n7
      refine ⟨m', hm, i + 1, σ7, H7, I7.unpinned, T.keep _ _ _ st5 fun b hb o e => (I7.pin (b, o) (List.mem_append_right _ (List.mem_append_right _ (mem_pinsAt hb e)))).1, fun b hb => ?_, w7⟩
      obtain ⟨o, e, d⟩ := T.obj _ _ st5 b hb
      exact (I7.pin (b, o) (List.mem_append_right _ (List.mem_append_right _ (mem_pinsAt hb e)))).2.1
    cases f with
    | next => obtain ⟨σ7, H7, I7, n7⟩ := q7; exact again I7 n7
    | cont => obtain ⟨σ7, H7, I7, n7⟩ := q7; exact again I7 n7
    | brk => obtain ⟨σ7, H7, I7, q7⟩ := q7; exact ⟨σ7, H7, I7.unpinned, q7⟩
    | ret v => obtain ⟨x7, σ7, H7, I7, r7, q7⟩ := q7; exact ⟨x7, σ7, H7, I7.unpinned, r7, q7⟩
end
theorem for_list {K : PySem.W.Frag} {a : Addr} {xs : List V} {g : TG} {tb : TS} {D : Ends} {σ : St} {H : Hp} (Pv : Nat → St → Hp → Prop) (h0 : Pv 0 σ H) (hl : ∀ i σ H, i ≤ xs.length → Pv i σ H → SqL K H a xs)
    (hs : ∀ i x σ H, xs[i]? = some x → Pv i σ H → g x σ H fun σ2 H2 => tb { D with nx := Pv (i + 1), ct := Pv (i + 1), bk := D.nx } σ2 H2) (hd : ∀ σ H, Pv xs.length σ H → D.nx σ H) :
    ∃ W : Nat → Nat → St → Hp → Prop, (∃ m, W 0 m σ H) ∧ ∀ i m σ H, W i m σ H →
      ((Itl K a).stop i H ∧ D.nx σ H) ∨ ((Itl K a).go i H ∧ ∃ N : St → Hp → Prop, (∀ σ' H', N σ' H' → ∃ m', m' < m ∧ W (i + 1) m' σ' H') ∧ ∀ x H', (Itl K a).yld i H x H' → g x σ H' fun σ2 H2 => tb { D with nx := N, ct := N, bk := D.nx } σ2 H2) := by
  refine ⟨fun i m σ H => m = xs.length - i ∧ i ≤ xs.length ∧ Pv i σ H, ⟨xs.length, by simp, Nat.zero_le _, h0⟩, ?_⟩
  rintro i m σ H ⟨rfl, hi, p⟩
  have q := hl i σ H hi p
  by_cases hlt : i < xs.length
  · refine .inr ⟨⟨xs, xs[i], q, by simp [hlt]⟩, Pv (i + 1), fun σ' H' p' => ⟨xs.length - (i + 1), by omega, rfl, hlt, p'⟩, fun x H' y => ?_⟩
    obtain ⟨e, y⟩ := y
    subst e
    exact hs i x σ _ (y xs q) p
  · have e : i = xs.length := by omega
    subst e
    exact .inl ⟨⟨xs, q, Nat.le_refl _⟩, hd σ H p⟩
theorem for_tup {K : PySem.W.Frag} {a : Addr} {xs : List V} {g : TG} {tb : TS} {D : Ends} {σ : St} {H : Hp} (Pv : Nat → St → Hp → Prop) (h0 : Pv 0 σ H) (hl : ∀ i σ H, i ≤ xs.length → Pv i σ H → SqT K H a xs)
    (hs : ∀ i x σ H, xs[i]? = some x → Pv i σ H → g x σ H fun σ2 H2 => tb { D with nx := Pv (i + 1), ct := Pv (i + 1), bk := D.nx } σ2 H2) (hd : ∀ σ H, Pv xs.length σ H → D.nx σ H) :
    ∃ W : Nat → Nat → St → Hp → Prop, (∃ m, W 0 m σ H) ∧ ∀ i m σ H, W i m σ H →
      ((Itt K a).stop i H ∧ D.nx σ H) ∨ ((Itt K a).go i H ∧ ∃ N : St → Hp → Prop, (∀ σ' H', N σ' H' → ∃ m', m' < m ∧ W (i + 1) m' σ' H') ∧ ∀ x H', (Itt K a).yld i H x H' → g x σ H' fun σ2 H2 => tb { D with nx := N, ct := N, bk := D.nx } σ2 H2) := by
  refine ⟨fun i m σ H => m = xs.length - i ∧ i ≤ xs.length ∧ Pv i σ H, ⟨xs.length, by simp, Nat.zero_le _, h0⟩, ?_⟩
  rintro i m σ H ⟨rfl, hi, p⟩
  have q := hl i σ H hi p
  by_cases hlt : i < xs.length
  · refine .inr ⟨⟨xs, xs[i], q, by simp [hlt]⟩, Pv (i + 1), fun σ' H' p' => ⟨xs.length - (i + 1), by omega, rfl, hlt, p'⟩, fun x H' y => ?_⟩
    obtain ⟨e, y⟩ := y
    subst e
    exact hs i x σ _ (y xs q) p
  · have e : i = xs.length := by omega
    subst e
    exact .inl ⟨⟨xs, q, Nat.le_refl _⟩, hd σ H p⟩
theorem for_range {lo : Int} {n : Nat} {g : TG} {tb : TS} {D : Ends} {σ : St} {H : Hp} (Pv : Nat → St → Hp → Prop) (h0 : Pv 0 σ H)
    (hs : ∀ i σ H, i < n → Pv i σ H → g (.int (lo + i)) σ H fun σ2 H2 => tb { D with nx := Pv (i + 1), ct := Pv (i + 1), bk := D.nx } σ2 H2) (hd : ∀ σ H, Pv n σ H → D.nx σ H) :
    ∃ W : Nat → Nat → St → Hp → Prop, (∃ m, W 0 m σ H) ∧ ∀ i m σ H, W i m σ H →
      ((Itr lo n).stop i H ∧ D.nx σ H) ∨ ((Itr lo n).go i H ∧ ∃ N : St → Hp → Prop, (∀ σ' H', N σ' H' → ∃ m', m' < m ∧ W (i + 1) m' σ' H') ∧ ∀ x H', (Itr lo n).yld i H x H' → g x σ H' fun σ2 H2 => tb { D with nx := N, ct := N, bk := D.nx } σ2 H2) := by
  refine ⟨fun i m σ H => m = n - i ∧ i ≤ n ∧ Pv i σ H, ⟨n, by simp, Nat.zero_le _, h0⟩, ?_⟩
  rintro i m σ H ⟨rfl, hi, p⟩
  by_cases hlt : i < n
  · refine .inr ⟨hlt, Pv (i + 1), fun σ' H' p' => ⟨n - (i + 1), by omega, rfl, hlt, p'⟩, fun x H' y => ?_⟩
    obtain ⟨e, y⟩ := y
    subst e y
    exact hs i σ _ hlt p
  · have e : i = n := by omega
    subst e
    exact .inl ⟨Nat.le_refl _, hd σ H p⟩
end L2
namespace L2
open PySem PySem.Spec PyProof.Rows
abbrev R2 := V → V → Hp → VK → Prop
def OpR (X : Cx) (f : Value → Value → Sem Value) (r : R2) : Prop :=
  ∀ (pins : List (Addr × Obj)) (s : Shared) (σ : St) (H : Hp) (x y : V) (v u : Value) (Q : VK), Inv X pins σ H s → RelV x v → RelV y u → r x y H Q →
    wpAny (model X.prog X.w) X.A (f v u) (EP X pins σ Q) X.xe s
def UnR (X : Cx) (f : Value → Sem Value) (r : V → Hp → VK → Prop) : Prop :=
  ∀ (pins : List (Addr × Obj)) (s : Shared) (σ : St) (H : Hp) (x : V) (v : Value) (Q : VK), Inv X pins σ H s → RelV x v → r x H Q →
    wpAny (model X.prog X.w) X.A (f v) (EP X pins σ Q) X.xe s
def CallR (X : Cx) (f : Value) (r : List V → Hp → VK → Prop) : Prop :=
  ∀ (pins : List (Addr × Obj)) (s : Shared) (σ : St) (H : Hp) (xs : List V) (us : List Value) (Q : VK), Inv X pins σ H s → Vals xs us → r xs H Q →
    wpAny (model X.prog X.w) X.A (call f us) (EP X pins σ Q) X.xe s
def TruR (X : Cx) (r : V → Hp → (Bool → Hp → Prop) → Prop) : Prop :=
  ∀ (pins : List (Addr × Obj)) (s : Shared) (σ : St) (H : Hp) (x : V) (v : Value) (Q : Bool → Hp → Prop), Inv X pins σ H s → RelV x v → r x H Q →
    wpAny (model X.prog X.w) X.A (truthy v) (TP X pins σ Q) X.xe s
def tOp (r : R2) (ta tb : TE) : TE := fun σ H Q => ta σ H fun x H1 => tb σ H1 fun y H2 => r x y H2 Q
def tUn (r : V → Hp → VK → Prop) (ta : TE) : TE := fun σ H Q => ta σ H fun x H1 => r x H1 Q
def rI (C : Int → Int → Prop) (g : Int → Int → V) : R2 := fun x y H Q => ∃ i j, x = .int i ∧ y = .int j ∧ C i j ∧ Q (g i j) H
def rI0 (g : Int → Int → V) : R2 := fun x y H Q => ∃ i j, x = .int i ∧ y = .int j ∧ Q (g i j) H
def rU (g : Int → V) : V → Hp → VK → Prop := fun x H Q => ∃ i, x = .int i ∧ Q (g i) H
section
variable {X : Cx} {a b c : Expr} {ta tb tc : TE} {pos : Pos}
theorem binT (ha : PE X a ta) (hb : PE X b tb) {pins : List (Addr × Obj)} {s : Shared} {σ : St} {H : Hp} {R : V → V → Hp → Prop} (I : Inv X pins σ H s)
    (h : ta σ H fun x H1 => tb σ H1 fun y H2 => R x y H2) {Q : Value → Shared → Prop} {f : Value → Value → Sem Value}
    (hf : ∀ v u s2 x y H2, Inv X pins σ H2 s2 → RelV x v → RelV y u → R x y H2 → wpAny (model X.prog X.w) X.A (f v u) Q X.xe s2) :
    wpAny (model X.prog X.w) X.A (eval a X.env) (fun v s₁ => wpAny (model X.prog X.w) X.A (eval b X.env) (fun u s₂ => wpAny (model X.prog X.w) X.A (f v u) Q X.xe s₂) X.xe s₁) X.xe s := by
  refine thn (ha pins s σ H _ I h) fun v s1 ⟨x, H1, I1, r1, q1⟩ => ?_
  refine thn (hb pins s1 σ H1 _ I1 q1) fun u s2 ⟨y, H2, I2, r2, q2⟩ => ?_
  exact hf v u s2 x y H2 I2 r1 r2 q2
theorem pe_op {op : Operator} {r : R2} (ho : OpR X (binaryOp op) r) (ha : PE X a ta) (hb : PE X b tb) : PE X (.BinOp a op b pos) (tOp r ta tb) := by
  intro pins s σ H Q I h
  exact wpAny_BinOp (binT ha hb I h fun v u s2 x y H2 I2 rx ry q => ho pins s2 σ H2 x y v u Q I2 rx ry q)
theorem pe_un {op : UnaryOp} {r : V → Hp → VK → Prop} (ho : UnR X (unaryOp op) r) (ha : PE X a ta) : PE X (.UnaryOp op a pos) (tUn r ta) := by
  intro pins s σ H Q I h
  exact UnaryOp_ (thn (ha pins s σ H _ I h) fun v s1 ⟨x, H1, I1, r1, q1⟩ => ho pins s1 σ H1 x v Q I1 r1 q1)
theorem opI {f : Value → Value → Sem Value} {C : Int → Int → Prop} {g : Int → Int → Int}
    (rule : ∀ (i j : Int) (t u : Tok) (s : Shared) (Q : Value → Shared → Prop) (E : Value → Shared → Prop), C i j → Q (.int (g i j) s.toks) { s with toks := s.toks + 1 } → wpAny (model X.prog X.w) X.A (f (.int i t) (.int j u)) Q E s) :
    OpR X f (rI C fun i j => .int (g i j)) := by
  intro pins s σ H x y v u Q I rx ry h
  obtain ⟨i, j, rfl, rfl, hc, q⟩ := h
  obtain ⟨t, rfl⟩ := rx
  obtain ⟨t', rfl⟩ := ry
  exact rule i j t t' s _ _ hc ⟨.int (g i j), H, I.tok _, ⟨_, rfl⟩, q⟩
theorem opI0 {f : Value → Value → Sem Value} {g : Int → Int → Int}
    (rule : ∀ (i j : Int) (t u : Tok) (s : Shared) (Q : Value → Shared → Prop) (E : Value → Shared → Prop), Q (.int (g i j) s.toks) { s with toks := s.toks + 1 } → wpAny (model X.prog X.w) X.A (f (.int i t) (.int j u)) Q E s) :
    OpR X f (rI0 fun i j => .int (g i j)) := by
  intro pins s σ H x y v u Q I rx ry h
  obtain ⟨i, j, rfl, rfl, q⟩ := h
  obtain ⟨t, rfl⟩ := rx
  obtain ⟨t', rfl⟩ := ry
  exact rule i j t t' s _ _ ⟨.int (g i j), H, I.tok _, ⟨_, rfl⟩, q⟩
theorem opB0 {f : Value → Value → Sem Value} {g : Int → Int → Bool}
    (rule : ∀ (i j : Int) (t u : Tok) (s : Shared) (Q : Value → Shared → Prop) (E : Value → Shared → Prop), Q (.bool (g i j)) s → wpAny (model X.prog X.w) X.A (f (.int i t) (.int j u)) Q E s) :
    OpR X f (rI0 fun i j => .bl (g i j)) := by
  intro pins s σ H x y v u Q I rx ry h
  obtain ⟨i, j, rfl, rfl, q⟩ := h
  obtain ⟨t, rfl⟩ := rx
  obtain ⟨t', rfl⟩ := ry
  exact rule i j t t' s _ _ ⟨.bl (g i j), H, I, rfl, q⟩
def CPow (i j : Int) : Prop := 0 ≤ j ∧ j ≤ 1000000 ∧ i.natAbs < 2 ^ 64
def CMul (i j : Int) : Prop := (-(2 ^ 64) < i ∧ i < 2 ^ 64) ∨ (-(2 ^ 64) < j ∧ j < 2 ^ 64)
theorem CMul.ok {i j : Int} (h : CMul i j) : IntMulOk i j := by
  rcases h with ⟨h1, h2⟩ | ⟨h1, h2⟩
  · exact .of_left (intBits_le_64 h1 h2)
  · exact .of_right (intBits_le_64 h1 h2)
theorem op_add : OpR X (binaryOp .Add) (rI0 fun i j => .int (i + j)) := opI0 fun _ _ _ _ _ _ _ q => add_int q
theorem op_sub : OpR X (binaryOp .Sub) (rI0 fun i j => .int (i - j)) := opI0 fun _ _ _ _ _ _ _ q => sub_int q
theorem op_mul : OpR X (binaryOp .Mult) (rI CMul fun i j => .int (i * j)) := opI fun _ _ _ _ _ _ _ hc q => mul_int q hc.ok
theorem op_mod : OpR X (binaryOp .Mod) (rI (fun _ j => 0 < j) fun i j => .int (i % j)) := opI fun i j _ _ _ _ _ hc q => by
  have h1 : (0 : Int) < j := hc
  exact mod_int' (by omega) (by rw [Int.fmod_eq_emod_of_nonneg i (by omega)]; exact q)
theorem op_pow : OpR X (binaryOp .Pow) (rI CPow fun i j => .int (i ^ j.toNat)) := opI fun _ _ _ _ _ _ _ hc q => pow_int_small hc.1 hc.2.1 hc.2.2 q
theorem unI {f : Value → Sem Value} {g : Int → Int}
    (rule : ∀ (i : Int) (t : Tok) (s : Shared) (Q : Value → Shared → Prop) (E : Value → Shared → Prop), Q (.int (g i) s.toks) { s with toks := s.toks + 1 } → wpAny (model X.prog X.w) X.A (f (.int i t)) Q E s) :
    UnR X f (rU fun i => .int (g i)) := by
  intro pins s σ H x v Q I rx h
  obtain ⟨i, rfl, q⟩ := h
  obtain ⟨t, rfl⟩ := rx
  exact rule i t s _ _ ⟨.int (g i), H, I.tok _, ⟨_, rfl⟩, q⟩
theorem un_neg : UnR X (unaryOp .USub) (rU fun i => .int (-i)) := unI fun _ _ _ _ _ q => neg_int q
end
def scal : V → V → Bool
  | .non, .non => true | .non, .int _ => true | .int _, .non => true | .non, .bl _ => true | .bl _, .non => true | .non, .str _ => true | .str _, .non => true
  | .int _, .int _ => true | .bl _, .bl _ => true | .str _, .str _ => true | .byt _, .byt _ => true
  | .int _, .str _ => true | .str _, .int _ => true | .bl _, .str _ => true | .str _, .bl _ => true
  | _, _ => false
def rEq : R2 := fun x y H Q => scal x y = true ∧ Q (.bl (decide (x = y))) H
def rNe : R2 := fun x y H Q => scal x y = true ∧ Q (.bl (!decide (x = y))) H
theorem dec_int {i j : Int} : decide (V.int i = V.int j) = (i == j) := by
  rw [Bool.eq_iff_iff]
  simp
theorem dec_bl {i j : Bool} : decide (V.bl i = V.bl j) = (i == j) := by
  rw [Bool.eq_iff_iff]
  simp
theorem dec_str {i j : Str} : decide (V.str i = V.str j) = (i == j) := by
  rw [Bool.eq_iff_iff]
  simp
theorem dec_byt {i j : Array UInt8} : decide (V.byt i = V.byt j) = (i.toList == j.toList) := by
  rw [Bool.eq_iff_iff]
  cases i
  cases j
  simp
section
variable {X : Cx} {a b c : Expr} {ta tb tc : TE} {pos : Pos}
theorem fin_bl {pins : List (Addr × Obj)} {σ : St} {H : Hp} {s : Shared} {Q : VK} {k k' : Bool} (I : Inv X pins σ H s) (q : Q (.bl k) H) (e : k = k') : EP X pins σ Q (.bool k') s := by
  subst e
  exact ⟨.bl k, H, I, rfl, q⟩
theorem op_eq : OpR X (compareOp .Eq) rEq := by
  intro pins s σ H x y v u Q I rx ry h
  obtain ⟨hs, q⟩ := h
  cases x with
  | non =>
    cases rx
    cases y with
    | non => cases ry; exact PySem.EqNone.eq_none_none (fin_bl I q (by simp))
    | bl j => cases ry; exact PySem.EqNone.eq_none_bool (fin_bl I q (by simp))
    | int j => obtain ⟨t', rfl⟩ := ry; exact PySem.EqNone.eq_none_int (fin_bl I q (by simp))
    | str j => obtain ⟨t', rfl⟩ := ry; exact PySem.EqNone.eq_none_str (fin_bl I q (by simp))
    | _ => exact absurd (show false = true from hs) Bool.false_ne_true
  | bl i =>
    cases rx
    cases y with
    | non => cases ry; exact PySem.EqNone.eq_bool_none (fin_bl I q (by simp))
    | bl j => cases ry; exact eq_bool (fin_bl I q dec_bl)
    | str j => obtain ⟨t', rfl⟩ := ry; exact PySem.EqMixed.eq_bool_str (fin_bl I q (by simp))
    | _ => exact absurd (show false = true from hs) Bool.false_ne_true
  | int i =>
    obtain ⟨t, rfl⟩ := rx
    cases y with
    | non => cases ry; exact PySem.EqNone.eq_int_none (fin_bl I q (by simp))
    | int j => obtain ⟨t', rfl⟩ := ry; exact eq_int (fin_bl I q dec_int)
    | str j => obtain ⟨t', rfl⟩ := ry; exact PySem.EqMixed.eq_int_str (fin_bl I q (by simp))
    | _ => exact absurd (show false = true from hs) Bool.false_ne_true
  | str i =>
    obtain ⟨t, rfl⟩ := rx
    cases y with
    | non => cases ry; exact PySem.EqNone.eq_str_none (fin_bl I q (by simp))
    | bl j => cases ry; exact PySem.EqMixed.eq_str_bool (fin_bl I q (by simp))
    | int j => obtain ⟨t', rfl⟩ := ry; exact PySem.EqMixed.eq_str_int (fin_bl I q (by simp))
    | str j => obtain ⟨t', rfl⟩ := ry; exact eq_str (fin_bl I q dec_str)
    | _ => exact absurd (show false = true from hs) Bool.false_ne_true
  | byt i =>
    obtain ⟨t, rfl⟩ := rx
    cases y with
    | byt j => obtain ⟨t', rfl⟩ := ry; exact PySem.W.eq_bytes (fin_bl I q dec_byt)
    | _ => exact absurd (show false = true from hs) Bool.false_ne_true
  | _ => cases y <;> exact absurd (show false = true from hs) Bool.false_ne_true
theorem op_ne : OpR X (compareOp .NotEq) rNe := by
  intro pins s σ H x y v u Q I rx ry h
  obtain ⟨hs, q⟩ := h
  cases x with
  | non =>
    cases rx
    cases y with
    | non => cases ry; exact PySem.EqNone.ne_none_none (fin_bl I q (by simp))
    | bl j => cases ry; exact PySem.EqNone.ne_none_bool (fin_bl I q (by simp))
    | int j => obtain ⟨t', rfl⟩ := ry; exact PySem.EqNone.ne_none_int (fin_bl I q (by simp))
    | str j => obtain ⟨t', rfl⟩ := ry; exact PySem.EqNone.ne_none_str (fin_bl I q (by simp))
    | _ => exact absurd (show false = true from hs) Bool.false_ne_true
  | bl i =>
    cases rx
    cases y with
    | non => cases ry; exact PySem.EqNone.ne_bool_none (fin_bl I q (by simp))
    | bl j => cases ry; exact ne_bool (fin_bl I q (congrArg not dec_bl))
    | str j => obtain ⟨t', rfl⟩ := ry; exact PySem.EqMixed.ne_bool_str (fin_bl I q (by simp))
    | _ => exact absurd (show false = true from hs) Bool.false_ne_true
  | int i =>
    obtain ⟨t, rfl⟩ := rx
    cases y with
    | non => cases ry; exact PySem.EqNone.ne_int_none (fin_bl I q (by simp))
    | int j => obtain ⟨t', rfl⟩ := ry; exact ne_int (fin_bl I q (congrArg not dec_int))
    | str j => obtain ⟨t', rfl⟩ := ry; exact PySem.EqMixed.ne_int_str (fin_bl I q (by simp))
    | _ => exact absurd (show false = true from hs) Bool.false_ne_true
  | str i =>
    obtain ⟨t, rfl⟩ := rx
    cases y with
    | non => cases ry; exact PySem.EqNone.ne_str_none (fin_bl I q (by simp))
    | bl j => cases ry; exact PySem.EqMixed.ne_str_bool (fin_bl I q (by simp))
    | int j => obtain ⟨t', rfl⟩ := ry; exact PySem.EqMixed.ne_str_int (fin_bl I q (by simp))
    | str j => obtain ⟨t', rfl⟩ := ry; exact ne_str (fin_bl I q (congrArg not dec_str))
    | _ => exact absurd (show false = true from hs) Bool.false_ne_true
  | byt i =>
    obtain ⟨t, rfl⟩ := rx
    cases y with
    | byt j => obtain ⟨t', rfl⟩ := ry; exact PySem.W.ne_bytes (fin_bl I q (congrArg not dec_byt))
    | _ => exact absurd (show false = true from hs) Bool.false_ne_true
  | _ => cases y <;> exact absurd (show false = true from hs) Bool.false_ne_true
theorem op_lt : OpR X (compareOp .Lt) (rI0 fun i j => .bl (decide (i < j))) := opB0 fun _ _ _ _ _ _ _ q => lt_int q
theorem op_gt : OpR X (compareOp .Gt) (rI0 fun i j => .bl (decide (j < i))) := opB0 fun _ _ _ _ _ _ _ q => gt_int q
theorem op_ge : OpR X (compareOp .GtE) (rI0 fun i j => .bl (decide (j ≤ i))) := opB0 fun _ _ _ _ _ _ _ q => ge_int q
theorem OpR.or {f : Value → Value → Sem Value} {r r' : R2} (h : OpR X f r) (h' : OpR X f r') : OpR X f (fun x y H Q => r x y H Q ∨ r' x y H Q) := by
  intro pins s σ H x y v u Q I rx ry q
  rcases q with q | q
  · exact h pins s σ H x y v u Q I rx ry q
  · exact h' pins s σ H x y v u Q I rx ry q
theorem nomark (b : Expr) {op : CmpOp} (h : op ≠ .In := by decide) (h2 : op ≠ .NotIn := by decide) : behindInMarks op b = false := by
  have e1 : (op == CmpOp.In) = false := by cases op <;> first | rfl | exact absurd rfl h
  have e2 : (op == CmpOp.NotIn) = false := by cases op <;> first | rfl | exact absurd rfl h2
  cases b <;> simp [behindInMarks, e1, e2]
theorem pe_cmpR {op : CmpOp} {r : R2} (ho : OpR X (compareOp op) r) (ha : PE X a ta) (hb : PE X b tb) (hm : behindInMarks op b = false) : PE X (.Compare a [op] [b] pos) (tOp r ta tb) := by
  intro pins s σ H Q I h
  exact wpAny_Compare1 (binT ha hb I h fun v u s2 x y H2 I2 rx ry q => ho pins s2 σ H2 x y v u Q I2 rx ry q) hm
def tTest (t : TE) : TT := fun σ H Q => t σ H fun x H' => ∃ k, x = .bl k ∧ Q k H'
theorem pt_cmpR {op : CmpOp} {r : R2} (ho : OpR X (compareOp op) r) (ha : PE X a ta) (hb : PE X b tb) (hm : behindInMarks op b = false) : PT X (.Compare a [op] [b] pos) (tTest (tOp r ta tb)) := by
  intro pins s σ H Q I h
  refine wpAny_isTrue_Compare1 (thn (ha pins s σ H _ I h) fun v s1 ⟨x, H1, I1, r1, q1⟩ => thn (hb pins s1 σ H1 _ I1 q1) fun u s2 ⟨y, H2, I2, r2, q2⟩ =>
    thn (ho pins s2 σ H2 x y v u _ I2 r1 r2 q2) fun c s3 ⟨z, H3, I3, r3, k, e, q3⟩ => ?_) hm
  subst e
  cases r3
  exact wpAny_truthy_bool ⟨H3, I3, q3⟩
def TruV (K : PySem.W.Frag) (x : V) (H : Hp) (k : Bool) : Prop :=
  match x with
  | .non => k = false
  | .bl b => k = b
  | .int i => k = (i != 0)
  | .str y => y.length ≤ sizeLine ∧ k = ((y.length : Int) != 0)
  | .byt y => y.size ≤ sizeLine ∧ k = ((y.size : Int) != 0)
  | .ref p => (∃ xs, SqL K H p xs ∧ k = !xs.isEmpty) ∨ (∃ xs, SqT K H p xs ∧ k = !xs.isEmpty) ∨ ∃ kvs, H p = some (.dK kvs) ∧ k = !kvs.isEmpty
  | _ => False
theorem isEmpty_kv {κ : Type} {kvs : List (κ × V)} {vs : List (κ × Value)} (r : KV kvs vs) : (!vs.isEmpty) = !kvs.isEmpty := by
  cases r <;> rfl
theorem isEmpty_of {xs : List V} {its : List Value} (r : Vals xs its) : (!its.toArray.isEmpty) = !xs.isEmpty := by
  cases r <;> simp
theorem line63 : (sizeLine : Nat) < 2 ^ 63 := by rw [sizeLine_eq]; decide
theorem tru_ok : TruR X (fun x H Q => ∃ k, TruV X.K x H k ∧ Q k H) := by
  intro pins s σ H x v Q I rx h
  obtain ⟨k, e, q⟩ := h
  have hl := line63
  have hs : sizeLine = 16777216 := sizeLine_eq
  cases x with
  | non =>
    cases rx
    have e' : k = false := e
    subst e'
    exact truthy_none ⟨H, I, q⟩
  | bl b =>
    cases rx
    have e' : k = b := e
    subst e'
    exact wpAny_truthy_bool ⟨H, I, q⟩
  | int i =>
    obtain ⟨t, rfl⟩ := rx
    have e' : k = (i != 0) := e
    subst e'
    exact PySem.P.truthy_int ⟨H, I, q⟩
  | str y =>
    obtain ⟨t, rfl⟩ := rx
    obtain ⟨hy, e'⟩ : y.length ≤ sizeLine ∧ k = ((y.length : Int) != 0) := e
    subst e'
    exact PySem.P.truthy_str (by omega) ⟨H, I.tok _, q⟩
  | byt y =>
    obtain ⟨t, rfl⟩ := rx
    obtain ⟨hy, e'⟩ : y.size ≤ sizeLine ∧ k = ((y.size : Int) != 0) := e
    subst e'
    exact PySem.W.truthy_bytes (by omega) ⟨H, I.tok _, q⟩
  | ref p =>
    cases rx
    have e' : (∃ xs, SqL X.K H p xs ∧ k = !xs.isEmpty) ∨ (∃ xs, SqT X.K H p xs ∧ k = !xs.isEmpty) ∨ ∃ kvs, H p = some (.dK kvs) ∧ k = !kvs.isEmpty := e
    rcases e' with ⟨xs, hx, e'⟩ | ⟨xs, hx, e'⟩ | ⟨kvs, hx, e'⟩
    · subst e'
      obtain ⟨its, r, pl, hz⟩ := I.list hx
      have hlen := r.length
      exact wpAny_truthy_list pl.isList (by simp only [List.size_toArray]; omega) ⟨H, I.tok _, by rw [isEmpty_of r]; exact q⟩
    · subst e'
      obtain ⟨its, r, pl, hz⟩ := I.tuple hx
      have hlen := r.length
      exact truthy_tuple pl (by simp only [List.size_toArray]; omega) ⟨H, I.tok _, by rw [isEmpty_of r]; exact q⟩
    · subst e'
      obtain ⟨hz, hS, vs, r, m⟩ : kvs.length ≤ sizeLine ∧ (p == sysModules) = false ∧ ∃ vs, KV kvs vs ∧ s.heap.DictOf (mixKind X.prog X.w) p vs := I.hok p _ hx
      have hlen : kvs.length = vs.length := Paired.length r
      exact wpAny_truthy_dict hS m (by omega) ⟨H, I.tok _, by rw [isEmpty_kv r]; exact q⟩
  | _ => exact (show False from e).elim
theorem pt_truth (ha : PE X a ta) (he : ∀ whole, isTrue a X.env whole = (do let v ← whole; standAt a.pos; holding [v] (truthy v))) :
    PT X a (fun σ H Q => ta σ H fun x H' => ∃ k, TruV X.K x H' k ∧ Q k H') := by
  intro pins s σ H Q I h
  exact isTrue_plain (thn (ha pins s σ H _ I h) fun v s1 ⟨x, H1, I1, r1, q1⟩ => tru_ok pins s1 σ H1 x v Q I1 r1 q1) (he _)
theorem op_add_str : OpR X (binaryOp .Add) (fun x y H Q => ∃ i j, x = .str i ∧ y = .str j ∧ i.length + j.length ≤ sizeLine ∧ Q (.str (i ++ j)) H) := by
  intro pins s σ H x y v u Q I rx ry h
  obtain ⟨i, j, rfl, rfl, hz, q⟩ := h
  obtain ⟨t, rfl⟩ := rx
  obtain ⟨t', rfl⟩ := ry
  exact add_str (fun t' tk => ⟨.str (i ++ j), H, I.tok _, ⟨_, rfl⟩, q⟩) hz
theorem vals1 {x : V} {us : List Value} (r : Vals [x] us) : ∃ u, us = [u] ∧ RelV x u := by
  cases r with
  | cons r1 r2 => cases r2; exact ⟨_, rfl, r1⟩
theorem vals2 {x y : V} {us : List Value} (r : Vals [x, y] us) : ∃ u w', us = [u, w'] ∧ RelV x u ∧ RelV y w' := by
  cases r with
  | cons r1 r2 =>
    cases r2 with
    | cons r3 r4 => cases r4; exact ⟨_, _, rfl, r1, r3⟩
theorem call_min2 (hc : X.calm = true) : CallR X (.builtin "min") (fun xs H Q => ∃ i j, xs = [.int i, .int j] ∧ Q (.int (if j < i then j else i)) H) := by
  intro pins s σ H xs us Q I r h
  obtain ⟨i, j, rfl, q⟩ := h
  obtain ⟨u, w', rfl, ⟨t, rfl⟩, ⟨t', rfl⟩⟩ := vals2 r
  refine min_two_ints (I.ok.hd hc) fun h' tk k => ⟨_, H, I.kept k, ?_, q⟩
  by_cases hj : j < i
  · rw [if_pos hj, if_pos hj]; exact ⟨_, rfl⟩
  · rw [if_neg hj, if_neg hj]; exact ⟨_, rfl⟩
theorem call_int1 : CallR X (.type "int") (fun xs H Q => (∃ i, xs = [.int i] ∧ Q (.int i) H) ∨ ∃ k, xs = [.bl k] ∧ Q (.int (if k then 1 else 0)) H) := by
  intro pins s σ H xs us Q I r h
  rcases h with ⟨i, rfl, q⟩ | ⟨k, rfl, q⟩
  · obtain ⟨u, rfl, t, rfl⟩ := vals1 r
    exact call_int_int ⟨.int i, H, I, ⟨_, rfl⟩, q⟩
  · obtain ⟨u, rfl, r1⟩ := vals1 r
    cases r1
    exact call_int_bool ⟨.int (if k then 1 else 0), H, I.tok _, ⟨_, rfl⟩, q⟩
def LenV (K : PySem.W.Frag) (x : V) (H : Hp) (n : Nat) : Prop :=
  match x with
  | .str y => y.length ≤ sizeLine ∧ n = y.length
  | .byt y => y.size ≤ sizeLine ∧ n = y.size
  | .ref p => (∃ xs, SqL K H p xs ∧ n = xs.length) ∨ ∃ xs, SqT K H p xs ∧ n = xs.length
  | _ => False
theorem call_len : CallR X (.builtin "len") (fun xs H Q => ∃ x n, xs = [x] ∧ LenV X.K x H n ∧ Q (.int n) H) := by
  intro pins s σ H xs us Q I r h
  obtain ⟨x, n, rfl, e, q⟩ := h
  obtain ⟨u, rfl, rx⟩ := vals1 r
  have hl := line63
  have hs : sizeLine = 16777216 := sizeLine_eq
  cases x with
  | str y =>
    obtain ⟨t, rfl⟩ := rx
    obtain ⟨hy, e'⟩ : y.length ≤ sizeLine ∧ n = y.length := e
    subst e'
    exact len_str (by omega) ⟨.int _, H, I.tok _, ⟨_, rfl⟩, q⟩
  | byt y =>
    obtain ⟨t, rfl⟩ := rx
    obtain ⟨hy, e'⟩ : y.size ≤ sizeLine ∧ n = y.size := e
    subst e'
    exact PySem.W.len_bytes (by omega) ⟨.int _, H, I.tok _, ⟨_, rfl⟩, q⟩
  | ref p =>
    cases rx
    have e' : (∃ xs, SqL X.K H p xs ∧ n = xs.length) ∨ ∃ xs, SqT X.K H p xs ∧ n = xs.length := e
    rcases e' with ⟨xs, hx, e'⟩ | ⟨xs, hx, e'⟩
    · subst e'
      obtain ⟨its, r', pl, hz⟩ := I.list hx
      have hlen := r'.length
      exact Calls.call_len_list pl.isList (by simp only [List.size_toArray]; omega) ⟨.int xs.length, H, I.tok _, ⟨_, by simp only [List.size_toArray]; rw [hlen]⟩, q⟩
    · subst e'
      obtain ⟨its, r', pl, hz⟩ := I.tuple hx
      have hlen := r'.length
      exact len_tuple pl (by simp only [List.size_toArray]; omega) ⟨.int xs.length, H, I.tok _, ⟨_, by simp only [List.size_toArray]; rw [hlen]⟩, q⟩
  | _ => exact (show False from e).elim
end
end L2
namespace L2
open PySem PySem.Spec PyProof.Rows
structure ObjM (h : Heap) (x dx C : Addr) (mA : Str → Option Value) : Prop where
  obj : h.get? x = some (PySem.W.instObj C dx)
  ns : h.Ns1 dx mA
  ne : dx ≠ x
theorem lookIn_ns {h : Heap} {dx : Addr} {mA : Str → Option Value} (n : h.Ns1 dx mA) : ∃ od, h.get? dx = some od ∧ ∀ name, PySem.W.lookIn name od = some (mA name) := by
  obtain ⟨o, es, ep, ho, hd, hk, _, hm⟩ := n
  refine ⟨o, ho, fun name => ?_⟩
  have e := hm name
  unfold nsFind findBy at e
  rw [← Array.find?_toList] at e
  unfold PySem.W.lookIn
  rw [hd]
  dsimp only
  split
  · rename_i y q
    rw [q] at e
    exact congrArg some e
  · rename_i q
    rw [q] at e
    have a : es.toList.any (·.refKey) = false := by
      rw [List.any_eq_false]
      intro y hy
      obtain ⟨z, t, hkey⟩ := hk y (Array.mem_toList_iff.mp hy)
      simp [DictEntry.refKey, hkey]
    have a' : ¬ es.toList.any (·.refKey) = true := by rw [a]; exact Bool.false_ne_true
    rw [if_neg a']
    exact congrArg some e
theorem ObjM.look {h : Heap} {x dx C : Addr} {mA : Str → Option Value} (I : ObjM h x dx C mA) : ∃ od, PySem.W.InstAt h x (PySem.W.instObj C dx) C (some od) ∧ ∀ name, PySem.W.lookIn name od = some (mA name) :=
  let ⟨od, ho, hl⟩ := lookIn_ns I.ns
  ⟨od, ⟨I.obj, rfl, rfl, ho⟩, hl⟩
section
variable {prog : Program} {w : World} {A : Around} {E : Value → Shared → Prop} {s : Shared} {K : PySem.W.Frag} {x dx C f : Addr} {mA : Str → Option Value} {name : Str} {v : Value}
end
theorem RelO.some_of {v : V} {o : Option Value} (r : RelO (some v) o) : ∃ u, o = some u ∧ RelV v u := by
  cases o with
  | none => exact (show False from r).elim
  | some u => exact ⟨u, rfl, r⟩
theorem RelO.none_of {o : Option Value} (r : RelO none o) : o = none := by
  cases o with
  | none => rfl
  | some u => exact (show False from r).elim
section
variable {P : Program} {w : World} {H H' : Hp} {h h' : Heap} {a C dx : Addr} {fs fs' : List (Str × V)}
theorem ins_get (hok : HOk P w H h) (e : H a = some (.ins C dx fs)) : ∃ mA, ObjM h a dx C mA ∧ (∀ f, RelO (fs.lookup f) (mA f)) ∧ PySem.Within mA (fs.map (·.1)) ∧ fs.length ≤ 1000 ∧ H dx = some (.own a) := by
  obtain ⟨d, z, ne, ob, mA, n, r, q⟩ := (show ObjOk P w H h a (.ins C dx fs) from hok a _ e)
  exact ⟨mA, ⟨ob, n, ne⟩, r, q, z, d⟩
end
structure Cls (K : PySem.W.Frag) (C : Addr) : Prop where
  pg : PySem.W.plainGet K C Str.empty = true
  hd : PySem.W.hasDictIn K C = true
  po : PySem.W.plainOver K C = true
  sa : PySem.W.findIn K (.ref C) "__setattr__" = some (some (.builtin "object.__setattr__"))
theorem Cls.get {K : PySem.W.Frag} {C : Addr} (c : Cls K C) (f : Str) : PySem.W.plainGet K C f = true := c.pg
section
variable {X : Cx} {pins : List (Addr × Obj)} {σ : St} {H : Hp} {s : Shared} {a C dx : Addr} {fs : List (Str × V)} {f : Str} {v : V} {A : Around} {E : Value → Shared → Prop}
theorem Inv.made (I : Inv X pins σ H s) : Inv X pins σ (upd (upd H s.heap.objs.size (.own (s.heap.objs.size + 1))) (s.heap.objs.size + 1) (.ins C s.heap.objs.size []))
    { s with heap := (s.heap.push PySem.W.emptyDict).push (PySem.W.instObj C s.heap.objs.size) } := by
  have e1 : (s.heap.push PySem.W.emptyDict).get? s.heap.objs.size = some PySem.W.emptyDict := Heap.get?_push_size s.heap rfl
  have e2 : ((s.heap.push PySem.W.emptyDict).push (PySem.W.instObj C s.heap.objs.size)).get? (s.heap.objs.size + 1) = some (PySem.W.instObj C s.heap.objs.size) := by
    have := Heap.get?_push_size (s.heap.push PySem.W.emptyDict) (o := PySem.W.instObj C s.heap.objs.size) rfl
    rwa [Heap.size_push] at this
  have e3 : (s.heap.push PySem.W.emptyDict).Ns s.heap.objs.size (fun _ => none) := ⟨PySem.W.emptyDict, #[], _, e1, rfl, (fun e he => absurd he (by simp)), fun _ => rfl⟩
  have I1 := I.laid (a := s.heap.objs.size) (o := .own (s.heap.objs.size + 1)) (h' := s.heap.push PySem.W.emptyDict) (t' := s.toks) (fun b u q => Heap.get?_push_of_some _ q) (Nat.le_refl _) ⟨_, e1⟩
  refine I1.laid (a := s.heap.objs.size + 1) (o := .ins C s.heap.objs.size []) (t' := s.toks) (fun b u q => Heap.get?_push_of_some _ q) (Nat.le_of_eq (Heap.size_push _ _)) ?_
  have ne : s.heap.objs.size ≠ s.heap.objs.size + 1 := Nat.ne_of_lt (Nat.lt_succ_self _)
  refine ⟨by rw [upd_ne ne, upd_same], Nat.zero_le _, ne, e2, fun _ => none, (Heap.Ns1.of_empty e3).at fun o q => Heap.get?_push_of_some _ q, fun _ => True.intro, fun y hy => absurd rfl hy⟩
end
section
variable {X : Cx} {o e value : Expr} {f : Str} {pos pos' tpos : Pos} {ta tv : TE}
end
section
variable {X : Cx} {pins : List (Addr × Obj)} {σ : St} {H : Hp} {s : Shared} {A : Around} {E : Value → Shared → Prop} {Q : Value → Shared → Prop} {c : Value} {b : Bool}
inductive TyOf (K : PySem.W.Frag) (H : Hp) : V → Value → Prop where
  | non : TyOf K H .non (.type "NoneType")
  | bl (x : Bool) : TyOf K H (.bl x) (.type "bool")
  | int (i : Int) : TyOf K H (.int i) (.type "int")
  | str (x : Str) : TyOf K H (.str x) (.type "str")
  | flt (x : UInt64) : TyOf K H (.flt x) (.type "float")
  | lst {a : Addr} {xs : List V} (e : H a = some (.lst xs)) : TyOf K H (.ref a) (.type "list")
  | frz {a : Addr} {o : Obj} {xs : List V} (e : H a = some (.frz o (.lst xs))) : TyOf K H (.ref a) (.type "list")
  | tup {a : Addr} {xs : List V} (e : H a = some (.tup xs)) : TyOf K H (.ref a) (.type "tuple")
  | dK {a : Addr} {kvs : List (Key × V)} (e : H a = some (.dK kvs)) : TyOf K H (.ref a) (.type "dict")
  | dT {a : Addr} {kvs : List (List Key × V)} (e : H a = some (.dT kvs)) : TyOf K H (.ref a) (.type "dict")
  | ins {a C dx : Addr} {fs : List (Str × V)} (e : H a = some (.ins C dx fs)) (cl : Cls K C) (ha : PySem.W.findIn K (.ref C) "__class__" = some (some (.builtin "object.__class__")))
      (hn : PySem.W.specialIn K (.builtin "object.__class__") "__get__" = some (some (.builtin "getset_descriptor.__get__"))) (htk : PySem.W.takesIn K (.builtin "object.__class__") = some true)
      (hm : PySem.W.mroIn K C (.type "object") = some true) : TyOf K H (.ref a) (.ref C)
theorem isinst_ok {x : V} {u t : Value} (I : Inv X pins σ H s) (rx : RelV x u) (ty : TyOf X.K H x t) (e : PySem.W.kitOne X.K t c = some b) (h : ∀ tk, Q (.bool b) { s with toks := tk }) :
    wpAny (model X.prog X.w) A (call (.builtin "isinstance") [u, c]) Q E s := by
  cases ty with
  | non => cases (show u = Value.none from rx); exact PySem.W.kia_one PySem.W.kitx_none I.kIn True.intro e (fun z => nomatch z) h
  | bl y => cases (show u = Value.bool y from rx); exact PySem.W.kia_one PySem.W.kitx_bool I.kIn True.intro e (fun z => nomatch z) h
  | int i => obtain ⟨t, q⟩ := (show ∃ t, u = Value.int i t from rx); cases q; exact PySem.W.kia_one PySem.W.kitx_int I.kIn True.intro e (fun z => nomatch z) h
  | str y => obtain ⟨t, q⟩ := (show ∃ t, u = Value.str y t from rx); cases q; exact PySem.W.kia_one PySem.W.kitx_str I.kIn True.intro e (fun z => nomatch z) h
  | flt y => obtain ⟨t, q⟩ := (show ∃ t, u = Value.float y t from rx); cases q; exact PySem.W.kia_one PySem.W.kitx_float I.kIn True.intro e (fun z => nomatch z) h
  | @lst a xs ea =>
    cases (show u = Value.ref a from rx)
    obtain ⟨_, _, n, _, h1⟩ := (show ObjOk X.prog X.w H s.heap a (.lst xs) from I.hok a _ ea)
    exact PySem.W.kia_one PySem.W.kitx_list I.kIn ⟨_, h1, rfl⟩ e (fun z => nomatch z) h
  | @frz a ob xs ea =>
    cases (show u = Value.ref a from rx)
    obtain ⟨_, _, _, n, _, h1⟩ := (show ObjOk X.prog X.w H s.heap a (.frz ob (.lst xs)) from I.hok a _ ea)
    exact PySem.W.kia_one PySem.W.kitx_list I.kIn ⟨_, h1, rfl⟩ e (fun z => nomatch z) h
  | @tup a xs ea =>
    cases (show u = Value.ref a from rx)
    obtain ⟨_, _, _, p⟩ := (show ObjOk X.prog X.w H s.heap a (.tup xs) from I.hok a _ ea)
    obtain ⟨o, h1, h2, _⟩ := p
    exact PySem.W.kia_one PySem.W.kitx_tuple I.kIn ⟨o, h1, h2⟩ e (fun z => nomatch z) h
  | @dK a kvs ea =>
    cases (show u = Value.ref a from rx)
    obtain ⟨_, _, vs, _, p⟩ := (show ObjOk X.prog X.w H s.heap a (.dK kvs) from I.hok a _ ea)
    obtain ⟨o, es, ep, h1, h2, _⟩ := p
    exact PySem.W.kia_one PySem.W.kitx_dict I.kIn ⟨o, h1, h2.1⟩ e (fun z => nomatch z) h
  | @dT a kvs ea =>
    cases (show u = Value.ref a from rx)
    obtain ⟨_, _, xs, _, o, es, ep, h1, h2, _⟩ := (show ObjOk X.prog X.w H s.heap a (.dT kvs) from I.hok a _ ea)
    exact PySem.W.kia_one PySem.W.kitx_dict I.kIn ⟨o, h1, h2.1⟩ e (fun z => nomatch z) h
  | @ins a C dx fs ea cl ha hn htk hm =>
    cases (show u = Value.ref a from rx)
    obtain ⟨mA, O, _⟩ := ins_get I.hok ea
    obtain ⟨od, J, _⟩ := O.look
    exact PySem.W.kia_one (PySem.W.kitx_own (cl.get _) cl.hd ha hn htk hm) I.kIn J e (fun z => nomatch z) h
end
end L2
namespace L2
open PySem PySem.Spec PyProof.Rows
structure Room (k : Nat) (A : Around) : Prop where
  hd : A.handled = none
  dp : A.depth + 3 * k + 5 < recursionLimit
  un : A.units + 16 * k + 200 < cLine
  gd : A.guards = some []
theorem Room.mono {j k : Nat} {A : Around} (r : Room k A) (h : j ≤ k) : Room j A := ⟨r.hd, by have := r.dp; omega, by have := r.un; omega, r.gd⟩
theorem Room.deeper {k : Nat} {A : Around} (r : Room (k + 1) A) (env : Env) : Room k (A.deeper env) :=
  ⟨r.hd, by have := r.dp; show A.depth + 1 + 3 * k + 5 < _; omega, by have := r.un; show A.units + 3 + 16 * k + 200 < _; omega, r.gd⟩
theorem Room.in1 {k : Nat} {A : Around} (r : Room (k + 1) A) : Room k A.in1 :=
  ⟨r.hd, by have := r.dp; show A.depth + 3 * k + 5 < _; omega, by have := r.un; show A.units + 1 + 16 * k + 200 < _; omega, r.gd⟩
theorem Room.depth {k : Nat} {A : Around} (r : Room k A) : A.depth < recursionLimit := by have := r.dp; omega
theorem Room.units {k : Nat} {A : Around} (r : Room k A) : A.units + 64 < cLine := by have := r.un; omega
def tNil : TA := fun _ H Q => Q [] H
def tCons (ta : TE) (tr : TA) : TA := fun σ H Q => ta σ H fun x H1 => tr σ H1 fun xs H2 => Q (x :: xs) H2
section
variable {X : Cx} {e : Expr} {es : List Expr} {te : TE} {t : TA} {pos : Pos}
theorem pa_nil : PA X [] tNil := fun _ _ _ _ H Q I h => Calls.spliced_nil ⟨[], H, I, .nil, h⟩
theorem pa_cons (ha : PE X e te) (hr : PA X es t) (hs : starEach (e :: es) X.env = (false, eval e X.env) :: starEach es X.env := by rfl) : PA X (e :: es) (tCons te t) := by
  intro pos pins s σ H Q I h
  rw [hs]
  show wpAny _ _ (spliced ((false, eval e X.env) :: backTo pos (starEach es X.env))) _ _ s
  refine Calls.spliced_cons (thn (ha pins s σ H _ I h) fun u s1 ⟨x, H1, I1, r1, q1⟩ => ?_)
  exact thn (hr pos pins s1 σ H1 _ I1 q1) fun us s2 ⟨xs, H2, I2, r2, q2⟩ => ⟨x :: xs, H2, I2, .cons r1 r2, q2⟩
def tTup (t : TA) : TE := fun σ H Q => t σ H fun xs H1 => xs.length ≤ sizeLine ∧ ∀ p, H1 p = none → Q (.ref p) (upd H1 p (.tup xs))
def tLst (t : TA) : TE := fun σ H Q => t σ H fun xs H1 => xs.length ≤ sizeLine ∧ ∀ p, H1 p = none → Q (.ref p) (upd H1 p (.lst xs))
theorem pe_tup {x1} (h : PA X es t) : PE X (.Tuple es x1 pos) (tTup t) := by
  intro pins s σ H Q I hq
  refine wpAny_Tuple_spliced (thn (h pos pins s σ H _ I hq) fun us s1 ⟨xs, H1, I1, r, z, q⟩ => ⟨by rw [← r.length]; exact z, ?_⟩)
  have hf : H1 s1.heap.objs.size = none := I1.hok.fresh (Nat.le_refl _)
  refine ⟨.ref s1.heap.objs.size, upd H1 s1.heap.objs.size (.tup xs), I1.laid (t' := s1.toks) (fun b u e => Heap.get?_push_of_some _ e) (Nat.le_refl _) ?_, rfl, q _ hf⟩
  exact ⟨z, us, r, ⟨_, Heap.get?_push_size _ rfl, rfl, _, rfl⟩⟩
theorem pe_lst (h : PA X es t) : PE X (.List es pos) (tLst t) := by
  intro pins s σ H Q I hq
  refine wpAny_List_spliced (thn (h pos pins s σ H _ I hq) fun us s1 ⟨xs, H1, I1, r, z, q⟩ => ⟨by rw [← r.length]; exact z, ?_⟩)
  have hf : H1 s1.heap.objs.size = none := I1.hok.fresh (Nat.le_refl _)
  refine ⟨.ref s1.heap.objs.size, upd H1 s1.heap.objs.size (.lst xs), I1.laid (t' := s1.toks) (fun b u e => Heap.get?_push_of_some _ e) (Nat.le_refl _) ?_, rfl, q _ hf⟩
  exact ⟨z, us, 0, r, Heap.get?_push_size _ rfl⟩
end
abbrev Sp := List V → Hp → VK → XK → Prop
abbrev CXT := List Env → Hp → Shared → XK → Value → Shared → Prop
structure Env0 (P : Program) (w : World) (K : PySem.W.Frag) (mg : Str → Option Value) (base : Heap) (A : Around) (outer : List Env) (s : Shared) (H : Hp) : Prop where
  frames : A.frames = some outer
  mod : Mod K mg base
  bs : ∀ b o, base.get? b = some o → s.heap.get? b = some o ∧ H b = none
  bsz : base.objs.size ≤ s.heap.objs.size
  funs : s.heap.FunFrames base outer
  frf : ∀ b ∈ frs outer, H b = none
  hok : HOk P w H s.heap
  bare : AllBare s.gens
def CE (outer : List Env) (P : Program) (w : World) (H : Hp) (s : Shared) (Q : VK) (u : Value) (s' : Shared) : Prop :=
  ∃ v H', s'.os = s.os ∧ AllBare s'.gens ∧ Un (frs outer) [] H H' s.heap s'.heap ∧ HOk P w H' s'.heap ∧ RelV v u ∧ Q v H'
def CR (CX : CXT) (outer : List Env) (P : Program) (w : World) (H : Hp) (s : Shared) (Q : VK) (E : XK) (r : Result) (s' : Shared) : Prop :=
  match r with
  | .ok (.ret u) => CE outer P w H s Q u s'
  | .ok _ => False
  | .error e => CX outer H s E e s'
structure FnOk (P : Program) (w : World) (K : PySem.W.Frag) (mg : Str → Option Value) (base : Heap) (CX : CXT) (k : Nat) (f : Addr) (fd : FuncData) (ps : List Str) (sp : Sp) : Prop where
  len : ∀ vs H Q E, sp vs H Q E → vs.length = ps.length
  run : ∀ (A : Around) (outer : List Env) (s : Shared) (H : Hp) (args : Args) (us : List Value) (vs : List V) (Q : VK) (E : XK), Room k A → Env0 P w K mg base A outer s H → BindsTo s fd args (ps.zip us) → Vals vs us → sp vs H Q E →
    codeAny (model P w) A (.call (.ref f) args) (CR CX outer P w H s Q E) s
theorem FnOk.mono {P : Program} {w : World} {K : PySem.W.Frag} {mg : Str → Option Value} {base : Heap} {CX : CXT} {j k : Nat} {f : Addr} {fd : FuncData} {ps : List Str} {sp : Sp} (F : FnOk P w K mg base CX j f fd ps sp) (h : j ≤ k) :
    FnOk P w K mg base CX k f fd ps sp := ⟨F.len, fun A outer s H args us vs Q E hr => F.run A outer s H args us vs Q E (hr.mono h)⟩
theorem Env0.in1 {P : Program} {w : World} {K : PySem.W.Frag} {mg : Str → Option Value} {base : Heap} {A : Around} {outer : List Env} {s : Shared} {H : Hp} (e : Env0 P w K mg base A outer s H) :
    Env0 P w K mg base A.in1 outer s H := ⟨e.frames, e.mod, e.bs, e.bsz, e.funs, e.frf, e.hok, e.bare⟩
section
variable {X : Cx} {pins : List (Addr × Obj)} {σ : St} {H : Hp} {s s' : Shared}
theorem Inv.env0 (I : Inv X pins σ H s) : Env0 X.prog X.w X.K X.mg X.base X.A X.stack s H :=
  ⟨I.ok.frames, I.ok.mod, I.bs, Nat.le_trans I.ok.bsz I.sz, I.stack, I.stkFree, I.hok, I.bare⟩
theorem Inv.after {Q : VK} {u : Value} (I : Inv X pins σ H s) (h : CE X.stack X.prog X.w H s Q u s') : EP X pins σ Q u s' := by
  obtain ⟨v, H', os, bare, un, hok, r, q⟩ := h
  obtain ⟨hh, g, d, t, os'⟩ := s'
  obtain rfl : os' = s.os := os
  exact ⟨v, H', I.call (h' := hh) (g' := g) (d' := d) (t' := t) (ch := []) un hok bare (fun b z => absurd z (by simp)), r, q⟩
end
def tCall (sp : Sp) (dvs : List V) (E : XK) (t : TA) : TE := fun σ H Q => t σ H fun vs H1 => sp (vs ++ dvs) H1 Q E
def Binds (K : PySem.W.Frag) (fd : FuncData) (ps : List Str) (ds : List Value) : Prop :=
  ∀ (s : Shared) (us : List Value), K.In s.heap → (us ++ ds).length = ps.length → BindsTo s fd ⟨us, []⟩ (ps.zip (us ++ ds))
theorem Binds.all {K : PySem.W.Frag} {fd : FuncData} {ps : List Str} (h : ∀ us : List Value, us.length = ps.length → bindArgs fd ⟨us, []⟩ = pure (ps.zip us)) : Binds K fd ps [] := fun s us _ hl => by
  rw [List.append_nil] at hl ⊢
  exact .of_eq (h us hl)
def Passes (CX : CXT) (X : Cx) (E : XK) : Prop := ∀ (pins : List (Addr × Obj)) (σ : St) (H : Hp) (s : Shared) (e : Value) (s' : Shared), Inv X pins σ H s → CX X.stack H s E e s' → X.xe e s'
section
variable {X : Cx} {CX : CXT} {k : Nat} {f C : Addr} {fd : FuncData} {ps : List Str} {sp : Sp} {dvs : List V} {ds : List Value} {E : XK} {x m : Str} {p pos apos : Pos} {e o : Expr} {es : List Expr} {ta : TE} {t : TA}
theorem run_fn {pins : List (Addr × Obj)} {σ : St} {H : Hp} {s : Shared} {Q : VK} {us : List Value} {vs : List V} (F : FnOk X.prog X.w X.K X.mg X.base CX k f fd ps sp) (hr : Room k X.A) (hb : Binds X.K fd ps ds) (hd : Vals dvs ds) (hx : Passes CX X E)
    (I : Inv X pins σ H s) (r : Vals vs us) (h : sp (vs ++ dvs) H Q E) : wpAny (model X.prog X.w) X.A (call (.ref f) us) (EP X pins σ Q) X.xe s := by
  have r2 : Vals (vs ++ dvs) (us ++ ds) := r.append hd
  have hl : (us ++ ds).length = ps.length := by rw [← r2.length]; exact F.len _ _ _ _ h
  refine wpAny_call (codeAny_mono (F.run X.A X.stack s H ⟨us, []⟩ (us ++ ds) (vs ++ dvs) Q E hr I.env0 (hb s us I.kIn hl) r2 h) fun r s' hq => ?_)
  cases r with
  | error e => exact hx pins σ H s e s' I hq
  | ok fl =>
    cases fl with
    | ret u => exact I.after hq
    | next => exact False.elim hq
    | brk => exact False.elim hq
    | cont => exact False.elim hq
theorem pe_call (F : FnOk X.prog X.w X.K X.mg X.base CX k f fd ps sp) (hr : Room k X.A) (hg : Gl X x) (hm : X.mg x = some (.ref f)) (hk : PySem.W.keepIn X.K (.ref f) = true) (hb : Binds X.K fd ps ds) (hd : Vals dvs ds) (hx : Passes CX X E)
    (ha : PA X (e :: es) t) (hdb : (x == ("__debug__" : Str)) = false := by decide) (he : starEach (e :: es) X.env = (false, eval e X.env) :: starEach es X.env := by rfl) (hpl : (backTo pos (starEach es X.env)).any (·.1) = false := by rfl) :
    PE X (.Call (.Name x p) (e :: es) [] pos) (tCall sp dvs E t) := by
  intro pins s σ H Q I h
  refine wpAny_Call_Name_kw (ld_glob I hg hm ?_ hdb)
  refine PySem.W.callWith_K (h₀ := X.base) I.ok.mod.kin hk (thn (ha pos pins s σ H _ I h) fun us s1 ⟨vs, H1, I1, r, q⟩ => ⟨I1.kIn, ?_⟩) he hpl
  exact run_fn F hr hb hd hx I1 r q
end
section
variable {X : Cx} {CX : CXT} {k : Nat} {f C : Addr} {fd : FuncData} {ps ks : List Str} {sp : Sp} {E : XK} {x m : Str} {p pos apos kpos : Pos} {e o : Expr} {es : List Expr} {kws : List Keyword} {te ta : TE} {t tk : TA} {nm : Option Str}
variable {g : List Value → List Value → List Value} {gV : List V → List V → List V}
end
structure FnScope (N P : List Str) (sc : Scope) : Prop where
  kind : sc.kind = .function
  co : sc.isCoroutine = false
  gen : sc.isGenerator = false
  nd : N.Nodup
  pre : N.take P.length = P
  par : ∀ x ∈ P, sc.names.lookup x = some .local ∨ sc.names.lookup x = some .cell
  nofree : ∀ y ∈ sc.names, y.2 ≠ .free
theorem bindL_out {kindOf : Str → Option NameKind} {x : Str} : ∀ {binds : List (Str × Value)} {m : Str → Option Value}, (∀ v, (x, v) ∉ binds) → bindL kindOf binds m x = m x
  | [], _, _ => rfl
  | (n, v) :: r, m, h => by
    unfold bindL
    rw [bindL_out fun w hw => h w (List.mem_cons_of_mem _ hw)]
    split
    · have : x ≠ n := by rintro rfl; exact h v List.mem_cons_self
      simp [this]
    · rfl
theorem bindC_out {kindOf : Str → Option NameKind} {x : Str} : ∀ {binds : List (Str × Value)} {m : Str → Option Value}, (∀ v, (x, v) ∉ binds) → bindC kindOf binds m x = m x
  | [], _, _ => rfl
  | (n, v) :: r, m, h => by
    unfold bindC
    rw [bindC_out fun w hw => h w (List.mem_cons_of_mem _ hw)]
    split
    · rfl
    · have : x ≠ n := by rintro rfl; exact h v List.mem_cons_self
      simp [this]
theorem bindL_get {kindOf : Str → Option NameKind} {x : Str} {v : Value} : ∀ {P : List Str} {vs : List Value} {i : Nat} {m : Str → Option Value}, P.Nodup → P[i]? = some x → vs[i]? = some v → kindOf x = some .local →
    bindL kindOf (P.zip vs) m x = some v
  | [], _, _, _, _, h, _, _ => by simp at h
  | _ :: _, [], _, _, _, _, h, _ => by simp at h
  | p :: P, w :: vs, 0, m, nd, h1, h2, hk => by
    simp at h1 h2; subst h1; subst h2
    show bindL kindOf ((p, w) :: P.zip vs) m p = _
    unfold bindL
    rw [bindL_out fun v hv => (List.nodup_cons.mp nd).1 (List.of_mem_zip hv).1, if_pos hk]
    simp
  | p :: P, w :: vs, i + 1, m, nd, h1, h2, hk => by
    show bindL kindOf ((p, w) :: P.zip vs) m x = _
    unfold bindL
    exact bindL_get (i := i) (List.nodup_cons.mp nd).2 (by simpa using h1) (by simpa using h2) hk
theorem bindC_get {kindOf : Str → Option NameKind} {x : Str} {v : Value} : ∀ {P : List Str} {vs : List Value} {i : Nat} {m : Str → Option Value}, P.Nodup → P[i]? = some x → vs[i]? = some v → kindOf x ≠ some .local →
    bindC kindOf (P.zip vs) m x = some v
  | [], _, _, _, _, h, _, _ => by simp at h
  | _ :: _, [], _, _, _, _, h, _ => by simp at h
  | p :: P, w :: vs, 0, m, nd, h1, h2, hk => by
    simp at h1 h2; subst h1; subst h2
    show bindC kindOf ((p, w) :: P.zip vs) m p = _
    unfold bindC
    rw [bindC_out fun v hv => (List.nodup_cons.mp nd).1 (List.of_mem_zip hv).1, if_neg hk]
    simp
  | p :: P, w :: vs, i + 1, m, nd, h1, h2, hk => by
    show bindC kindOf ((p, w) :: P.zip vs) m x = _
    unfold bindC
    exact bindC_get (i := i) (List.nodup_cons.mp nd).2 (by simpa using h1) (by simpa using h2) hk
def start (N : List Str) (vs : List V) : St := vs.map some ++ List.replicate (N.length - vs.length) none
def cxOf (CX : CXT) (P : Program) (w : World) (K : PySem.W.Frag) (mg : Str → Option Value) (base : Heap) (N : List Str) (qual : Str) (scope : Scope) (f : Addr) (cd : Value) (A : Around) (outer : List Env) (s : Shared) (H : Hp) (E : XK) : Cx where
  prog := P
  w := w
  K := K
  mg := mg
  base := base
  A := A.deeper (envOfC qual scope s.heap.objs.size f cd)
  N := N
  s₀ := s
  H₀ := H
  env := envOfC qual scope s.heap.objs.size f cd
  outer := outer
  stack := envOfC qual scope s.heap.objs.size f cd :: outer
  ex := []
  calm := true
  fn := fun _ => true
  pn := []
  xe := fun e s' => wpAny (model P w) (A.deeper (envOfC qual scope s.heap.objs.size f cd)) (leaving (envOfC qual scope s.heap.objs.size f cd) e) (fun _ s'' => CX outer H s E e s'') (fun e' s'' => CX outer H s E e' s'') s'
theorem cell_has {sc : Scope} {n : Nat} {x : Str} (h : sc.names.lookup x = some .cell) : ∃ c, (cellsFrom n sc.names []).lookup x = some c := by
  have q := PySem.W.cellsFrom_some sc.names n [] (.inl h)
  exact Option.isSome_iff_exists.mp q
theorem inv_start {CX : CXT} {P : Program} {w : World} {K : PySem.W.Frag} {mg : Str → Option Value} {base : Heap} {N ps : List Str} {qual : Str} {scope : Scope} {f : Addr} {cd : Value} {A : Around} {outer : List Env} {s s1 : Shared} {H : Hp} {E : XK} {us : List Value} {vs : List V}
    (S : FnScope N ps scope) (hd : A.handled = none) (e0 : Env0 P w K mg base A outer s H) (hl : vs.length = ps.length) (r : Vals vs us)
    (x : InCallC s s.heap.objs.size (bindL (envOfC qual scope s.heap.objs.size f cd).kindOf (ps.zip us) fun _ => none) (cellsFrom (s.heap.objs.size + 1) scope.names []) (bindC (envOfC qual scope s.heap.objs.size f cd).kindOf (ps.zip us) fun _ => none) s1) :
    Inv (cxOf CX P w K mg base N qual scope f cd A outer s H E) [] (start N vs) H s1 := by
  have hpl : ps.length ≤ N.length := by have := congrArg List.length S.pre; rw [List.length_take] at this; omega
  obtain ⟨h1, tk, rfl, hk⟩ := x.done
  have noA : ∀ b : Addr, b ∉ (cxOf CX P w K mg base N qual scope f cd A outer s H E).ex := fun b z => absurd (show b ∈ ([] : List Addr) from z) (by simp)
  refine ⟨⟨e0.mod, S.kind, rfl, rfl, Nat.le_refl _, fun y z c h1 h2 => ?_, fun y hy => ?_, fun y c _ h => ?_, fun _ => hd, Around.frames_deeper e0.frames, .inr ⟨rfl, rfl⟩, fun b z => absurd z (noA b), e0.bs, e0.bsz, fun b _ _ => noA b, fun b z => absurd z (noA b), e0.funs, e0.frf⟩,
    rfl, e0.bare, Un.kept hk, ⟨_, x.toInCall.ns, fun i y v h1 h2 h3 => ?_⟩, fun y c h => ⟨_, x.cell y c h⟩, e0.hok.fresh (Nat.le_refl _), fun y c h => ?_, fun p hp => absurd (show p ∈ ([] : List (Addr × Obj)) from hp) (by simp), e0.hok.kept hk, ?_⟩
  · exact name_of_addr x.apart (PySem.mem_of_lookup h1) (PySem.mem_of_lookup h2)
  · have hy : scope.names.lookup y = some .cell ∨ scope.names.lookup y = some .free := hy
    rcases hy with hy | hy
    · exact cell_has hy
    · exact absurd rfl (S.nofree _ (PySem.mem_of_lookup hy))
  · exact Nat.le_of_lt (x.above y c (PySem.mem_of_lookup h))
  · have hi : i < vs.length := by
      unfold start at h2
      by_cases hi : i < vs.length
      · exact hi
      · rw [List.getElem?_append_right (by simpa using hi)] at h2
        rw [List.getElem?_replicate] at h2
        split at h2 <;> cases h2
    have ha : vs[i]? = some v := by
      unfold start at h2
      rw [List.getElem?_append_left (by simpa using hi), List.getElem?_map] at h2
      cases e : vs[i]? with
      | none => rw [e] at h2; cases h2
      | some a => rw [e] at h2; cases h2; rfl
    obtain ⟨u, hu, rv⟩ := r.get ha
    have hp : ps[i]? = some y := by
      rw [← S.pre, List.getElem?_take_of_lt (by omega)]; exact h1
    have ndP : ps.Nodup := by rw [← S.pre]; exact S.nd.sublist (List.take_sublist _ _)
    refine ⟨u, rv, ?_⟩
    rcases S.par y (List.mem_of_getElem? hp) with k | k
    · exact .inl ⟨k, bindL_get ndP hp hu k⟩
    · obtain ⟨c, e⟩ := cell_has (n := s.heap.objs.size + 1) k
      refine .inr ⟨.inl k, c, e, ?_⟩
      have q := x.cell y c e
      rw [bindC_get ndP hp hu (by show scope.names.lookup y ≠ _; rw [k]; decide)] at q
      exact q
  · exact e0.hok.fresh (Nat.le_of_lt (x.above y c (PySem.mem_of_lookup h)))
  · unfold start
    show _ = N.length
    rw [List.length_append, List.length_map, List.length_replicate]
    omega
theorem fn_of {CX : CXT} {P : Program} {w : World} {K : PySem.W.Frag} {mg : Str → Option Value} {base : Heap} {k : Nat} {f : Addr} {name qual : Str} {params : Arguments} {body : List Stmt} {scope : Scope} {dV kV doc pm cdv ct oc : Value} {an od : Option Addr}
    {osl : Array (Option Value)} {N ps : List Str} {sp : Sp} (lk : K.lookup f = some ⟨oc, od, .func (PySem.W.fnOf name qual params body scope dV kV doc pm an cdv ct), osl⟩) (hcd : PySem.W.codeIn K cdv qual = true) (S : FnScope N ps scope)
    (len : ∀ vs H Q E, sp vs H Q E → vs.length = ps.length)
    (hbody : ∀ (A : Around) (outer : List Env) (s : Shared) (H : Hp) (vs : List V) (Q : VK) (E : XK), Room k (A.deeper (envOfC qual scope s.heap.objs.size f cdv)) → sp vs H Q E →
      ∃ t, PSs (cxOf CX P w K mg base N qual scope f cdv A outer s H E) body t ∧ t { nx := fun _ H' => Q .non H', rt := Q } (start N vs) H) :
    FnOk P w K mg base CX (k + 1) f (PySem.W.fnOf name qual params body scope dV kV doc pm an cdv ct) ps sp := by
  refine ⟨len, fun A outer s H args us vs Q E hr e0 hb r hsp => ?_⟩
  have hl := len _ _ _ _ hsp
  have KX : K.In s.heap := e0.mod.kin.keeps fun b o e => (e0.bs b o e).1
  have lim : s.heap.NoLimit := e0.mod.nolimit.keeps fun b o e => (e0.bs b o e).1
  have hkind : ∀ y ∈ ps.zip us, scope.names.lookup y.1 = some .local ∨ (scope.names.lookup y.1 = some .cell ∧ ((cellsFrom (s.heap.objs.size + 1) scope.names []).lookup y.1).isSome = true) := fun ⟨n, v⟩ hy => by
    rcases S.par n (List.of_mem_zip hy).1 with q | q
    · exact .inl q
    · exact .inr ⟨q, PySem.W.cellsFrom_some _ _ _ (.inl q)⟩
  refine codeAny_call_function hr.depth (KX _ _ lk) rfl S.co S.gen rfl (PySem.W.codeRec_of KX hcd) (hb _ _ _ _ ?_)
  refine wpAny_newFunctionEnv_cells S.kind hkind fun env he s1 x => ?_
  subst he
  refine ⟨lim.keeps x.toInCall.keep, codeAny_func ?_⟩
  obtain ⟨t, ht, hq⟩ := hbody A outer s H vs Q E (hr.deeper _) hsp
  have I : Inv (cxOf CX P w K mg base N qual scope f cdv A outer s H E) [] (start N vs) H s1 := inv_start S hr.hd e0 hl r x
  refine wpAny_mono (ht [] s1 (start N vs) H _ I hq) (fun fl s' hs => ?_) fun e s' hs => hs
  have fin : ∀ {σ' : St} {H' : Hp} {v : V} {u : Value}, Inv (cxOf CX P w K mg base N qual scope f cdv A outer s H E) [] σ' H' s' → RelV v u → Q v H' → CE outer P w H s Q u s' :=
    fun {σ' H' v u} J rv q => ⟨v, H', J.os, J.bare, J.base, J.hok, rv, q⟩
  cases fl with
  | ret u =>
    obtain ⟨v, σ', H', J, rv, q⟩ := hs
    exact fin J rv q
  | next =>
    obtain ⟨σ', H', J, q⟩ := hs
    exact fin (v := V.non) (u := Value.none) J rfl q
  | brk =>
    obtain ⟨_, _, _, q⟩ := hs
    exact False.elim q
  | cont =>
    obtain ⟨_, _, _, q⟩ := hs
    exact False.elim q
end L2
namespace L2
open PySem PySem.Spec PyProof.Rows
section
variable {X : Cx} {x : Str} {p pos : Pos} {e : Expr} {es : List Expr} {t : TA} {id T : String} {r : List V → Hp → VK → Prop}
def tCB (r : List V → Hp → VK → Prop) (t : TA) : TE := fun σ H Q => t σ H fun vs H1 => r vs H1 Q
theorem pe_callB (hc : CallR X (.builtin id) r) (hg : Gl X x) (hm : X.mg x = none) (hv : bootBuiltins x = some (.builtin id)) (ha : PA X (e :: es) t) (hn : x ≠ "__name__" := by decide) (hdb : (x == ("__debug__" : Str)) = false := by decide)
    (he : starEach (e :: es) X.env = (false, eval e X.env) :: starEach es X.env := by rfl) (hpl : (backTo pos (starEach es X.env)).any (·.1) = false := by rfl) : PE X (.Call (.Name x p) (e :: es) [] pos) (tCB r t) := by
  intro pins s σ H Q I h
  refine wpAny_Call_Name_kw (ld_blt I hg hm hv ?_ hn hdb)
  exact PyProof.Rows.callWith_builtin1 (thn (ha pos pins s σ H _ I h) fun us s1 ⟨vs, H1, I1, r1, q1⟩ => hc pins s1 σ H1 vs us Q I1 r1 q1) he hpl
theorem pe_callTy (hc : CallR X (.type T) r) (hg : Gl X x) (hm : X.mg x = none) (hv : bootBuiltins x = some (.type T)) (ha : PA X (e :: es) t) (hn : x ≠ "__name__" := by decide) (hdb : (x == ("__debug__" : Str)) = false := by decide)
    (he : starEach (e :: es) X.env = (false, eval e X.env) :: starEach es X.env := by rfl) (hpl : (backTo pos (starEach es X.env)).any (·.1) = false := by rfl) : PE X (.Call (.Name x p) (e :: es) [] pos) (tCB r t) := by
  intro pins s σ H Q I h
  refine wpAny_Call_Name_kw (ld_blt I hg hm hv ?_ hn hdb)
  exact PyProof.Rows.callWith_type1 (thn (ha pos pins s σ H _ I h) fun us s1 ⟨vs, H1, I1, r1, q1⟩ => hc pins s1 σ H1 vs us Q I1 r1 q1) he hpl
end
end L2
namespace HT
open PySem PyProof.Rows
section
open PySem.SeqAt
open PySem.AutoSeq1 (wpAny_loadPart')
open PySem.MeetsSeq PySem.MeetsSeq2 PySem.MeetsSeq3
end
section
variable {prog : Program} {w : World} {A : Around} {E : Value → Shared → Prop} {s : Shared}
theorem cat_tup {t b : Addr} {vs ws : List Value} {Q : Value → Shared → Prop} (ht : IsTup s.heap t vs.toArray) (hb : IsTup s.heap b ws.toArray) (hv : vs ≠ [])
    (h1 : ws = [] → Q (.ref t) s) (h2 : ws ≠ [] → Q (.ref s.heap.objs.size) { s with heap := s.heap.push { cls := .type "tuple", data := .seq (vs ++ ws).toArray } })
    (hsz : vs.length + ws.length ≤ sizeLine) : wpAny (model prog w) A (binaryOp .Add (.ref t) (.ref b)) Q E s := by
  obtain ⟨⟨cls, dd, data, sl⟩, ho, hc, n, hd⟩ := id ht
  obtain ⟨⟨cls2, dd2, data2, sl2⟩, ho2, hc2, n2, hd2⟩ := id hb
  simp only at hc hd hc2 hd2
  subst hc hd hc2 hd2
  have e : vs.toArray ++ ws.toArray = (vs ++ ws).toArray := by simp
  by_cases hw : ws = []
  · exact concat_meets ⟨_, ho, rfl⟩ ⟨_, ho2, rfl⟩ noFill_tuple_add seq_tuple_add PySem.F.slot_tuple_add PySem.F.entry_tuple_add (PySem.F.args_tuple_add_2 _ _)
      (tuple_addW1 t b vs.toArray ws.toArray n n2 dd dd2 sl sl2 (by simpa using hv) (by simp [hw])) ⟨ho, ho2, h1 hw⟩
  · refine concat_meets ⟨_, ho, rfl⟩ ⟨_, ho2, rfl⟩ noFill_tuple_add seq_tuple_add PySem.F.slot_tuple_add PySem.F.entry_tuple_add (PySem.F.args_tuple_add_2 _ _)
      (tuple_addW2 t b vs.toArray ws.toArray n n2 dd dd2 sl sl2 (by simpa using hv) (by simpa using hw) (by rw [List.size_toArray, List.size_toArray]; exact hsz)) ⟨ho, ho2, ?_⟩
    rw [e]
    exact h2 hw
def sIx (n d : Nat) : Option Int → Nat
  | none => d
  | some v => if v < 0 then (v + (n : Int)).toNat else min v.toNat n
theorem sIx_nat (n d k : Nat) : sIx n d (some (k : Int)) = min k n := by
  show (if (k : Int) < 0 then ((k : Int) + (n : Int)).toNat else min (k : Int).toNat n) = min k n
  rw [if_neg (by omega), Int.toNat_natCast]
end
end HT
namespace L2
open PySem PySem.Spec PyProof.Rows
abbrev TO := St → Hp → (Option Int → Hp → Prop) → Prop
def PO (X : Cx) (e : Option Expr) (t : TO) : Prop :=
  ∀ (pins : List (Addr × Obj)) (s : Shared) (σ : St) (H : Hp) (Q : Option Int → Hp → Prop), Inv X pins σ H s → t σ H Q →
    wpAny (model X.prog X.w) X.A (evalPart e X.env) (fun u s' => ∃ o H', Inv X pins σ H' s' ∧ IsPart u o ∧ Q o H') X.xe s
def tNoPart : TO := fun _ H Q => Q none H
def tPart (t : TE) : TO := fun σ H Q => t σ H fun x H1 => ∃ i, x = .int i ∧ Q (some i) H1
section
variable {X : Cx} {e : Expr} {te : TE} {lo hi : Option Expr} {tl th : TO} {pos p2 : Pos}
theorem po_none : PO X none tNoPart := by
  intro pins s σ H Q I h
  rw [evalPart_none]
  exact wpAny_pure ⟨none, H, I, .none, h⟩
theorem po_some (h : PE X e te) : PO X (some e) (tPart te) := by
  intro pins s σ H Q I hw
  rw [evalPart_some]
  refine thn (h pins s σ H _ I hw) fun u s1 ⟨x, H1, I1, r1, q1⟩ => ?_
  obtain ⟨i, rfl, q⟩ := q1
  obtain ⟨t, rfl⟩ := r1
  exact ⟨some i, H1, I1, .int i t, q⟩
def SlR (X : Cx) (r : V → Option Int → Option Int → Hp → VK → Prop) : Prop :=
  ∀ (pins : List (Addr × Obj)) (s : Shared) (σ : St) (H : Hp) (x : V) (v vl vu : Value) (lo hi : Option Int) (sl : Addr) (Q : VK), Inv X pins σ H s → RelV x v → s.heap.IsSliceOf sl vl vu .none → IsPart vl lo → IsPart vu hi → r x lo hi H Q →
    ∃ T id, typeLookup (.type T) "__getitem__" = pure (some (.builtin id)) ∧ s.TypeIs v T ∧ wpAny (model X.prog X.w) X.A (getItem v (.ref sl)) (EP X pins σ Q) X.xe s
theorem SlR.or {r r' : V → Option Int → Option Int → Hp → VK → Prop} (h : SlR X r) (h' : SlR X r') : SlR X (fun x lo hi H Q => r x lo hi H Q ∨ r' x lo hi H Q) := by
  intro pins s σ H x v vl vu lo hi sl Q I rx hs pl pu q
  rcases q with q | q
  · exact h pins s σ H x v vl vu lo hi sl Q I rx hs pl pu q
  · exact h' pins s σ H x v vl vu lo hi sl Q I rx hs pl pu q
def tSl (r : V → Option Int → Option Int → Hp → VK → Prop) (te : TE) (tl th : TO) : TE := fun σ H Q => te σ H fun x H1 => tl σ H1 fun l H2 => th σ H2 fun u H3 => r x l u H3 Q
theorem pe_slice {r : V → Option Int → Option Int → Hp → VK → Prop} (hr : SlR X r) (he : PE X e te) (hl : PO X lo tl) (hu : PO X hi th) : PE X (.Subscript e (.Slice lo hi none p2) pos) (tSl r te tl th) := by
  intro pins s σ H Q I h
  refine Subscript_ (thn (he pins s σ H _ I h) fun v s1 ⟨x, H1, I1, r1, q1⟩ => ?_)
  refine wpAny_Slice (thn (hl pins s1 σ H1 _ I1 q1) fun vl s2 ⟨l, H2, I2, pl, q2⟩ => thn (hu pins s2 σ H2 _ I2 q2) fun vu s3 ⟨u, H3, I3, pu, q3⟩ => ?_)
  rw [evalPart_none]
  refine wpAny_pure ?_
  have I4 : Inv X pins σ H3 { s3 with heap := s3.heap.push { cls := .type "slice", data := .fields #[vl, vu, .none] } } := I3.kept (t' := s3.toks) fun b ob q => Heap.get?_push_of_some _ q
  obtain ⟨T, id, hT, ht, hg⟩ := hr pins { s3 with heap := s3.heap.push { cls := .type "slice", data := .fields #[vl, vu, .none] } } σ H3 x v vl vu l u s3.heap.objs.size Q I4 r1 (Heap.IsSliceOf.new ..) pl pu q3
  show wpAny (model X.prog X.w) X.A (subscriptTail e (.Slice lo hi none p2) v (.ref s3.heap.objs.size)) (EP X pins σ Q) X.xe { s3 with heap := s3.heap.push { cls := .type "slice", data := .fields #[vl, vu, .none] } }
  exact tail_any (ops := [.ref s3.heap.objs.size, v]) ht hT hg (by with_unfolding_all rfl)
def cutV (xs : List V) (lo hi : Option Int) : List V := (xs.drop (HT.sIx xs.length 0 lo)).take (HT.sIx xs.length xs.length hi - HT.sIx xs.length 0 lo)
theorem cutV_length (xs : List V) (lo hi : Option Int) : (cutV xs lo hi).length ≤ xs.length := by
  unfold cutV
  rw [List.length_take, List.length_drop]
  omega
def rCatT (K : PySem.W.Frag) : R2 := fun x y H Q => ∃ a b xs ys, x = .ref a ∧ y = .ref b ∧ SqT K H a xs ∧ SqT K H b ys ∧ xs ≠ [] ∧ xs.length + ys.length ≤ sizeLine ∧
  (ys = [] → Q (.ref a) H) ∧ (ys ≠ [] → ∀ p, H p = none → Q (.ref p) (upd H p (.tup (xs ++ ys))))
theorem Vals.nil_iff {xs : List V} {us : List Value} (r : Vals xs us) : us = [] ↔ xs = [] := by
  cases r with
  | nil => simp
  | cons _ _ => simp
theorem op_catT : OpR X (binaryOp .Add) (rCatT X.K) := by
  intro pins s σ H x y v u Q I rx ry h
  obtain ⟨a, b, xs, ys, rfl, rfl, ha, hb, hx, hz, q1, q2⟩ := h
  cases rx
  cases ry
  obtain ⟨its, r1, p1, _⟩ := I.tuple ha
  obtain ⟨its2, r2, p2, _⟩ := I.tuple hb
  refine HT.cat_tup p1 p2 (fun z => hx (r1.nil_iff.mp z)) (fun z => ⟨.ref a, H, I, rfl, q1 (r2.nil_iff.mp z)⟩) (fun z => ?_) (by rw [← r1.length, ← r2.length]; exact hz)
  refine ⟨.ref s.heap.objs.size, _, I.laid (t' := s.toks) (o := .tup (xs ++ ys)) (fun b ob q => Heap.get?_push_of_some _ q) (Nat.le_refl _) ?_, rfl, q2 (fun w => z (r2.nil_iff.mpr w)) _ (I.hok.fresh (Nat.le_refl _))⟩
  exact ⟨by rw [List.length_append]; exact hz, _, r1.append r2, IsTup.new _ _⟩
end
end L2
namespace L2
open PySem PySem.Spec PyProof.Rows
def ixN (n : Nat) (i : Int) : Option Nat := if 0 ≤ i then (if i < n then some i.toNat else none) else if -(n : Int) ≤ i then some (i + n).toNat else none
def atI {α : Type} (xs : List α) (i : Int) : Option α := (ixN xs.length i).bind fun j => xs[j]?
theorem ixN_seq {n : Nat} {i : Int} {j : Nat} (h : ixN n i = some j) : seqIndex? i n = some j ∧ j < n ∧ -(n : Int) ≤ i ∧ i < n := by
  unfold ixN at h
  by_cases h0 : 0 ≤ i
  · rw [if_pos h0] at h
    by_cases h1 : i < n
    · rw [if_pos h1] at h
      have e : i.toNat = j := Option.some.inj h
      exact ⟨by rw [seqIndex_of h0 h1, e], by omega, by omega, h1⟩
    · rw [if_neg h1] at h; cases h
  · rw [if_neg h0] at h
    by_cases h1 : -(n : Int) ≤ i
    · rw [if_pos h1] at h
      have e : (i + n).toNat = j := Option.some.inj h
      exact ⟨by rw [seqIndex_neg (by omega) h1, e], by omega, h1, by omega⟩
    · rw [if_neg h1] at h; cases h
theorem atI_get {α : Type} {xs : List α} {i : Int} {v : α} (h : atI xs i = some v) : ∃ j, seqIndex? i xs.length = some j ∧ xs[j]? = some v ∧ j < xs.length ∧ -(xs.length : Int) ≤ i ∧ i < xs.length := by
  unfold atI at h
  cases e : ixN xs.length i with
  | none => rw [e] at h; cases h
  | some j =>
    rw [e] at h
    obtain ⟨h1, h2, h3, h4⟩ := ixN_seq e
    exact ⟨j, h1, h, h2, h3, h4⟩
theorem atI_nat {α : Type} {xs : List α} {j : Nat} {v : α} (h : xs[j]? = some v) : atI xs (j : Int) = some v := by
  have hj : j < xs.length := (List.getElem?_eq_some_iff.mp h).1
  have e : ixN xs.length (j : Int) = some j := by
    unfold ixN
    rw [if_pos (by omega), if_pos (by omega)]; simp
  unfold atI; rw [e]; exact h
def PlainIx (b : Expr) : Prop := ∀ o i, subscripted b false o i = operate [o, i] (getItem o i)
def IxR (X : Cx) (r : R2) : Prop :=
  ∀ (value slice : Expr) (pins : List (Addr × Obj)) (s : Shared) (σ : St) (H : Hp) (x y : V) (v u : Value) (Q : VK), Inv X pins σ H s → RelV x v → RelV y u → r x y H Q →
    subscripted slice false v u = operate [v, u] (getItem v u) → wpAny (model X.prog X.w) X.A (subscriptTail value slice v u) (EP X pins σ Q) X.xe s
def MtR (X : Cx) (id : String) (r : V → List V → Hp → VK → Prop) : Prop :=
  ∀ (pins : List (Addr × Obj)) (s : Shared) (σ : St) (H : Hp) (x : V) (xs : List V) (v : Value) (us : List Value) (Q : VK), Inv X pins σ H s → RelV x v → Vals xs us → r x xs H Q →
    wpAny (model X.prog X.w) X.A (call (.builtin id) (v :: us)) (EP X pins σ Q) X.xe s
section
variable {X : Cx} {a b : Expr} {ta tb : TE} {pos : Pos}
theorem IxR.or {r r' : R2} (h : IxR X r) (h' : IxR X r') : IxR X (fun x y H Q => r x y H Q ∨ r' x y H Q) := by
  intro value slice pins s σ H x y v u Q I rx ry q hs
  rcases q with q | q
  · exact h value slice pins s σ H x y v u Q I rx ry q hs
  · exact h' value slice pins s σ H x y v u Q I rx ry q hs
theorem MtR.or {id : String} {r r' : V → List V → Hp → VK → Prop} (h : MtR X id r) (h' : MtR X id r') : MtR X id (fun x xs H Q => r x xs H Q ∨ r' x xs H Q) := by
  intro pins s σ H x xs v us Q I rx rs q
  rcases q with q | q
  · exact h pins s σ H x xs v us Q I rx rs q
  · exact h' pins s σ H x xs v us Q I rx rs q
theorem pe_ix {r : R2} (hr : IxR X r) (ha : PE X a ta) (hb : PE X b tb) (hs : PlainIx b) : PE X (.Subscript a b pos) (tOp r ta tb) := by
  intro pins s σ H Q I h
  exact Subscript_ (binT ha hb I h fun v u s2 x y H2 I2 rx ry q => hr a b pins s2 σ H2 x y v u Q I2 rx ry q (hs _ _))
def rIxL (K : PySem.W.Frag) : R2 := fun x y H Q => ∃ p xs i v, x = .ref p ∧ y = .int i ∧ SqL K H p xs ∧ atI xs i = some v ∧ Q v H
def rIxT (K : PySem.W.Frag) : R2 := fun x y H Q => ∃ p xs i v, x = .ref p ∧ y = .int i ∧ SqT K H p xs ∧ atI xs i = some v ∧ Q v H
def rIxS : R2 := fun x y H Q => ∃ z i c, x = .str z ∧ y = .int i ∧ z.length ≤ sizeLine ∧ atI z.cps.toList i = some c ∧ Q (.str ⟨#[c]⟩) H
theorem ix_list : IxR X (rIxL X.K) := by
  intro value slice pins s σ H x y v u Q I rx ry h hs
  obtain ⟨p, xs, i, z, rfl, rfl, hq, he, q⟩ := h
  cases rx
  obtain ⟨t, rfl⟩ := ry
  obtain ⟨its, r, pl, hz⟩ := I.list hq
  obtain ⟨j, h1, h2, h3, h4, h5⟩ := atI_get he
  obtain ⟨w, ew, rw'⟩ := r.get h2
  have hl := r.length
  have hn := line63
  have fin : EP X pins σ Q w s := ⟨z, H, I, rw', q⟩
  by_cases h0 : 0 ≤ i
  · have hj : i.toNat = j := by
      rw [seqIndex_of h0 h5] at h1
      exact Option.some.inj h1
    exact item_listR pl.isList h0 (by omega) (by rw [hj]; simpa using ew) fin hs
  · have hj : (i + (its.toArray.size : Int)).toNat = j := by
      rw [seqIndex_neg (by omega) h4] at h1
      rw [List.size_toArray, ← hl]
      exact Option.some.inj h1
    exact subscriptTail_builtinR (x := w) pl.isList.typeIs slot_list_getitem.lookup
      (wpAny_getItem_list_neg (Q := fun r s' => r = w ∧ EP X pins σ Q r s') pl.isList (by omega) (by rw [List.size_toArray] <;> omega) (by omega) (by rw [hj]; simpa using ew) ⟨rfl, fin⟩) hs
theorem ix_tup : IxR X (rIxT X.K) := by
  intro value slice pins s σ H x y v u Q I rx ry h hs
  obtain ⟨p, xs, i, z, rfl, rfl, hq, he, q⟩ := h
  cases rx
  obtain ⟨t, rfl⟩ := ry
  obtain ⟨its, r, pl, hz⟩ := I.tuple hq
  obtain ⟨j, h1, h2, h3, h4, h5⟩ := atI_get he
  obtain ⟨w, ew, rw'⟩ := r.get h2
  have hl := r.length
  have hn := line63
  have fin : EP X pins σ Q w s := ⟨z, H, I, rw', q⟩
  exact subscriptTail_builtinR (x := w) pl.typeIs slot_tuple_getitem.lookup
    (getItem_tuple (j := j) (Q := fun r s' => r = w ∧ EP X pins σ Q r s') pl (by omega) (by omega) (by rw [List.size_toArray, ← hl]; exact h1) (by simpa using ew) ⟨rfl, fin⟩) hs
theorem ix_str : IxR X rIxS := by
  intro value slice pins s σ H x y v u Q I rx ry h hs
  obtain ⟨z, i, c, rfl, rfl, hz, he, q⟩ := h
  obtain ⟨t, rfl⟩ := rx
  obtain ⟨t', rfl⟩ := ry
  obtain ⟨j, h1, h2, h3, h4, h5⟩ := atI_get he
  have hl : z.cps.toList.length = z.length := by simp [Str.length]
  rw [hl] at h1 h4 h5
  have hn := line63
  exact tail_any (typeIs_str s z t) slot_str_getitem.lookup (getItem_str (c := c) (by
    have e1 : decide (i < -(2 ^ 63 : Int)) = false := decide_eq_false (by omega)
    have e2 : decide (i ≥ 2 ^ 63) = false := decide_eq_false (by omega)
    rw [e1, e2, Bool.or_false]) (by rw [h1]; simpa using h2) ⟨.str ⟨#[c]⟩, H, I.tok _, ⟨_, rfl⟩, q⟩) hs
theorem mapSeq_set (its : List Value) (n j : Nat) (u : Value) : Obj.mapSeq (·.setIfInBounds j u) { cls := .type "list", data := .seq its.toArray n } = { cls := .type "list", data := .seq (its.set j u).toArray n } := by
  simp [Obj.mapSeq]
theorem Inv.lst {pins : List (Addr × Obj)} {σ : St} {H : Hp} {s : Shared} {p : Addr} {xs : List V} (I : Inv X pins σ H s) (h : H p = some (.lst xs)) :
    ∃ (its : List Value) (n : Nat), Vals xs its ∧ s.heap.get? p = some { cls := .type "list", data := .seq its.toArray n } ∧ xs.length ≤ sizeLine := by
  obtain ⟨z, its, n, r, e⟩ := I.hok p _ h
  exact ⟨its, n, r, e, z⟩
theorem Inv.lstUpd {pins : List (Addr × Obj)} {σ : St} {H : Hp} {s : Shared} {p : Addr} {xs ys : List V} {its its' : List Value} {n n' : Nat} {f : Obj → Obj} (I : Inv X pins σ H s) (h : H p = some (.lst xs))
    (ho : s.heap.get? p = some { cls := .type "list", data := .seq its.toArray n }) (hf : f { cls := .type "list", data := .seq its.toArray n } = { cls := .type "list", data := .seq its'.toArray n' }) (r : Vals ys its') (hz : ys.length ≤ sizeLine) (t : Nat) :
    Inv X pins σ (upd H p (.lst ys)) { s with heap := s.heap.update p f, toks := t } := by
  have e : (s.heap.update p f).get? p = some { cls := .type "list", data := .seq its'.toArray n' } := by
    rw [Heap.get?_update_self f ho (by rw [hf] <;> rfl), hf]
  refine I.write (x := p) (e := p) (by rw [h]; trivial) (.inl rfl) (fun b u hb q => (Heap.get?_update_other _ _ (Ne.symm hb)).trans q) ⟨_, e⟩ ?_
  exact ⟨hz, its', n', r, e⟩
def rSetL : V → V → V → Hp → (Hp → Prop) → Prop := fun o i v H Q => ∃ p xs k j, o = .ref p ∧ i = .int k ∧ H p = some (.lst xs) ∧ ixN xs.length k = some j ∧ Q (upd H p (.lst (xs.set j v)))
theorem set_list : PSet X rSetL := by
  intro pins s σ H o i v ov iv u Q I ro ri rv h
  obtain ⟨p, xs, k, j, rfl, rfl, hp, hj, q⟩ := h
  cases ro
  obtain ⟨t, rfl⟩ := ri
  obtain ⟨its, n, r, ho, hz⟩ := I.lst hp
  obtain ⟨h1, h2, h3, h4⟩ := ixN_seq hj
  have hl := r.length
  have hn := line63
  have I' : Inv X pins σ (upd H p (.lst (xs.set j v))) { s with heap := s.heap.update p (Obj.mapSeq (·.setIfInBounds j u)) } :=
    I.lstUpd hp ho (mapSeq_set its n j u) (r.set rv j) (by rw [List.length_set]; exact hz) s.toks
  by_cases h0 : 0 ≤ k
  · have hk : k.toNat = j := by
      rw [seqIndex_of h0 h4] at h1
      exact Option.some.inj h1
    exact PySem.W.ki_setAt ho h0 (by omega) (by rw [List.size_toArray, ← hl]; exact h4) (by rw [hk]; exact ⟨_, I', q⟩)
  · have hk : (k + (its.toArray.size : Int)).toNat = j := by
      rw [seqIndex_neg (by omega) h3] at h1
      rw [List.size_toArray, ← hl]
      exact Option.some.inj h1
    exact PySem.W.ki_setBack ho (by omega) (by rw [List.size_toArray, ← hl]; exact h3) (by omega) (by rw [hk]; exact ⟨_, I', q⟩)
theorem slice_bounds (lo hi : Option Int) (n : Nat) : (sliceBounds lo hi none n).1 = ((HT.sIx n 0 lo : Nat) : Int) ∧ (sliceBounds lo hi none n).2.1 = ((HT.sIx n n hi : Nat) : Int) ∧ (sliceBounds lo hi none n).2.2 = 1 := by
  refine ⟨?_, ?_, rfl⟩
  · cases lo with
    | none => simp [sliceBounds, HT.sIx]
    | some i =>
      simp only [sliceBounds, HT.sIx, Option.getD_none, show (1 : Int) > 0 by decide, if_true]
      by_cases h : i < 0
      · simp only [h, if_true] <;> omega
      · simp only [h, if_false] <;> omega
  · cases hi with
    | none => simp [sliceBounds, HT.sIx]
    | some i =>
      simp only [sliceBounds, HT.sIx, Option.getD_none, show (1 : Int) > 0 by decide, if_true]
      by_cases h : i < 0
      · simp only [h, if_true] <;> omega
      · simp only [h, if_false] <;> omega
theorem slicePick_cut (its : List Value) (lo hi : Option Int) : slicePick its.toArray lo hi none = ((its.drop (HT.sIx its.length 0 lo)).take (HT.sIx its.length its.length hi - HT.sIx its.length 0 lo)).toArray := by
  obtain ⟨h1, h2, h3⟩ := slice_bounds lo hi its.toArray.size
  unfold slicePick
  rw [h1, h2, h3]
  simp only [sliceRange_one, pick_run, List.size_toArray] <;> rfl
def rSlL (K : PySem.W.Frag) : V → Option Int → Option Int → Hp → VK → Prop := fun x lo hi H Q => ∃ a xs, x = .ref a ∧ SqL K H a xs ∧ ∀ p, H p = none → Q (.ref p) (upd H p (.lst (cutV xs lo hi)))
theorem sl_list : SlR X (rSlL X.K) := by
  intro pins s σ H x v vl vu lo hi sl Q I rx hs pl pu h
  obtain ⟨a, xs, rfl, hx, q⟩ := h
  cases rx
  obtain ⟨its, r, ht, hz⟩ := I.list hx
  have hlen := r.length
  refine ⟨"list", _, slot_list_getitem.lookup, ht.isList.typeIs, ?_⟩
  refine wpAny_getItem_list_slice ht.isList hs pl pu .none (by simp) ?_ (by rw [List.size_toArray] <;> omega)
  rw [slicePick_cut, ← hlen]
  refine ⟨.ref s.heap.objs.size, _, I.laid (t' := s.toks) (o := .lst (cutV xs lo hi)) (fun b ob q => Heap.get?_push_of_some _ q) (Nat.le_refl _) ?_, rfl, q _ (I.hok.fresh (Nat.le_refl _))⟩
  exact ⟨Nat.le_trans (cutV_length xs lo hi) hz, _, 0, (r.drop (HT.sIx xs.length 0 lo)).take (HT.sIx xs.length xs.length hi - HT.sIx xs.length 0 lo), Heap.get?_push_size _ rfl⟩
def flatV : V → Bool
  | .non => true
  | .bl _ => true
  | .int _ => true
  | .str _ => true
  | _ => false
def eqV : V → V → Bool
  | .non, .non => true
  | .bl a, .bl b => a == b
  | .bl a, .int b => (if a then 1 else 0) == b
  | .int a, .bl b => a == (if b then 1 else 0)
  | .int a, .int b => a == b
  | .str a, .str b => a == b
  | _, _ => false
theorem eqAt_V {A : Around} {s : Shared} {y x : V} {u v : Value} (ry : RelV y u) (rx : RelV x v) (fy : flatV y = true) (fx : flatV x = true) : SeqAt.EqAt A s u v (eqV y x) := by
  cases y with
  | non =>
    cases ry
    cases x with
    | non => cases rx; exact SeqAt.EqAt.same _
    | bl b => cases rx; exact SeqAt.EqAt.none_bool b
    | int b => obtain ⟨t, rfl⟩ := rx; exact SeqAt.EqAt.none_int b t
    | str b => obtain ⟨t, rfl⟩ := rx; exact SeqAt.EqAt.none_str b t
    | _ => exact absurd (show false = true from fx) Bool.false_ne_true
  | bl a =>
    cases ry
    cases x with
    | non => cases rx; exact SeqAt.EqAt.bool_none a
    | bl b => cases rx; exact SeqAt.EqAt.bool_bool a b
    | int b => obtain ⟨t, rfl⟩ := rx; exact SeqAt.EqAt.bool_int a b t
    | str b => obtain ⟨t, rfl⟩ := rx; exact SeqAt.EqAt.bool_str a b t
    | _ => exact absurd (show false = true from fx) Bool.false_ne_true
  | int a =>
    obtain ⟨t', rfl⟩ := ry
    cases x with
    | non => cases rx; exact SeqAt.EqAt.int_none a t'
    | bl b => cases rx; exact SeqAt.EqAt.int_bool a t' b
    | int b => obtain ⟨t, rfl⟩ := rx; exact SeqAt.EqAt.int_int a t' b t
    | str b => obtain ⟨t, rfl⟩ := rx; exact SeqAt.EqAt.int_str a t' b t
    | _ => exact absurd (show false = true from fx) Bool.false_ne_true
  | str a =>
    obtain ⟨t', rfl⟩ := ry
    cases x with
    | non => cases rx; exact SeqAt.EqAt.str_none a t'
    | bl b => cases rx; exact SeqAt.EqAt.str_bool a t' b
    | int b => obtain ⟨t, rfl⟩ := rx; exact SeqAt.EqAt.str_int a t' b t
    | str b => obtain ⟨t, rfl⟩ := rx; exact SeqAt.EqAt.str_str a t' b t
    | _ => exact absurd (show false = true from fx) Bool.false_ne_true
  | _ => exact absurd (show false = true from fy) Bool.false_ne_true
def eqU (x : V) (u : Value) : Bool := match u with
  | .none => eqV .non x
  | .bool b => eqV (.bl b) x
  | .int i _ => eqV (.int i) x
  | .str z _ => eqV (.str z) x
  | _ => false
theorem eqU_of {x y : V} {u : Value} (r : RelV y u) (f : flatV y = true) : eqU x u = eqV y x := by
  cases y with
  | non => cases r; rfl
  | bl b => cases r; rfl
  | int i => obtain ⟨t, rfl⟩ := r; rfl
  | str z => obtain ⟨t, rfl⟩ := r; rfl
  | _ => exact absurd (show false = true from f) Bool.false_ne_true
theorem any_eqU {x : V} : ∀ {xs : List V} {us : List Value}, Vals xs us → xs.all flatV = true → us.any (eqU x) = xs.any fun y => eqV y x
  | _, _, .nil, _ => rfl
  | y :: xs, u :: us, .cons r t, f => by
    rw [List.all_cons, Bool.and_eq_true] at f
    rw [List.any_cons, List.any_cons, eqU_of r f.1, any_eqU t f.2]
theorem mem_eqAt {A : Around} {s : Shared} {x : V} {v : Value} (rx : RelV x v) (fx : flatV x = true) : ∀ {xs : List V} {us : List Value}, Vals xs us → xs.all flatV = true → ∀ u ∈ us, SeqAt.EqAt A s u v (eqU x u)
  | _, _, .nil, _ => fun u hu => by cases hu
  | y :: xs, u :: us, .cons r t, f => fun u' hu => by
    rw [List.all_cons, Bool.and_eq_true] at f
    rcases List.mem_cons.mp hu with rfl | hu
    · rw [eqU_of r f.1]; exact eqAt_V r rx f.1 fx
    · exact mem_eqAt rx fx t f.2 u' hu
def inV (x : V) (xs : List V) : Bool := xs.any fun y => eqV y x
def rIn (K : PySem.W.Frag) (neg : Bool) : R2 := fun x y H Q => ∃ p xs, y = .ref p ∧ (SqL K H p xs ∨ SqT K H p xs) ∧ flatV x = true ∧ xs.all flatV = true ∧ Q (.bl (if neg then !inV x xs else inV x xs)) H
theorem op_in_seq : OpR X (compareOp .In) (rIn X.K false) := by
  intro pins s σ H x y v u Q I rx ry h
  obtain ⟨p, xs, rfl, hq, fx, fs, q⟩ := h
  cases ry
  rcases hq with hq | hq
  · obtain ⟨its, r, pl, hz⟩ := I.list hq
    refine SeqAt.in_listAt (eqU x) pl.isList (fun w hw => mem_eqAt rx fx r fs w (by simpa using hw)) ⟨.bl _, H, I, rfl, ?_⟩
    rw [show its.toArray.any (eqU x) = its.any (eqU x) by simp, any_eqU r fs]
    exact q
  · obtain ⟨its, r, pl, hz⟩ := I.tuple hq
    refine SeqAt.in_tupleAt (eqU x) pl (fun w hw => mem_eqAt rx fx r fs w (by simpa using hw)) ⟨.bl _, H, I, rfl, ?_⟩
    rw [show its.toArray.any (eqU x) = its.any (eqU x) by simp, any_eqU r fs]
    exact q
theorem op_notIn_seq : OpR X (compareOp .NotIn) (rIn X.K true) := by
  intro pins s σ H x y v u Q I rx ry h
  obtain ⟨p, xs, rfl, hq, fx, fs, q⟩ := h
  cases ry
  rcases hq with hq | hq
  · obtain ⟨its, r, pl, hz⟩ := I.list hq
    refine SeqAt.notIn_listAt (eqU x) pl.isList (fun w hw => mem_eqAt rx fx r fs w (by simpa using hw)) ⟨.bl _, H, I, rfl, ?_⟩
    rw [show its.toArray.any (eqU x) = its.any (eqU x) by simp, any_eqU r fs]
    exact q
  · obtain ⟨its, r, pl, hz⟩ := I.tuple hq
    refine SeqAt.notIn_tupleAt (eqU x) pl (fun w hw => mem_eqAt rx fx r fs w (by simpa using hw)) ⟨.bl _, H, I, rfl, ?_⟩
    rw [show its.toArray.any (eqU x) = its.any (eqU x) by simp, any_eqU r fs]
    exact q
theorem CallR.or {f : Value} {r r' : List V → Hp → VK → Prop} (h : CallR X f r) (h' : CallR X f r') : CallR X f (fun xs H Q => r xs H Q ∨ r' xs H Q) := by
  intro pins s σ H xs us Q I rs q
  rcases q with q | q
  · exact h pins s σ H xs us Q I rs q
  · exact h' pins s σ H xs us Q I rs q
theorem call_tuple_of : CallR X (.type "tuple") (fun xs H Q => ∃ p ys, xs = [.ref p] ∧ ((SqL X.K H p ys ∧ ∀ l, H l = none → Q (.ref l) (upd H l (.tup ys))) ∨ (SqT X.K H p ys ∧ Q (.ref p) H))) := by
  intro pins s σ H xs us Q I r h
  obtain ⟨p, ys, rfl, h⟩ := h
  obtain ⟨u, rfl, rx⟩ := vals1 r
  cases rx
  rcases h with ⟨hq, q⟩ | ⟨hq, q⟩
  · obtain ⟨its, r', pl, hz⟩ := I.list hq
    have hlen := r'.length
    refine call_tuple_list pl.isList (fun h' kp => ?_) (by simp only [List.size_toArray] <;> omega)
    have I1 : Inv X pins σ H { s with heap := h' } := I.kept (t' := s.toks) kp
    have I2 : Inv X pins σ (upd H h'.objs.size (.tup ys)) { s with heap := h'.push { cls := .type "tuple", data := .seq its.toArray } } :=
      I1.laid (t' := s.toks) (fun b o e => Heap.get?_push_of_some _ e) (Nat.le_refl _) (show ObjOk X.prog X.w _ _ _ (.tup ys) from ⟨hz, its, r', IsTup.new _ _⟩)
    exact ⟨.ref h'.objs.size, _, I2, rfl, q _ (I1.hok.fresh (Nat.le_refl _))⟩
  · obtain ⟨its, r', pl, hz⟩ := I.tuple hq
    exact call_tuple_same pl ⟨.ref p, H, I, rfl, q⟩
def tyV (K : PySem.W.Frag) (T : String) (x : V) (H : Hp) : Prop := match x with
  | .str _ => T = "str"
  | .int _ => T = "int"
  | .ref p => (T = "list" ∧ ∃ xs, SqL K H p xs) ∨ (T = "tuple" ∧ ∃ o, K.lookup p = some o ∧ o.cls = .type "tuple" ∧ o.dict = none) ∨
      (T = "dict" ∧ ((∃ kvs, H p = some (.dK kvs)) ∨ ∃ kvs, H p = some (.dT kvs))) ∨ (T = "set" ∧ ∃ S n, H p = some (.set S n))
  | _ => False
theorem tyV_is {pins : List (Addr × Obj)} {σ : St} {H : Hp} {s : Shared} {T : String} {x : V} {v : Value} (I : Inv X pins σ H s) (r : RelV x v) (ty : tyV X.K T x H) :
    s.TypeIs v T ∧ ∀ a, v = .ref a → ∃ ob, s.heap.get? a = some ob ∧ ob.dict = none := by
  cases x with
  | str z =>
    obtain ⟨t, rfl⟩ := r
    cases (show T = "str" from ty)
    exact ⟨typeIs_str s z t, fun _ e => nomatch e⟩
  | int i =>
    obtain ⟨t, rfl⟩ := r
    cases (show T = "int" from ty)
    exact ⟨typeIs_int s i t, fun _ e => nomatch e⟩
  | ref p =>
    cases r
    rcases ty with ⟨rfl, xs, hq⟩ | ⟨rfl, o, hk, hc, hd⟩ | ⟨rfl, hk⟩ | ⟨rfl, S, n, hk⟩
    · obtain ⟨its, _, pl, _⟩ := I.list hq
      refine ⟨pl.isList.typeIs, fun a e => ?_⟩
      cases e
      obtain ⟨o, n, e, c, hd, _⟩ := pl
      exact ⟨o, e, hd⟩
    · refine ⟨⟨o, I.kIn p o hk, hc⟩, fun a e => ?_⟩
      cases e
      exact ⟨o, I.kIn _ o hk, hd⟩
    · have z : ∃ o, s.heap.get? p = some o ∧ o.ExactDict := by
        rcases hk with ⟨kvs, hk⟩ | ⟨kvs, hk⟩
        · obtain ⟨_, _, _, _, o, _, _, e, ex, _⟩ := I.hok p _ hk
          exact ⟨o, e, ex⟩
        · obtain ⟨_, _, _, _, o, _, _, e, ex, _⟩ := I.hok p _ hk
          exact ⟨o, e, ex⟩
      obtain ⟨o, e, ex⟩ := z
      refine ⟨⟨o, e, ex.1⟩, fun a e2 => ?_⟩
      cases e2
      exact ⟨o, e, ex.2.1⟩
    · obtain ⟨o, _, _, _, e, ex, _⟩ := I.hok p _ hk
      refine ⟨⟨o, e, ex.1⟩, fun a e2 => ?_⟩
      cases e2
      exact ⟨o, e, ex.2.1⟩
  | _ => exact False.elim ty
def tBM0 (K : PySem.W.Frag) (T : String) (r : V → List V → Hp → VK → Prop) (to : TE) : TE := fun σ H Q => to σ H fun x H1 => tyV K T x H1 ∧ r x [] H1 Q
def tBM (K : PySem.W.Frag) (T : String) (r : V → List V → Hp → VK → Prop) (to : TE) (t : TA) : TE := fun σ H Q => to σ H fun x H1 => tyV K T x H1 ∧ t σ H1 fun xs H2 => r x xs H2 Q
variable {o e : Expr} {es : List Expr} {to : TE} {t : TA} {name : Str} {apos cpos : Pos} {T id : String} {r : V → List V → Hp → VK → Prop}
theorem pe_bm0 (pa : PlainAttrs T) (slot : Slot T name id) (hty : typeOf (.builtin id) = pure (.type "method_descriptor")) (hm : MtR X id r) (ho : PE X o to)
    (hbase : attributeBase o name X.env (eval o X.env) = eval o X.env := by rfl) (hline : (apos.endLine == cpos.line) = true := by rfl) : PE X (.Call (.Attribute o name apos) [] [] cpos) (tBM0 X.K T r to) := by
  intro pins s σ H Q I h
  refine wpAny_Call_method0_late hbase hline (thn (ho pins s σ H _ I h) fun v s1 ⟨x, H1, I1, r1, ty, q1⟩ => ?_)
  obtain ⟨h1, h2⟩ := tyV_is I1 r1 ty
  exact ⟨T, id, pa, slot, hty, h1, h2, Calls.callWith_builtin rfl (PySem.evalArgs_none (hm pins s1 σ H1 x [] v [] Q I1 r1 .nil q1))⟩
theorem pe_bm (pa : PlainAttrs T) (slot : Slot T name id) (hty : typeOf (.builtin id) = pure (.type "method_descriptor")) (hm : MtR X id r) (ho : PE X o to) (ha : PA X (e :: es) t)
    (hbase : attributeBase o name X.env (eval o X.env) = eval o X.env := by rfl)
    (hfew : ((backTo cpos (starEach (e :: es) X.env)).all (fun x => !x.1) && (backToKw cpos (keywordEach [] X.env)).all (fun x => x.1.isSome)
      && decide ((e :: es).length + ([] : List Keyword).length + (if ([] : List Keyword).isEmpty then 0 else 1) < 30)) = true := by rfl)
    (hline : (apos.endLine == cpos.line) = true := by rfl) (hs : starEach (e :: es) X.env = (false, eval e X.env) :: starEach es X.env := by rfl) (hplain : (backTo cpos (starEach es X.env)).any (·.1) = false := by rfl) :
    PE X (.Call (.Attribute o name apos) (e :: es) [] cpos) (tBM X.K T r to t) := by
  intro pins s σ H Q I h
  refine wpAny_Call_method_late hbase hfew hline rfl (thn (ho pins s σ H _ I h) fun v s1 ⟨x, H1, I1, r1, ty, q1⟩ => ?_)
  obtain ⟨h1, h2⟩ := tyV_is I1 r1 ty
  refine ⟨T, id, pa, slot, hty, h1, h2, ?_⟩
  have hA := ha cpos pins s1 σ H1 _ I1 q1
  rw [hs] at hA ⊢
  refine Calls.callWith_builtin (by show (false || (backTo cpos (starEach es X.env)).any (·.1)) = false; rw [hplain] <;> rfl) (Calls.evalArgs_plain ?_)
  exact thn hA fun us s2 ⟨vs, H2, I2, r2, q2⟩ => hm pins s2 σ H2 x vs v us Q I2 r1 r2 q2
end
end L2
namespace L2
open PySem PySem.Spec PyProof.Rows
def MtM (X : Cx) (id : String) (r : V → List V → Hp → VK → Prop) : Prop :=
  ∀ (pins : List (Addr × Obj)) (s : Shared) (σ : St) (H : Hp) (x : V) (xs : List V) (v : Value) (us : List Value) (Q : VK), Inv X pins σ H s → RelV x v → Vals xs us → r x xs H Q →
    wpAny (model X.prog X.w) X.A (call (.builtin id) (v :: us)) (EP X pins σ Q) X.xe s
theorem Vals.one : ∀ {x : V} {us : List Value}, Vals [x] us → ∃ u, us = [u] ∧ RelV x u
  | _, _, .cons r .nil => ⟨_, rfl, r⟩
theorem Vals.two : ∀ {x y : V} {us : List Value}, Vals [x, y] us → ∃ u v, us = [u, v] ∧ RelV x u ∧ RelV y v
  | _, _, _, .cons r (.cons q .nil) => ⟨_, _, rfl, r, q⟩
theorem Vals.zero : ∀ {us : List Value}, Vals [] us → us = []
  | _, .nil => rfl
theorem Vals.dropLast {xs : List V} {us : List Value} (h : Vals xs us) : Vals xs.dropLast us.dropLast := by
  induction h with
  | nil => exact .nil
  | cons r t ih =>
    cases t with
    | nil => exact .nil
    | cons q t' => exact .cons r ih
theorem Vals.eraseIdx : ∀ {xs : List V} {us : List Value} (i : Nat), Vals xs us → Vals (xs.eraseIdx i) (us.eraseIdx i)
  | _, _, _, .nil => .nil
  | _, _, 0, .cons _ t => t
  | _, _, i + 1, .cons r t => .cons r (Vals.eraseIdx i t)
theorem Vals.reverse {xs : List V} {us : List Value} (h : Vals xs us) : Vals xs.reverse us.reverse := by
  induction h with
  | nil => exact .nil
  | cons r t ih => rw [List.reverse_cons, List.reverse_cons]; exact Vals.append ih (.cons r .nil)
theorem erase_last {α : Type} (l : List α) : l.eraseIdx (l.length - 1) = l.dropLast := by
  induction l with
  | nil => rfl
  | cons a r ih =>
    cases r with
    | nil => rfl
    | cons b r =>
      have e : (a :: b :: r).length - 1 = ((b :: r).length - 1) + 1 := by
        have h1 : (a :: b :: r).length = r.length + 2 := rfl
        have h2 : (b :: r).length = r.length + 1 := rfl
        omega
      rw [e, List.eraseIdx_cons_succ, ih]
      all_goals rfl
section
variable {X : Cx} {pins : List (Addr × Obj)} {σ : St} {H : Hp} {s : Shared} {l b : Addr} {xs ys zs : List V}
theorem Inv.lset {its its' : List Value} {n : Nat} {f : Array Value → Array Value} {t' : Nat} (I : Inv X pins σ H s) (hH : H l = some (.lst xs))
    (e : s.heap.get? l = some { cls := .type "list", data := .seq its.toArray n }) (hf : f its.toArray = its'.toArray) (hv : Vals ys its') (hz : ys.length ≤ sizeLine) :
    Inv X pins σ (upd H l (.lst ys)) { s with heap := s.heap.update l (Obj.mapSeq f), toks := t' } := by
  have q := PySem.IsL.update e f
  rw [hf] at q
  refine I.write (x := l) (e := l) (by rw [hH]; exact trivial) (.inl rfl) (fun b' u hb hu => (Heap.get?_update_other s.heap (Obj.mapSeq f) (Ne.symm hb)).trans hu) ⟨_, q⟩ ?_
  exact ⟨hz, its', _, hv, q⟩
theorem Inv.lnew {its : List Value} {t' : Nat} (I : Inv X pins σ H s) (hv : Vals ys its) (hz : ys.length ≤ sizeLine) :
    Inv X pins σ (upd H s.heap.objs.size (.lst ys)) { s with heap := s.heap.push { cls := .type "list", data := .seq its.toArray }, toks := t' } :=
  I.laid (fun _ _ q => Heap.get?_push_of_some _ q) (Nat.le_refl _) ⟨hz, its, 0, hv, Heap.get?_push_size _ rfl⟩
theorem Inv.fresh (I : Inv X pins σ H s) : H s.heap.objs.size = none := I.hok.fresh (Nat.le_refl _)
theorem Inv.lstM (I : Inv X pins σ H s) (hH : H l = some (.lst xs)) : xs.length ≤ sizeLine ∧ ∃ (its : List Value) (n : Nat), Vals xs its ∧ xs.length = its.length ∧ s.heap.get? l = some { cls := .type "list", data := .seq its.toArray n } := by
  obtain ⟨z, its, n, r, e⟩ := I.hok l _ hH
  exact ⟨z, its, n, r, r.length, e⟩
theorem notLongL {n : Nat} (h : n ≤ sizeLine) : Builtin.List.listTooLong n = false := by
  unfold Builtin.List.listTooLong
  exact decide_eq_false (by omega)
end
section
variable {X : Cx}
def rAppend : V → List V → Hp → VK → Prop := fun x vs H Q => ∃ l xs y, x = .ref l ∧ vs = [y] ∧ H l = some (.lst xs) ∧ xs.length < sizeLine ∧ Q .non (upd H l (.lst (xs ++ [y])))
theorem mt_append : MtM X "list.append" rAppend := by
  intro pins s σ H x vs v us Q I rx rv h
  obtain ⟨l, xs, y, rfl, rfl, hH, hz, q⟩ := h
  cases rx
  obtain ⟨u, rfl, ru⟩ := rv.one
  obtain ⟨z, its, n, r, hl, e⟩ := I.lstM hH
  refine call_meets F.slot_list_append ⟨_, e, rfl⟩ F.entry_list_append (F.args_list_append_2 _ _) (PySem.list_append l its.toArray n u (by rw [List.size_toArray]; omega)) ⟨e, ?_⟩
  refine ⟨.non, _, I.lset (its' := its ++ [u]) hH e (by simp) (r.append (.cons ru .nil)) ?_, rfl, q⟩
  rw [List.length_append, List.length_singleton]
  omega
def rExtend : V → List V → Hp → VK → Prop := fun x vs H Q => ∃ l b xs zs, x = .ref l ∧ vs = [.ref b] ∧ H l = some (.lst xs) ∧ H b = some (.lst zs) ∧ xs.length + zs.length ≤ sizeLine ∧ Q .non (upd H l (.lst (xs ++ zs)))
theorem mt_extend : MtM X "list.extend" rExtend := by
  intro pins s σ H x vs v us Q I rx rv h
  obtain ⟨l, b, xs, zs, rfl, rfl, hH, hB, hz, q⟩ := h
  cases rx
  obtain ⟨u, rfl, ru⟩ := rv.one
  cases ru
  obtain ⟨z, its, n, r, hl, e⟩ := I.lstM hH
  obtain ⟨z2, its2, n2, r2, hl2, e2⟩ := I.lstM hB
  have hsz : its.toArray.size + its2.toArray.size ≤ sizeLine := by rw [List.size_toArray, List.size_toArray]; omega
  have hlong : ¬ (!its.toArray.isEmpty && Builtin.List.listTooLong (its.toArray.size + its2.toArray.size)) = true := by
    rw [notLongL hsz, Bool.and_false]
    exact Bool.false_ne_true
  refine call_meets F.slot_list_extend ⟨_, e, rfl⟩ F.entry_list_extend (F.args_list_extend_2 _ _)
    (AutoSeq1.list_extend_list_list_0 l its.toArray n b its2.toArray n2 hlong (by rw [List.size_toArray]; omega) (by omega)) ⟨e, e2, ?_⟩
  refine ⟨.non, _, I.lset (its' := its ++ its2) hH e (by simp) (r.append r2) ?_, rfl, q⟩
  rw [List.length_append]
  omega
def rPop : V → List V → Hp → VK → Prop := fun x vs H Q => ∃ l xs y, x = .ref l ∧ vs = [] ∧ H l = some (.lst xs) ∧ xs[xs.length - 1]? = some y ∧ Q y (upd H l (.lst xs.dropLast))
theorem mt_pop : MtM X "list.pop" rPop := by
  intro pins s σ H x vs v us Q I rx rv h
  obtain ⟨l, xs, y, rfl, rfl, hH, hy, q⟩ := h
  cases rx
  have hus := rv.zero
  subst hus
  obtain ⟨z, its, n, r, hl, e⟩ := I.lstM hH
  obtain ⟨u, hu, ru⟩ := r.get hy
  have hy' : its.toArray[its.toArray.size - 1]? = some u := by
    show its.toArray[its.length - 1]? = some u
    rw [← Array.getElem?_toList, ← hl]
    exact hu
  refine call_meets F.slot_list_pop ⟨_, e, rfl⟩ F.entry_list_pop (F.args_list_pop_1 _) (MeetsSeq.list_pop_last l its.toArray n u hy' (by rw [List.size_toArray]; omega)) ⟨e, ?_⟩
  refine ⟨y, _, I.lset (its' := its.dropLast) hH e ?_ r.dropLast ?_, ru, q⟩
  · show its.toArray.eraseIdxIfInBounds (its.toArray.size - 1) = its.dropLast.toArray
    rw [List.size_toArray, List.eraseIdxIfInBounds_toArray, erase_last]
  · rw [List.length_dropLast]
    omega
def rReverse : V → List V → Hp → VK → Prop := fun x vs H Q => ∃ l xs, x = .ref l ∧ vs = [] ∧ H l = some (.lst xs) ∧ Q .non (upd H l (.lst xs.reverse))
theorem mt_reverse : MtM X "list.reverse" rReverse := by
  intro pins s σ H x vs v us Q I rx rv h
  obtain ⟨l, xs, rfl, rfl, hH, q⟩ := h
  cases rx
  have hus := rv.zero
  subst hus
  obtain ⟨z, its, n, r, hl, e⟩ := I.lstM hH
  refine call_meets F.slot_list_reverse ⟨_, e, rfl⟩ F.entry_list_reverse (F.args_list_reverse_1 _) (AutoSeq1.list_reverse_list_0 l its.toArray n (by rw [List.size_toArray]; omega)) ⟨e, ?_⟩
  refine ⟨.non, _, I.lset (its' := its.reverse) hH e (by simp) r.reverse ?_, rfl, q⟩
  rw [List.length_reverse]
  omega
def rCat : R2 := fun x y H Q => ∃ l b xs zs, x = .ref l ∧ y = .ref b ∧ H l = some (.lst xs) ∧ H b = some (.lst zs) ∧ xs.length + zs.length ≤ sizeLine ∧ ∀ p, H p = none → Q (.ref p) (upd H p (.lst (xs ++ zs)))
theorem op_cat : OpR X (binaryOp .Add) rCat := by
  intro pins s σ H x y v u Q I rx ry h
  obtain ⟨l, b, xs, zs, rfl, rfl, hH, hB, hz, q⟩ := h
  cases rx
  cases ry
  obtain ⟨z, its, n, r, hl, e⟩ := I.lstM hH
  obtain ⟨z2, its2, n2, r2, hl2, e2⟩ := I.lstM hB
  refine PySem.P.add_list e e2 ?_ (by rw [List.size_toArray, List.size_toArray]; omega)
  have ea : its.toArray ++ its2.toArray = (its ++ its2).toArray := by simp
  rw [ea]
  exact ⟨.ref _, _, I.lnew (t' := s.toks) (r.append r2) (by rw [List.length_append]; omega), rfl, q _ I.fresh⟩
end
section
variable {prog : Program} {w : World} {A : Around} {E : Value → Shared → Prop} {s : Shared}
end
section
variable {X : Cx}
end
end L2
namespace Att
open PySem PySem.W PySem.Calls PyProof.Rows
theorem ints_of_wellAll {P : Params} {h : Heap} : ∀ (ns : List Int) (vs : List Value), WellAll P h vs (ns.map WData.int) → IntsAre vs ns := by
  intro ns
  induction ns with
  | nil =>
    intro vs w
    rw [List.map_nil] at w
    cases w
    exact .nil
  | cons n ns ih =>
    intro vs w
    rw [List.map_cons] at w
    cases w with
    | cons a b =>
      cases a
      exact .cons _ _ (ih _ b)
theorem script_of {l : OpenLaw} {n : Nat} (hn : l.most = some n) {P : Params} {h : Heap} {args : List WData} {vals : List Value}
    (hpre : l.row.toRowW.claim.pre args = true) (hwl : WellAll P h vals args) :
    ∃ a vs ns, vals = [Value.ref a] ∧ args = [WData.list (ns.map WData.int)] ∧ h.get? a = some { cls := .type "list", data := .seq vs.toArray } ∧ IntsAre vs ns ∧ ns.length ≤ n := by
  have hsh : WShape.hasAll [] args [.list .int] = true := (pre_splitW hpre).1
  have hc : l.pre.holds [] { args := args } = true := (pre_splitW hpre).2
  obtain ⟨d, r, rfl, h1, h2⟩ := hasAllW_cons hsh
  obtain rfl := hasAllW_nil h2
  obtain ⟨xs, rfl, h3⟩ := hasW_list h1
  obtain ⟨ns, rfl⟩ := items_int h3
  have hlen : ns.length ≤ n := by
    unfold OpenLaw.pre at hc
    have h4 : (WTm.not (.lt (.lit (.int (n : Int))) (.len (.arg 0)))).holds [] { args := [.list (ns.map .int)] } = true := by
      have h4 := (holds_andW hc).1
      rw [hn] at h4
      exact h4
    have h5 := condW_of h4 (w_not (w_lt w_lit (w_len_list (w_arg rfl))))
    rw [List.length_map] at h5
    refine Nat.le_of_not_lt fun q => ?_
    have q' : (n : Int) < ((ns.length : Nat) : Int) := by omega
    first
      | (rw [decide_eq_true q'] at h5; exact absurd h5 (by decide))
      | (simp at h5; omega)
  cases hwl with
  | cons w1 w2 =>
    cases w2
    cases w1 with
    | list ho hall => exact ⟨_, _, ns, rfl, rfl, ho, ints_of_wellAll ns _ hall, hlen⟩
theorem post_true (l : OpenLaw) (args : List WData) : l.row.toRowW.claim.post args (.bool true) args = true :=
  postW_of (r := l.row.toRowW) (X := (true == true))
    (show WShape.has [] (.bool true) .bool = true by first | rfl | decide | simp [WShape.has, WShape.arms, WShape.armsAll])
    (show (WTm.eq .res (.lit (.bool true))).value [] { args := args, res := some (.bool true), after := args } = some (.bool (true == true)) from w_eq_bool (w_res rfl) w_lit) rfl
theorem attach_call {l : OpenLaw} {n : Nat} {q : Program} {loose : List Str} {XP : (Str → Option Value) → Heap → Prop} {YP : World → Heap → Prop} {d : DefRec}
    (hn : l.most = some n) (hdf : d.params.defaults = [])
    (call : ∀ (w : World) (s₀ s₁ : Shared) (mg mb : Str → Option Value) (fa : Addr) (o : Obj) (pm cd doc : Value) (a : Addr) (vs : List Value) (ns : List Int),
      Ground q loose [] XP w s₀ mg mb s₁.heap → YP w s₁.heap →
      s₁.heap.get? fa = some o → o.data = .func (docDef d.name d.params d.body d.scope pm cd doc) → s₁.heap.CodeRec cd d.name → mg d.name = some (.ref fa) →
      s₁.heap.get? a = some { cls := .type "list", data := .seq vs.toArray } → IntsAre vs ns → ns.length ≤ n → s₁.gens = #[] →
      codeAny (model l.prog w) callerA (.call (.ref fa) ⟨[.ref a], []⟩) (fun r s' => r = .ok (.ret (.bool true)) ∧ OldK s₁.heap s'.heap ∧ s'.os = s₁.os ∧ AllBare s'.gens) s₁) :
    WalkO q loose XP YP l.row.toRowW d [] (fun f vs => PySem.call f vs) := by
  intro w s₀ s₁ mg mb G Y fa o pm cd doc dV kV ho hd hcd hD hmg hg args vals as hpre hlay hrd hwl hlo
  obtain rfl : dV = .none := Dflts.none hD hdf
  obtain rfl : kV = .none := Dflts.noKw hD
  obtain ⟨a, vs, ns, rfl, rfl, hobj, hints, hlen⟩ := script_of hn hpre hwl
  refine enter_call (codeAny_mono (call w s₀ s₁ mg mb fa o pm cd doc a vs ns G Y ho (fd_plain hd) hcd hmg hobj hints hlen hg) fun r s' hq => ?_)
  obtain ⟨rfl, h2, h3, h4⟩ := hq
  exact ⟨.inl ⟨.bool true, .bool true, [], rfl, fun _ => rfl, .bool true, post_true l _, fun _ => ⟨List.Pairwise.nil, fun _ hm => (nomatch hm)⟩⟩, h2, h3, h4⟩
section
variable {prog : Program} {w : World} {A : Around} {E : Value → Shared → Prop} {s : Shared} {K : Frag}
end
end Att
namespace L2
open PySem PySem.Spec PyProof.Rows
theorem vals_ints : ∀ {vs : List Value} {ns : List Int}, IntsAre vs ns → Vals (ns.map V.int) vs
  | _, _, .nil => .nil
  | _, _, .cons n t h => .cons ⟨t, rfl⟩ (vals_ints h)
def Only (H : Hp) : Prop := ∀ b, H b = none ∨ ∃ o xs, H b = some (.frz o (.lst xs))
theorem law_call {P : Program} {w : World} {K : PySem.W.Frag} {mg mb : Str → Option Value} {CX : CXT} {k : Nat} {fa a : Addr} {fd : FuncData} {x : Str} {sp : Sp} {s₁ : Shared} {vs : List Value} {ns : List Int}
    (KX : K.In s₁.heap) (hns : s₁.heap.Ns mainGlobals mg) (hb : s₁.heap.Ns builtinsNs mb) (hbb : ∀ x : Str, x ≠ "__name__" → mb x = bootBuiltins x) (hlim : s₁.heap.NoLimit) (hg : s₁.gens = #[])
    (ha : s₁.heap.get? a = some { cls := .type "list", data := .seq vs.toArray }) (hi : IntsAre vs ns) (hl : ns.length ≤ sizeLine) (hr : Room k callerA)
    (F : ∀ base : Heap, K.In base → base.Ns mainGlobals mg → FnOk P w K mg base CX k fa fd [x] sp) (hbind : ∀ (s : Shared) (u : Value), BindsTo s fd ⟨[u], []⟩ [(x, u)])
    (hsp : ∀ H : Hp, Only H → SqL K H a (ns.map V.int) → sp [.ref a] H (fun v _ => v = .bl true) fun _ _ _ => False)
    (hCX : ∀ H e s', CX [] H s₁ (fun _ _ _ => False) e s' → False) :
    codeAny (model P w) callerA (.call (.ref fa) ⟨[.ref a], []⟩) (fun r s' => r = .ok (.ret (.bool true)) ∧ OldK s₁.heap s'.heap ∧ s'.os = s₁.os ∧ AllBare s'.gens) s₁ := by
  have rv := vals_ints hi
  have lenV := hi.length
  have core : ∀ H : Hp, Only H → SqL K H a (ns.map V.int) → HOk P w H s₁.heap → (∀ b, H b ≠ none → b = a) → (H a ≠ none → K.lookup a = none) →
      codeAny (model P w) callerA (.call (.ref fa) ⟨[.ref a], []⟩) (fun r s' => r = .ok (.ret (.bool true)) ∧ OldK s₁.heap s'.heap ∧ s'.os = s₁.os ∧ AllBare s'.gens) s₁ := by
    intro H hO hS hok hA hK
    have base_of : ∀ {b : Addr} {o : Obj}, s₁.heap.get? b = some o → H b = none → (hidT s₁.heap H).get? b = some o := fun e n => hidT_get e n
    have noA : ∀ {b : Addr} {o : Obj} {es : Array DictEntry} {ep : Nat}, s₁.heap.get? b = some o → o.data = .dict es ep → H b = none := fun {b o es ep} e d => by
      cases q : H b with
      | none => rfl
      | some u =>
        have e' : b = a := hA b (by rw [q]; simp)
        subst e'
        rw [ha] at e; cases e
        have d' : Data.seq vs.toArray _ = Data.dict es ep := d
        cases d'
    have nsK : ∀ {b : Addr} {m : Str → Option Value}, s₁.heap.Ns b m → (hidT s₁.heap H).Ns b m := fun {b m} ⟨o, es, ep, e, d, r⟩ => ⟨o, es, ep, base_of e (noA e d), d, r⟩
    have hKb : K.In (hidT s₁.heap H) := fun b o e => base_of (KX b o e) (by
      cases q : H b with
      | none => rfl
      | some u =>
        have e' : b = a := hA b (by rw [q]; simp)
        subst e'
        rw [hK (by rw [q]; simp)] at e; cases e)
    have hM : Mod K mg (hidT s₁.heap H) := ⟨hKb, nsK hns, ⟨mb, nsK hb, hbb⟩, let ⟨mc, h1, h2⟩ := hlim; ⟨mc, nsK h1, h2⟩⟩
    have e0 : Env0 P w K mg (hidT s₁.heap H) callerA [] s₁ H := ⟨rfl, hM, fun b o e => of_hidT e, Nat.le_of_eq (hidT_size _ _), trivial, fun b hb => absurd (show b ∈ ([] : List Addr) from hb) (by simp), hok, .of_eq hg⟩
    refine codeAny_mono ((F _ hKb (nsK hns)).run callerA [] s₁ H ⟨[.ref a], []⟩ [.ref a] [.ref a] _ _ hr e0 (hbind s₁ (.ref a)) (.cons rfl .nil) (hsp H hO hS)) fun r s' h => ?_
    cases r with
    | error e => exact (hCX H e s' h).elim
    | ok fl =>
      cases fl with
      | next => exact False.elim h
      | brk => exact False.elim h
      | cont => exact False.elim h
      | ret u =>
        obtain ⟨v, H', os, bare, un, hok', r', q⟩ := h
        have q' : v = .bl true := q
        subst q'
        obtain rfl : u = Value.bool true := r'
        refine ⟨rfl, OldK.of_keep fun b o e => ?_, os, bare⟩
        cases q : H b with
        | none => exact un.keep b o e q (by intro z; exact absurd (show b ∈ ([] : List Addr) from z) (by simp)) (by simp)
        | some u =>
          rcases hO b with z | ⟨ob, xs, z⟩
          · rw [q] at z; cases z
          · have z2 := un.frzs b ob _ z
            obtain ⟨e1, _⟩ := hok b _ z
            obtain ⟨e2, _⟩ := hok' b _ z2
            rw [e] at e1; cases e1
            exact e2
  cases hk : K.lookup a with
  | some o =>
    have e := KX a o hk
    rw [ha] at e
    cases e
    refine core (fun _ => none) (fun _ => .inl rfl) (.inr ⟨_, vs.toArray, _, hk, rfl, rfl, rfl, by rw [List.size_toArray, lenV]; exact hl, by simpa using rv⟩) (fun b u z => by have z' : (none : Option HO) = some u := z; cases z') (fun b z => absurd rfl z) fun z => absurd rfl z
  | none =>
    refine core (fun b => if b = a then some (.frz { cls := .type "list", data := .seq vs.toArray } (.lst (ns.map V.int))) else none) (fun b => ?_) (.inl (.inr ⟨{ cls := .type "list", data := .seq vs.toArray }, if_pos rfl⟩)) (fun b u z => ?_) (fun b z => ?_) fun _ => hk
    · by_cases hb : b = a
      · exact .inr ⟨_, _, if_pos hb⟩
      · exact .inl (if_neg hb)
    · by_cases hb : b = a
      · have z' := (if_pos hb).symm.trans z
        cases z'
        subst hb
        exact ⟨ha, by rw [List.length_map]; exact hl, vs, _, rv, ha⟩
      · have z' := (if_neg hb).symm.trans z
        cases z'
    · by_cases hb : b = a
      · exact hb
      · exact absurd (if_neg hb) z
end L2
namespace L2
open PySem PySem.Spec PyProof.Rows
theorem walk_of {l : PySem.W.OpenLaw} {n k : Nat} {q : Program} {loose : List Str} {XP : (Str → Option Value) → Heap → Prop} {YP : World → Heap → Prop} {d : DefRec} {K : Params → PySem.W.Frag} {CX : World → CXT} {sp : World → Sp} {x : Str}
    (hn : l.most = some n) (hn2 : n ≤ sizeLine) (hdf : d.params.defaults = []) (hr : Room k callerA)
    (hY : ∀ (w : World) (h : Heap), YP w h → (K w.params).In h)
    (F : ∀ (w : World) (mg : Str → Option Value) (fa : Addr) (h : Heap), (K w.params).In h → h.Ns mainGlobals mg → mg d.name = some (.ref fa) →
      ∃ fd : FuncData, (∀ (s : Shared) (u : Value), BindsTo s fd ⟨[u], []⟩ [(x, u)]) ∧
        ∀ base : Heap, (K w.params).In base → base.Ns mainGlobals mg → FnOk l.prog w (K w.params) mg base (CX w) k fa fd [x] (sp w))
    (hsp : ∀ (w : World) (H : Hp) (a : Addr) (ns : List Int), ns.length ≤ n → Only H → SqL (K w.params) H a (ns.map V.int) → sp w [.ref a] H (fun v _ => v = .bl true) fun _ _ _ => False)
    (hCX : ∀ (w : World) (H : Hp) (s : Shared) (e : Value) (s' : Shared), CX w [] H s (fun _ _ _ => False) e s' → False) :
    PySem.W.WalkO q loose XP YP l.row.toRowW d [] (fun f vs => PySem.call f vs) := by
  refine Att.attach_call hn hdf fun w s₀ s₁ mg mb fa o pm cd doc a vs ns G Y ho hd hcd hmg hobj hints hlen hg => ?_
  have KX := hY w _ Y
  obtain ⟨fd, hb, hF⟩ := F w mg fa _ KX G.T.g hmg
  exact law_call KX G.T.g G.T.b G.T.builtins G.T.nolimit hg hobj hints (Nat.le_trans hlen hn2) hr hF hb (fun H hO hS => hsp w H a ns hlen hO hS) fun H e s' => hCX w H s₁ e s'
end L2
namespace L2
open PySem PySem.Spec PyProof.Rows
def defArgs (s : Stmt) : Arguments := match s with
  | .FunctionDef _ a _ _ _ _ _ _ _ _ => a
  | _ => { posonlyargs := [], args := [], vararg := none, kwonlyargs := [], kw_defaults := [], kwarg := none, defaults := [] }
def defBody (s : Stmt) : List Stmt := match s with
  | .FunctionDef _ _ b _ _ _ _ _ _ _ => b
  | _ => []
def defScope (s : Stmt) : Scope := match s with
  | .FunctionDef _ _ _ _ _ _ sc _ _ _ => sc
  | _ => { kind := .function, names := [], isGenerator := false, isCoroutine := false }
abbrev CX0 : CXT := fun _ _ _ _ _ _ => False
abbrev E0 : XK := fun _ _ _ => False
theorem pass0 {X : Cx} : Passes CX0 X E0 := fun _ _ _ _ _ _ _ h => h.elim
structure Fun (K : PySem.W.Frag) (x qual : Str) (st : Stmt) (f : Addr) (fd : FuncData) : Prop where
  ex : ∃ (oc : Value) (od : Option Addr) (kV doc pm : Value) (an : Option Addr) (cdv ct : Value) (osl : Array (Option Value)),
    fd = PySem.W.fnOf x qual (defArgs st) (defBody st) (defScope st) .none kV doc pm an cdv ct ∧ K.lookup f = some ⟨oc, od, .func fd, osl⟩ ∧ PySem.W.codeIn K cdv qual = true
  kp : PySem.W.keepIn K (.ref f) = true
section
variable {P : Program} {w : World} {K : PySem.W.Frag} {mg : Str → Option Value} {base : Heap}
theorem Fun.ok {x qual : Str} {st : Stmt} {f : Addr} {fd : FuncData} {N ps : List Str} {k : Nat} {sp : Sp} (F : Fun K x qual st f fd) (S : FnScope N ps (defScope st)) (len : ∀ vs H Q E, sp vs H Q E → vs.length = ps.length)
    (hbody : ∀ (cdv : Value) (A : Around) (outer : List Env) (s : Shared) (H : Hp) (vs : List V) (Q : VK) (E : XK), Room k (A.deeper (envOfC qual (defScope st) s.heap.objs.size f cdv)) → sp vs H Q E →
      ∃ t, PSs (cxOf CX0 P w K mg base N qual (defScope st) f cdv A outer s H E).nox (defBody st) t ∧ t { nx := fun _ H' => Q .non H', rt := Q } (start N vs) H) : FnOk P w K mg base CX0 (k + 1) f fd ps sp := by
  obtain ⟨oc, od, kV, doc, pm, an, cdv, ct, osl, rfl, lk, hcd⟩ := F.ex
  refine fn_of lk hcd S len fun A outer s H vs Q E hr hsp => ?_
  obtain ⟨t, h, q⟩ := hbody cdv A outer s H vs Q E hr hsp
  exact ⟨t, h.nox, q⟩
theorem Fun.binds {x qual : Str} {st : Stmt} {f : Addr} {fd : FuncData} {ps : List Str} (F : Fun K x qual st f fd)
    (h : ∀ (kV doc pm : Value) (an : Option Addr) (cdv ct : Value) (us : List Value), us.length = ps.length → bindArgs (PySem.W.fnOf x qual (defArgs st) (defBody st) (defScope st) .none kV doc pm an cdv ct) ⟨us, []⟩ = pure (ps.zip us)) : Binds K fd ps [] := by
  obtain ⟨oc, od, kV, doc, pm, an, cdv, ct, osl, rfl, lk, hcd⟩ := F.ex
  exact .all (h kV doc pm an cdv ct)
theorem fun_mk {x qual : Str} {st : Stmt} {f : Addr} {oc : Value} {od an : Option Addr} {osl : Array (Option Value)} {kV doc pm cdv ct : Value} (l : K.lookup f = some ⟨oc, od, .func (PySem.W.fnOf x qual (defArgs st) (defBody st) (defScope st) .none kV doc pm an cdv ct), osl⟩)
    (c : PySem.W.codeIn K cdv qual = true) (k : PySem.W.keepIn K (.ref f) = true) : Fun K x qual st f (PySem.W.fnOf x qual (defArgs st) (defBody st) (defScope st) .none kV doc pm an cdv ct) := ⟨⟨oc, od, kV, doc, pm, an, cdv, ct, osl, rfl, l, c⟩, k⟩
end
theorem hu_of {A : Around} {k : Nat} (hr : Room k A) : A.units + 1 < cLine := Nat.lt_of_le_of_lt (Nat.add_le_add_left (by decide : 1 ≤ 64) _) hr.units
section
variable {X : Cx}
theorem pv (i : Nat) {x : Str} {pos : Pos} (hN : X.N[i]? = some x := by rfl) (hv : Vis X.env.scope x := by first | exact Or.inl rfl | exact Or.inr (Or.inl rfl) | exact Or.inr (Or.inr rfl)) (hd : (x == ("__debug__" : Str)) = false := by decide)
    (hcd : (x == ("__classdict__" : Str)) = false := by decide) : PE X (.Name x pos) (tVar i) := pe_var hN hv hd hcd
end
theorem iteF {A B : Prop} (h : B) : if false = true then A else B := by
  rw [if_neg Bool.false_ne_true]
  exact h
theorem iteT {A B : Prop} (h : A) : if true = true then A else B := by
  rw [if_pos rfl]
  exact h
theorem ite2 {c A B : Prop} [Decidable c] (h1 : c → A) (h2 : ¬ c → B) : if c then A else B := by
  by_cases h : c
  · rw [if_pos h]
    exact h1 h
  · rw [if_neg h]
    exact h2 h
def Same (H H' : Hp) : Prop := ∀ b o, H b = some o → H' b = some o
theorem Same.refl (H : Hp) : Same H H := fun _ _ h => h
theorem Same.trans {H H1 H2 : Hp} (a : Same H H1) (b : Same H1 H2) : Same H H2 := fun c o h => b c o (a c o h)
theorem Same.free {H H' : Hp} (e : Same H H') {l : Addr} (h : H' l = Option.none) : H l = Option.none := by
  cases q : H l with
  | none => rfl
  | some o =>
    rw [e l o q] at h
    cases h
theorem Same.seq {K : PySem.W.Frag} {H H' : Hp} {a : Addr} {xs : List V} (e : Same H H') (h : SqL K H a xs) : SqL K H' a xs := by
  rcases h with (h | ⟨o, h⟩) | h
  · exact .inl (.inl (e _ _ h))
  · exact .inl (.inr ⟨o, e _ _ h⟩)
  · exact .inr h
end L2
namespace L2
open PySem PySem.Spec PyProof.Rows
section
variable {κ : Type} [DecidableEq κ]
def valV (kvs : List (κ × V)) (k : κ) : Option V := (kvs.find? fun kv => decide (kv.1 = k)).map (·.2)
def putK (kvs : List (κ × V)) (k : κ) (v : V) : List (κ × V) :=
  if (kvs.any fun kv => decide (kv.1 = k)) = true then kvs.map (fun kv => if kv.1 = k then (kv.1, v) else kv) else kvs ++ [(k, v)]
def dropK (kvs : List (κ × V)) (k : κ) : List (κ × V) := kvs.filter fun kv => decide (kv.1 ≠ k)
theorem valV_pos {p : κ × V} {r : List (κ × V)} {k : κ} (e : p.1 = k) : valV (p :: r) k = some p.2 := by simp [valV, List.find?_cons, e]
theorem valV_neg {p : κ × V} {r : List (κ × V)} {k : κ} (e : ¬ p.1 = k) : valV (p :: r) k = valV r k := by simp [valV, List.find?_cons, e]
theorem valV_any (k : κ) : ∀ kvs : List (κ × V), (kvs.any fun kv => decide (kv.1 = k)) = (valV kvs k).isSome
  | [] => rfl
  | p :: r => by
    rw [List.any_cons]
    by_cases e : p.1 = k
    · simp only [valV_pos e, decide_eq_true e, Bool.true_or, Option.isSome_some]
    · rw [valV_neg e, decide_eq_false e, Bool.false_or]; exact valV_any k r
theorem valV_map (k j : κ) (y : V) : ∀ kvs : List (κ × V), valV (kvs.map fun kv => if kv.1 = k then (kv.1, y) else kv) j = (valV kvs j).map fun x => if j = k then y else x
  | [] => rfl
  | p :: r => by
    have ih := valV_map k j y r
    rw [List.map_cons]
    by_cases h : p.1 = k
    · rw [if_pos h]
      by_cases e : p.1 = j
      · rw [valV_pos (p := (p.1, y)) e, valV_pos e, Option.map_some, if_pos (e.symm.trans h)]
      · rw [valV_neg (p := (p.1, y)) e, valV_neg e, ih]
    · rw [if_neg h]
      by_cases e : p.1 = j
      · rw [valV_pos (p := p) e, valV_pos e, Option.map_some, if_neg (fun z => h (e.trans z))]
      · rw [valV_neg (p := p) e, valV_neg e, ih]
theorem valV_snoc (k j : κ) (y : V) : ∀ kvs : List (κ × V), valV kvs k = none → valV (kvs ++ [(k, y)]) j = if j = k then some y else valV kvs j
  | [], _ => by
    by_cases e : k = j
    · rw [if_pos e.symm]; exact valV_pos (p := (k, y)) e
    · rw [if_neg (fun z => e z.symm)]; exact valV_neg (p := (k, y)) e
  | p :: r, hn => by
    rw [List.cons_append]
    have hk : ¬ p.1 = k := fun z => by rw [valV_pos z] at hn; cases hn
    rw [valV_neg hk] at hn
    have ih := valV_snoc k j y r hn
    by_cases e : p.1 = j
    · rw [valV_pos e, valV_pos e, if_neg (fun z => hk (e.trans z))]
    · rw [valV_neg e, valV_neg e, ih]
theorem valV_put (kvs : List (κ × V)) (k j : κ) (y : V) : valV (putK kvs k y) j = if j = k then some y else valV kvs j := by
  unfold putK
  by_cases a : (kvs.any fun kv => decide (kv.1 = k)) = true
  · rw [if_pos a, valV_map]
    rw [valV_any] at a
    by_cases e : j = k
    · obtain ⟨x, hx⟩ := Option.isSome_iff_exists.mp a
      rw [if_pos e, e, hx, Option.map_some, if_pos rfl]
    · rw [if_neg e]
      cases valV kvs j with
      | none => rfl
      | some x => rw [Option.map_some, if_neg e]
  · rw [if_neg a]
    refine valV_snoc k j y kvs ?_
    rw [valV_any] at a
    cases q : valV kvs k with
    | none => rfl
    | some x => rw [q] at a; exact (a rfl).elim
theorem length_putK (kvs : List (κ × V)) (k : κ) (v : V) : (putK kvs k v).length ≤ kvs.length + 1 := by
  unfold putK
  split
  · rw [List.length_map]; omega
  · rw [List.length_append, List.length_cons, List.length_nil]; omega
theorem RelO.isSome_eq {o : Option V} {u : Option Value} (r : RelO o u) : o.isSome = u.isSome := by
  cases o with
  | none => cases u with
    | none => rfl
    | some _ => exact (show False from r).elim
  | some _ => cases u with
    | none => exact (show False from r).elim
    | some _ => rfl
theorem RelO.getD {o : Option V} {u : Option Value} {d : V} {d' : Value} (r : RelO o u) (rd : RelV d d') : RelV (o.getD d) (u.getD d') := by
  cases o with
  | none => cases u with
    | none => exact rd
    | some _ => exact (show False from r).elim
  | some _ => cases u with
    | none => exact (show False from r).elim
    | some _ => exact r
theorem KV.val {kvs : List (κ × V)} {vs : List (κ × Value)} (r : KV kvs vs) (k : κ) : RelO (valV kvs k) (valueAt vs k) := by
  unfold KV at r
  induction r with
  | nil => exact True.intro
  | @cons p q ps qs h t ih =>
    obtain ⟨h1, h2⟩ := h
    by_cases e : p.1 = k
    · have e' : q.1 = k := h1.symm.trans e
      have b : valueAt (q :: qs) k = some q.2 := by simp [valueAt, List.find?_cons, e']
      rw [valV_pos e, b]; exact h2
    · have e' : ¬ q.1 = k := fun z => e (h1.trans z)
      have b : valueAt (q :: qs) k = valueAt qs k := by simp [valueAt, List.find?_cons, e']
      rw [valV_neg e, b]; exact ih
theorem KV.any {kvs : List (κ × V)} {vs : List (κ × Value)} (r : KV kvs vs) (k : κ) : (kvs.any fun kv => decide (kv.1 = k)) = vs.any fun kv => decide (kv.1 = k) := by
  unfold KV at r
  induction r with
  | nil => rfl
  | cons h t ih => rw [List.any_cons, List.any_cons, ih, h.1]
theorem KV.repl {kvs : List (κ × V)} {vs : List (κ × Value)} (r : KV kvs vs) (k : κ) {y : V} {u : Value} (ry : RelV y u) :
    KV (kvs.map fun kv => if kv.1 = k then (kv.1, y) else kv) (vs.map fun kv => if kv.1 = k then (kv.1, u) else kv) := by
  unfold KV at r ⊢
  induction r with
  | nil => exact .nil
  | @cons p q ps qs h t ih =>
    rw [List.map_cons, List.map_cons]
    refine .cons ?_ ih
    obtain ⟨h1, h2⟩ := h
    by_cases e : p.1 = k
    · rw [if_pos e, if_pos (h1.symm.trans e)]; exact ⟨h1, ry⟩
    · rw [if_neg e, if_neg (fun z => e (h1.trans z))]; exact ⟨h1, h2⟩
theorem KV.put {kvs : List (κ × V)} {vs : List (κ × Value)} (r : KV kvs vs) (k : κ) {y : V} {u : Value} (ry : RelV y u) : KV (putK kvs k y) (stored vs k u) := by
  unfold putK stored
  rw [r.any k]
  by_cases e : (vs.any fun kv => decide (kv.1 = k)) = true
  · rw [if_pos e, if_pos e]; exact r.repl k ry
  · rw [if_neg e, if_neg e]; exact Paired.snoc r ⟨rfl, ry⟩
theorem KV.drop {kvs : List (κ × V)} {vs : List (κ × Value)} (r : KV kvs vs) (k : κ) : KV (dropK kvs k) (without vs k) := by
  unfold KV at r ⊢
  unfold dropK without
  induction r with
  | nil => exact .nil
  | @cons p q ps qs h t ih =>
    obtain ⟨h1, h2⟩ := h
    rw [List.filter_cons, List.filter_cons]
    by_cases e : p.1 = k
    · have a : ¬ decide (p.1 ≠ k) = true := by simp [e]
      have b : ¬ decide (q.1 ≠ k) = true := by simp [h1.symm.trans e]
      rw [if_neg a, if_neg b]; exact ih
    · have e' : ¬ q.1 = k := fun z => e (h1.trans z)
      have a : decide (p.1 ≠ k) = true := by simp [e]
      have b : decide (q.1 ≠ k) = true := by simp [e']
      rw [if_pos a, if_pos b]; exact .cons ⟨h1, h2⟩ ih
theorem KV.length {kvs : List (κ × V)} {vs : List (κ × Value)} (r : KV kvs vs) : kvs.length = vs.length := Paired.length r
end
theorem kV_is {P : Program} {w : World} {k : Key} {u : Value} (r : RelV (kV k) u) : (mixKind P w).is k u = true := by
  cases k with
  | inl i => obtain ⟨t, e⟩ := (show ∃ t, u = Value.int i t from r); subst e; exact mixKind_int P w i t
  | inr x => obtain ⟨t, e⟩ := (show ∃ t, u = Value.str x t from r); subst e; exact mixKind_str P w x t
theorem items_are {P : Program} {w : World} : ∀ {ks : List Key} {us : List Value}, Vals (ks.map kV) us → ItemsAre (mixKind P w) ks us
  | [], _, r => by rw [List.map_nil] at r; cases r; exact .nil
  | k :: ks, _, r => by
    rw [List.map_cons] at r
    cases r with
    | cons h t => exact .cons (kV_is h) (items_are t)
abbrev KT (H : Hp) : List (List Key × V) → List (List Key × Addr × Value) → Prop := Paired fun p q => p.1 = q.1 ∧ H q.2.1 = some (.tup (p.1.map kV)) ∧ RelV p.2 q.2.2
theorem KT.val {H : Hp} {kvs : List (List Key × V)} {xs : List (List Key × Addr × Value)} (r : KT H kvs xs) (k : List Key) : RelO (valV kvs k) ((atKey xs k).map (·.2)) := by
  induction r with
  | nil => exact True.intro
  | @cons p q ps qs h t ih =>
    obtain ⟨h1, _, h2⟩ := h
    by_cases e : p.1 = k
    · have e' : q.1 = k := h1.symm.trans e
      have b : atKey (q :: qs) k = some q.2 := by simp [atKey, List.find?_cons, e']
      rw [valV_pos e, b]; exact h2
    · have e' : ¬ q.1 = k := fun z => e (h1.trans z)
      have b : atKey (q :: qs) k = atKey qs k := by simp [atKey, List.find?_cons, e']
      rw [valV_neg e, b]; exact ih
theorem KT.repl {H : Hp} {kvs : List (List Key × V)} {xs : List (List Key × Addr × Value)} (r : KT H kvs xs) (k : List Key) {y : V} {u : Value} (ry : RelV y u) :
    KT H (kvs.map fun kv => if kv.1 = k then (kv.1, y) else kv) (xs.map (putAt k u)) := by
  induction r with
  | nil => exact .nil
  | @cons p q ps qs h t ih =>
    rw [List.map_cons, List.map_cons]
    refine .cons ?_ ih
    obtain ⟨h1, h2, h3⟩ := h
    unfold putAt
    by_cases e : p.1 = k
    · rw [if_pos e, if_pos (h1.symm.trans e)]; exact ⟨h1, h2, ry⟩
    · rw [if_neg e, if_neg (fun z => e (h1.trans z))]; exact ⟨h1, h2, h3⟩
theorem KT.put {H : Hp} {kvs : List (List Key × V)} {xs : List (List Key × Addr × Value)} (r : KT H kvs xs) (k : List Key) {b : Addr} {y : V} {u : Value} (hb : H b = some (.tup (k.map kV))) (ry : RelV y u) :
    KT H (putK kvs k y) (storedH xs k b u) := by
  have e : (kvs.any fun kv => decide (kv.1 = k)) = (atKey xs k).isSome := by
    rw [valV_any, (r.val k).isSome_eq, Option.isSome_map]
  unfold putK storedH
  rw [e]
  by_cases q : (atKey xs k).isSome = true
  · rw [if_pos q, if_pos q]; exact r.repl k ry
  · rw [if_neg q, if_neg q]; exact Paired.snoc r ⟨rfl, hb, ry⟩
theorem KT.keeps {H H' : Hp} {kvs : List (List Key × V)} {xs : List (List Key × Addr × Value)} (r : KT H kvs xs) (ht : ∀ b ys, H b = some (.tup ys) → H' b = some (.tup ys)) : KT H' kvs xs :=
  Paired.mapP r fun _ _ z => ⟨z.1, ht _ _ z.2.1, z.2.2⟩
section
variable {P : Program} {w : World} {H : Hp} {h : Heap} {a : Addr}
theorem rd_of {u : HO} (ok : HOk P w H h) (e : Rd H a u) : ObjOk P w H h a u := e.ok ok
theorem dk_rd {kvs : List (Key × V)} (ok : HOk P w H h) (e : Rd H a (.dK kvs)) : kvs.length ≤ sizeLine ∧ (a == sysModules) = false ∧ ∃ vs, KV kvs vs ∧ h.DictOf (mixKind P w) a vs :=
  show ObjOk P w H h a (.dK kvs) from rd_of ok e
theorem dk_of {kvs : List (Key × V)} (ok : HOk P w H h) (e : H a = some (.dK kvs)) : kvs.length ≤ sizeLine ∧ (a == sysModules) = false ∧ ∃ vs, KV kvs vs ∧ h.DictOf (mixKind P w) a vs := dk_rd ok (.inl e)
theorem key_of {ks : List Key} (ok : HOk P w H h) (e : H a = some (.tup (ks.map kV))) : (tupleKind (mixKind P w)).is h ks a := by
  obtain ⟨_, its, r, o, h1, h2, n, h3⟩ := (show ObjOk P w H h a (.tup (ks.map kV)) from ok a _ e)
  exact ⟨o, its.toArray, n, h1, h2, h3, by simpa using items_are r⟩
theorem dt_rd {kvs : List (List Key × V)} (ok : HOk P w H h) (e : Rd H a (.dT kvs)) : kvs.length ≤ sizeLine ∧ (a == sysModules) = false ∧
    ∃ xs, KT H kvs xs ∧ h.DictOfH (tupleKind (mixKind P w)) a xs := by
  obtain ⟨z, y, xs, r, o, es, ep, h1, h2, h3, h4, h5⟩ := (show ObjOk P w H h a (.dT kvs) from rd_of ok e)
  refine ⟨z, y, xs, r, o, es, ep, h1, h2, h3, h4, fun x hx => ?_, h5⟩
  have all : ∀ {l : List (List Key × V)} {m : List (List Key × Addr × Value)}, KT H l m → ∀ x ∈ m, (tupleKind (mixKind P w)).is h x.1 x.2.1 := by
    intro l m q
    induction q with
    | nil => intro x hx; exact nomatch hx
    | @cons p q ps qs hq t ih =>
      intro x hx
      rcases List.mem_cons.mp hx with e | hx
      · subst e
        exact key_of ok (by rw [← hq.1]; exact hq.2.1)
      · exact ih x hx
  exact all r x hx
theorem dt_of {kvs : List (List Key × V)} (ok : HOk P w H h) (e : H a = some (.dT kvs)) : kvs.length ≤ sizeLine ∧ (a == sysModules) = false ∧
    ∃ xs, KT H kvs xs ∧ h.DictOfH (tupleKind (mixKind P w)) a xs := dt_rd ok (.inl e)
end
def DGet (H : Hp) (a : Addr) (y : V) (r : Option V) : Prop :=
  (∃ kvs k, Rd H a (.dK kvs) ∧ y = kV k ∧ r = valV kvs k) ∨ ∃ kvs k b, Rd H a (.dT kvs) ∧ y = .ref b ∧ H b = some (.tup (k.map kV)) ∧ r = valV kvs k
def DPut (H : Hp) (a : Addr) (y v : V) (H' : Hp) : Prop :=
  (∃ kvs k, H a = some (.dK kvs) ∧ y = kV k ∧ kvs.length < sizeLine ∧ H' = upd H a (.dK (putK kvs k v))) ∨
  ∃ kvs k b, H a = some (.dT kvs) ∧ y = .ref b ∧ H b = some (.tup (k.map kV)) ∧ kvs.length < sizeLine ∧ H' = upd H a (.dT (putK kvs k v))
theorem DGet.k {H : Hp} {a : Addr} {kvs : List (Key × V)} {k : Key} (e : H a = some (.dK kvs)) : DGet H a (kV k) (valV kvs k) := .inl ⟨kvs, k, .inl e, rfl, rfl⟩
theorem DGet.t {H : Hp} {a b : Addr} {kvs : List (List Key × V)} {k : List Key} (e : H a = some (.dT kvs)) (eb : H b = some (.tup (k.map kV))) : DGet H a (.ref b) (valV kvs k) := .inr ⟨kvs, k, b, .inl e, rfl, eb, rfl⟩
theorem DPut.k {H : Hp} {a : Addr} {kvs : List (Key × V)} {k : Key} {v : V} (e : H a = some (.dK kvs)) (hl : kvs.length < sizeLine) : DPut H a (kV k) v (upd H a (.dK (putK kvs k v))) := .inl ⟨kvs, k, e, rfl, hl, rfl⟩
theorem DPut.t {H : Hp} {a b : Addr} {kvs : List (List Key × V)} {k : List Key} {v : V} (e : H a = some (.dT kvs)) (eb : H b = some (.tup (k.map kV))) (hl : kvs.length < sizeLine) :
    DPut H a (.ref b) v (upd H a (.dT (putK kvs k v))) := .inr ⟨kvs, k, b, e, rfl, eb, hl, rfl⟩
section
variable {X : Cx} {pins : List (Addr × Obj)} {σ : St} {H : Hp} {s : Shared} {a : Addr} {y v : V} {u r : Value} {o : Option V} {A : Around} {E : Value → Shared → Prop}
theorem Inv.big (I : Inv X pins σ H s) : sysModules < s.heap.objs.size := by
  have h : mainGlobals < s.heap.objs.size := (I.mod.glob.keeps I.bk).lt
  exact Nat.lt_trans (by decide) h
theorem d_getItem {Q : Value → Shared → Prop} (hu : A.units + 1 < cLine) (I : Inv X pins σ H s) (g : DGet H a y (some v)) (ry : RelV y u) (h : ∀ w' s', Inv X pins σ H s' → RelV v w' → Q w' s') :
    wpAny (model X.prog X.w) A (getItem (.ref a) u) Q E s := by
  rcases g with ⟨kvs, k, e, ey, l⟩ | ⟨kvs, k, b, e, ey, eb, l⟩
  · subst ey
    obtain ⟨z, hd, vs, rel, dd⟩ := dk_rd I.hok e
    obtain ⟨w', hw, rw'⟩ := RelO.some_of (v := v) (o := valueAt vs k) (by rw [l]; exact rel.val k)
    exact wpAny_getItem_of (kV_is ry) dd.mapOf hw (h w' _ (I.tok _) rw')
  · subst ey
    cases (show u = Value.ref b from ry)
    obtain ⟨z, hd, xs, rel, dd⟩ := dt_rd I.hok e
    obtain ⟨w', hw, rw'⟩ := RelO.some_of (v := v) (o := (atKey xs k).map (·.2)) (by rw [l]; exact rel.val k)
    obtain ⟨p, hp, hp2⟩ := Option.map_eq_some_iff.mp hw
    refine wpAny_getItem_heap (tupleKind_room_in1 hu) (key_of I.hok eb) dd hp ?_
    rw [hp2]
    exact h w' _ (I.tok _) rw'
theorem d_write {h' : Heap} {t' : Nat} {ob : HO} (I : Inv X pins σ H s) (mu : Mut (H a)) (hs : Heap.SameBut a s.heap h') (he : ∃ q, h'.get? a = some q) (new : ObjOk X.prog X.w (upd H a ob) h' a ob) :
    Inv X pins σ (upd H a ob) { s with heap := h', toks := t' } :=
  I.write (x := a) (e := a) mu (.inl rfl) (fun b q hb z => (hs.2 b hb).trans z) he new
theorem dk_new {P : Program} {w : World} {H' : Hp} {h' : Heap} {kvs : List (Key × V)} {vs : List (Key × Value)} (z : kvs.length ≤ sizeLine) (hd : (a == sysModules) = false) (rel : KV kvs vs) (dd : h'.DictOf (mixKind P w) a vs) :
    ObjOk P w H' h' a (.dK kvs) := ⟨z, hd, vs, rel, dd⟩
theorem d_setItem {H' : Hp} {Q : Unit → Shared → Prop} (hu : A.units + 1 < cLine) (I : Inv X pins σ H s) (g : DPut H a y v H') (ry : RelV y u) (rv : RelV v r) (h : ∀ s', Inv X pins σ H' s' → Q () s') :
    wpAny (model X.prog X.w) A (setItem (.ref a) u r) Q E s := by
  rcases g with ⟨kvs, k, e, ey, l, eH⟩ | ⟨kvs, k, b, e, ey, eb, l, eH⟩
  · subst ey eH
    obtain ⟨z, hd, vs, rel, dd⟩ := dk_of I.hok e
    have hz : vs.length ≤ sizeLine := by rw [← rel.length]; exact z
    have hl : (putK kvs k v).length ≤ sizeLine := by have := length_putK kvs k v; omega
    refine wpAny_setItem_pairs (hsz := hz) (kV_is ry) dd fun h' dd' hs => h _ ?_
    have he : ∃ q, h'.get? a = some q := let ⟨q, _, _, hq, _⟩ := dd'; ⟨q, hq⟩
    exact d_write I (by rw [e]; exact True.intro) hs he (dk_new hl hd (rel.put k rv) dd')
  · subst ey eH
    cases (show u = Value.ref b from ry)
    obtain ⟨z, hd, xs, rel, dd⟩ := dt_of I.hok e
    have hz : xs.length ≤ sizeLine := by rw [← Paired.length rel]; exact z
    have hl : (putK kvs k v).length ≤ sizeLine := by have := length_putK kvs k v; omega
    refine wpAny_setItem_heap (hsz := hz) (tupleKind_room_in1 hu) (key_of I.hok eb) dd fun h' dd' hs => h _ ?_
    obtain ⟨q, es, ep, hq, h2, h3, h4, _, h5⟩ := dd'
    refine d_write I (by rw [e]; exact True.intro) hs ⟨q, hq⟩ ⟨hl, hd, _, (rel.put k eb rv).keeps fun c ys ec => ?_, q, es, ep, hq, h2, h3, h4, h5⟩
    rw [upd_ne (ne_of ec e (fun z => nomatch z))]
    exact ec
end
section
variable {X : Cx} {pins : List (Addr × Obj)} {σ : St} {H : Hp} {s : Shared} {a : Addr} {kvs : List (Key × V)} {k : Key} {u : Value} {A : Around} {E : Value → Shared → Prop}
end
def NoSl (i : Expr) : Prop := ∀ ov iv, subscripted i false ov iv = operate [ov, iv] (getItem ov iv)
theorem subD_of {prog : Program} {w : World} {A : Around} {E : Value → Shared → Prop} {s : Shared} {env : Env} {value slice : Expr} {pos : Pos} {T id : String} {Q : Value → Shared → Prop}
    (hl : typeLookup (.type T) "__getitem__" = pure (some (.builtin id))) (hs : NoSl slice)
    (h : wpAny (model prog w) A (eval value env) (fun o s₁ => wpAny (model prog w) A (eval slice env) (fun i s₂ => s₂.TypeIs o T ∧ wpAny (model prog w) A (getItem o i) Q E s₂) E s₁) E s) :
    wpAny (model prog w) A (eval (.Subscript value slice pos) env) Q E s := by
  refine Subscript_ (wpAny_mono h (fun o s₁ h₁ => wpAny_mono h₁ (fun i s₂ h₂ => ?_) fun _ _ x => x) fun _ _ x => x)
  obtain ⟨hT, h₂⟩ := h₂
  unfold subscriptTail
  refine wpAny_bind ?_
  rw [getitemInPython_of_ne hT.not_modules]
  refine wpAny_bind (wpAny_specialOf hT hl ?_)
  have fin : wpAny (model prog w) A (subscripted slice false o i) (fun r s₃ => wpAny (model prog w) A (letTemporaryGo value o r >>= fun _ => pure r) Q E s₃) E s₂ := by
    rw [hs o i]
    exact wpAny_operating (wpAny_mono h₂ (fun r s₃ h₃ => wpAny_bind (wpAny_letTemporaryGo (wpAny_pure h₃))) fun _ _ x => x)
  first
    | exact wpAny_pure (wpAny_bind fin)
    | exact wpAny_bind (wpAny_pure (wpAny_bind fin))
    | exact wpAny_bind fin
theorem dict_typeIs {X : Cx} {pins : List (Addr × Obj)} {σ : St} {H : Hp} {s : Shared} {a : Addr} {y : V} {o : Option V} (I : Inv X pins σ H s) (g : DGet H a y o) : s.TypeIs (.ref a) "dict" := by
  rcases g with ⟨kvs, k, e, _, _⟩ | ⟨kvs, k, b, e, _, _, _⟩
  · obtain ⟨_, _, vs, _, dd⟩ := dk_rd I.hok e
    exact dd.typeIs
  · obtain ⟨_, _, xs, _, dd⟩ := dt_rd I.hok e
    exact dd.typeIs
def tDGet (td ty : TE) : TE := fun σ H Q => td σ H fun x H1 => ty σ H1 fun y H2 => ∃ a v, x = .ref a ∧ DGet H2 a y (some v) ∧ Q v H2
def sDPut (td ty tv : TE) : TS := fun D σ H => tv σ H fun v H1 => td σ H1 fun x H2 => ty σ H2 fun y H3 => ∃ a H4, x = .ref a ∧ DPut H3 a y v H4 ∧ D.nx σ H4
section
variable {X : Cx} {o i e value : Expr} {pos pos' tpos : Pos} {td ty tv : TE}
theorem pe_dget (hu : X.A.units + 1 < cLine) (ho : PE X o td) (hi : PE X i ty) (hs : NoSl i) : PE X (.Subscript o i pos) (tDGet td ty) := by
  intro pins s σ H Q I h
  refine subD_of PySem.F.slot_dict_getitem.lookup hs (thn (ho pins s σ H _ I h) fun u s1 ⟨x, H1, I1, rx, q1⟩ => thn (hi pins s1 σ H1 _ I1 q1) fun iv s2 ⟨y, H2, I2, ry, a, v, ex, g, q2⟩ => ?_)
  subst ex
  obtain rfl : u = Value.ref a := rx
  exact ⟨dict_typeIs I2 g, d_getItem hu I2 g ry fun w' s3 I3 rw' => ⟨v, H2, I3, rw', q2⟩⟩
theorem ps_dput (hu : X.A.units + 1 < cLine) (ho : PE X o td) (hi : PE X i ty) (hv : PE X value tv) (hs : swapsWith value (some (.Subscript o i pos')) pos.line X.env = pure false) :
    PS X (.Assign [.Subscript o i pos'] value pos) (sDPut td ty tv) := by
  intro pins s σ H D I h
  refine wpAny_Assign_Subscript (thn (hv pins s σ H _ I h) fun r s1 ⟨v, H1, I1, rv, q1⟩ => thn (ho pins s1 σ H1 _ I1 q1) fun u s2 ⟨x, H2, I2, rx, q2⟩ => thn (hi pins s2 σ H2 _ I2 q2) fun iv s3 ⟨y, H3, I3, ry, a, H4, ex, g, q3⟩ => ?_) hs
  subst ex
  obtain rfl : u = Value.ref a := rx
  exact d_setItem hu I3 g ry rv fun s4 I4 => ⟨σ, H4, I4, q3⟩
end
theorem dt_empty {P : Program} {w : World} {H : Hp} (h : Heap) (hb : sysModules < h.objs.size) : ObjOk P w H (h.push { cls := .type "dict", data := .dict #[] }) h.objs.size (.dT []) :=
  ⟨Nat.zero_le _, beq_eq_false_iff_ne.mpr (Ne.symm (Nat.ne_of_lt hb)), [], .nil, _, #[], 0, Heap.get?_push_size _ rfl, ⟨rfl, rfl, rfl⟩, rfl, rfl, List.nodup_nil⟩
def tDNewT : TE := fun _ H Q => ∀ p, H p = none → Q (.ref p) (upd H p (.dT []))
section
variable {X : Cx} {pos : Pos}
theorem pe_dnewT : PE X (.Dict [] [] pos) tDNewT := fun pins s σ H Q I h =>
  wpAny_Dict_empty ⟨.ref s.heap.objs.size, _, I.laid (a := s.heap.objs.size) (o := .dT []) (t' := s.toks) (fun _ _ q => Heap.get?_push_of_some _ q) (Nat.le_refl _) (dt_empty s.heap I.big), rfl, h _ (I.hok.fresh (Nat.le_refl _))⟩
end
structure M2 (X : Cx) (o : Expr) (m : Str) (apos : Pos) (e f : Expr) (cpos : Pos) : Prop where
  base : attributeBase o m X.env (eval o X.env) = eval o X.env
  few : ((backTo cpos (starEach [e, f] X.env)).all (fun x => !x.1) && (backToKw cpos (keywordEach [] X.env)).all (fun x => x.1.isSome)
    && decide (([e, f] : List Expr).length + ([] : List Keyword).length + (if ([] : List Keyword).isEmpty then 0 else 1) < 30)) = true
  line : (apos.endLine == cpos.line) = true
  trees : backTo cpos (starEach [e, f] X.env) = [(false, eval e X.env), (false, eval f X.env)]
section
variable {X : Cx} {pins : List (Addr × Obj)} {σ : St} {H : Hp} {s : Shared} {a : Addr} {y d : V} {u r : Value} {o : Option V} {A : Around} {E : Value → Shared → Prop}
end
section
variable {X : Cx} {o e f : Expr} {apos cpos : Pos} {td ty tx : TE}
end
section
variable {X : Cx} {pins : List (Addr × Obj)} {σ : St} {H : Hp} {s : Shared} {a : Addr} {kvs : List (Key × V)} {A : Around} {E : Value → Shared → Prop}
end
section
variable {X : Cx} {pins : List (Addr × Obj)} {σ : St} {H : Hp} {s : Shared} {a : Addr} {y : V} {u : Value} {A : Around} {E : Value → Shared → Prop}
end
end L2
set_option Elab.async false
set_option linter.all false
set_option maxRecDepth 100000
set_option maxHeartbeats 4000000
namespace L2
open PySem PySem.Spec PyProof.Rows
section
variable {X : Cx} {pins : List (Addr × Obj)} {σ : List (Option V)} {H H' : Hp} {s : Shared} {h' : Heap}
theorem Inv.turnLaid {t' : Nat} {ch : List Addr} {p : Addr} {o : HO} (I : Inv X pins σ H s) (hf : ∀ b ∈ ch, FpOk X pins H b)
    (k : ∀ b u, b ∉ ch → s.heap.get? b = some u → h'.get? b = some u) (hp : s.heap.objs.size ≤ p) (new : ObjOk X.prog X.w (upd H p o) h' p o) :
    Inv X pins σ (upd H p o) { s with heap := h', toks := t' } := by
  have hn : H p = none := I.hok.fresh hp
  have nch : ∀ b u, H b = some u → b ∉ ch := fun b u e z => by have q := (hf b z).1; rw [e] at q; cases q
  have old : ∀ b u, s.heap.get? b = some u → b ≠ p := fun b u e => Nat.ne_of_lt (Nat.lt_of_lt_of_le (Heap.lt_size e) hp)
  have keepH : ∀ b u, H b = some u → upd H p o b = some u := fun b u e => by rw [upd_ne (ne_of_none e hn)]; exact e
  refine I.step (g' := s.gens) (d' := s.drawn) (ch := ch) (fun b hb => ?_) (fun b o _ _ hc e _ => k b o hc e) (fun b o _ _ hc e _ => ⟨o.slots, k b o hc e⟩) (fun b o _ e n => by rw [upd_ne (old b o e)]; exact n)
    (fun b o hc e => ⟨o, k b o hc e⟩) (fun b xs e => keepH b _ e) (fun b _ _ e => keepH b _ e) (fun b ps e => ⟨#[], by rw [keepH b _ e]; simp⟩) (fun m hm => ?_) (fun b u e => ?_) I.bare
  · obtain ⟨f0, f1, f2, f3, f4, f5⟩ := hf b hb
    exact ⟨f3, f1, f4, f5⟩
  · obtain ⟨ob, es, ep, ho, r⟩ := hm
    exact ⟨ob, es, ep, k _ ob (fun z => (hf _ z).2.1 rfl) ho, r⟩
  · by_cases hb : b = p
    · subst hb; rw [upd_same] at e; cases e; exact new
    · rw [upd_ne hb] at e
      refine (I.hok b u e).stay (fun c v hc q => k c v ?_ q) (fun c q => keepH c _ q) fun c xs q => keepH c _ q
      rcases hc with z | z
      · rw [z]; exact nch b u e
      · exact nch c _ z
end
def Itn (K : PySem.W.Frag) (a : Addr) : It :=
  ⟨fun i H => ∃ xs x, SqL K H a xs ∧ xs[i]? = some x,
   fun i H x H' => ∃ y p, (∀ xs, SqL K H a xs → xs[i]? = some y) ∧ H p = none ∧ x = .ref p ∧ H' = upd H p (.tup [.int i, y]),
   fun i H => ∃ xs, SqL K H a xs ∧ xs.length ≤ i⟩
theorem turn_enum {P : Program} {w : World} {K : PySem.W.Frag} {elts : List Expr} {x1} {tpos : Pos} (a e it : Addr) (hne : e ≠ it) :
    Turn P w K (.Tuple elts x1 tpos) (Itn K a) [e, it] e (fun i h => (∃ old, IsEnum h e it i old) ∧ h.IsListIter it a i) where
  mem := by simp
  obj := fun i h st b hb => by
    obtain ⟨⟨old, st1⟩, st2⟩ := st
    rcases List.mem_cons.mp hb with z | z
    · subst z; exact ⟨_, st1, fun v z => by cases z⟩
    · have z' : b = it := by simpa using z
      subst z'
      obtain ⟨o, e, c, d⟩ := st2
      exact ⟨o, e, fun v z => by rw [d] at z; cases z⟩
  keep := fun i h h' st k => by
    obtain ⟨⟨old, st1⟩, st2⟩ := st
    exact ⟨⟨old, k e (by simp) _ st1⟩, st2.at fun o q => k it (by simp) o q⟩
  item := by
    intro X hP hw hK hc i pins s σ H E I hf st hg
    subst hP hw hK
    obtain ⟨⟨old, st1⟩, st2⟩ := st
    obtain ⟨xs, x, hq, hx⟩ := hg
    obtain ⟨its, rv, p, hz⟩ := I.list hq
    obtain ⟨u, hu, ru⟩ := rv.get hx
    refine wpAny_pyNext_enum_item st1 st2 p.isList (x := u) (by simpa using hu) hne fun h1 eo it1 ht hsz kk => ?_
    have nn : H s.heap.objs.size = none := I.hok.fresh (Nat.le_refl _)
    have I1 : Inv X pins σ (upd H s.heap.objs.size (.tup [.int i, x])) { s with heap := h1, toks := s.toks + 1 } :=
      I.turnLaid (ch := [e, it]) hf (fun b o hb q => kk b o (fun z => hb (by simp [z])) (fun z => hb (by simp [z])) q) (Nat.le_refl _)
        ⟨by show 2 ≤ sizeLine; decide, [.int i s.toks, u], .cons ⟨_, rfl⟩ (.cons ru .nil), ⟨_, ht, rfl, _, rfl⟩⟩
    have le : e < s.heap.objs.size := Heap.lt_size st1
    have li : it < s.heap.objs.size := by obtain ⟨o, q, _⟩ := id st2; exact Heap.lt_size q
    refine ⟨_, rfl, wpAny_letOwnedTupleGo_enum eo fun h2 e2 sb => ?_⟩
    obtain ⟨f0, f1, f2, f3, f4, f5⟩ := hf e (by simp)
    have I2 := I1.turned (h' := h2) (t' := s.toks + 1) (it := e) (fun b o hb q => (sb.2 b hb).trans q) (by rw [upd_ne (Nat.ne_of_lt le)]; exact f0) f1 f3 f4 f5
    refine ⟨.ref s.heap.objs.size, _, I2, rfl, ⟨x, s.heap.objs.size, fun ys hy => by rw [I.list_inj hy hq]; exact hx, nn, rfl, rfl⟩, ⟨⟨u, by simpa using e2⟩, it1.at fun o q => (sb.2 it (Ne.symm hne)).trans q⟩, fun b hb => ?_⟩
    rcases List.mem_cons.mp hb with z | z
    · subst z; rw [upd_ne (Nat.ne_of_lt le)]; exact f0
    · have z' : b = it := by simpa using z
      subst z'; rw [upd_ne (Nat.ne_of_lt li)]; exact (hf b (by simp)).1
  done := by
    intro X hP hw hK hc i pins s σ H E I hf st hg
    subst hP hw hK
    obtain ⟨⟨old, st1⟩, st2⟩ := st
    obtain ⟨xs, hq, hx⟩ := hg
    obtain ⟨its, rv, p, hz⟩ := I.list hq
    obtain ⟨f0, f1, f2, f3, f4, f5⟩ := hf it (by simp)
    have hl := rv.length
    exact wpAny_pyNext_enum_end (I.ok.hd hc) st1 st2 p.isList (by simp; omega) fun h' eb => ⟨rfl, I.turned (t' := s.toks) (fun b o hb e => eb b o hb e) f0 f1 f3 f4 f5⟩
  self := fun _ _ _ _ _ st h => by
    obtain ⟨⟨old, st1⟩, st2⟩ := st
    exact wpAny_pyIter_enum st1 h
def iEnum (K : PySem.W.Frag) (ta : TA) : TI := fun σ H R => ta σ H fun vs H1 => ∃ a, vs = [.ref a] ∧ (∃ xs, SqL K H1 a xs) ∧ R (Itn K a) H1
theorem pi_enum {X : Cx} {elts : List Expr} {x1} {tpos : Pos} {a : Expr} {ta : TA} {p pos : Pos} (hg : Gl X "enumerate") (hm : X.mg "enumerate" = none) (ha : PA X [a] ta) (hs : starEach [a] X.env = [(false, eval a X.env)] := by rfl) :
    PI X (.Tuple elts x1 tpos) (.Call (.Name "enumerate" p) [a] [] pos) (iEnum X.K ta) := by
  intro pins s σ H R I h
  refine Call_ (ld_blt I hg hm boot_enumerate (PyProof.Rows.callWith_type1 (thn (ha pos pins s σ H _ I h) fun us s1 ⟨vs, H1, I1, r1, q1⟩ => ?_) hs rfl))
  obtain ⟨l, e, ⟨xs, hq⟩, q⟩ := q1
  subst e
  cases r1 with
  | cons r rr =>
    cases rr
    cases r
    obtain ⟨its, rv, pl, hz⟩ := I1.list hq
    refine call_enumerate_list pl.isList fun h' he hit hsz kk => ?_
    have I2 : Inv X pins σ H1 { s1 with heap := h' } := I1.kept (t' := s1.toks) kk
    refine wpAny_pyIter_enum he ?_
    refine ⟨s1.heap.objs.size + 1, [s1.heap.objs.size + 1, s1.heap.objs.size], _, _, H1, rfl, I2, turn_enum l _ _ (Nat.succ_ne_self _), ⟨⟨_, by simpa using he⟩, hit⟩, fun b hb => ?_, q⟩
    rcases List.mem_cons.mp hb with z | z
    · subst z; exact I1.fpOk (Nat.le_succ _) (I1.hok.fresh (Nat.le_succ _))
    · have z' : b = s1.heap.objs.size := by simpa using z
      subst z'; exact I1.fpOk (Nat.le_refl _) (I1.hok.fresh (Nat.le_refl _))
theorem for_enum {K : PySem.W.Frag} {a : Addr} {xs : List V} {g : TG} {tb : TS} {D : Ends} {σ : St} {H : Hp} (Pv : Nat → St → Hp → Prop) (h0 : Pv 0 σ H) (hl : ∀ i σ H, i ≤ xs.length → Pv i σ H → SqL K H a xs)
    (hs : ∀ i x p σ H, xs[i]? = some x → Pv i σ H → H p = none → g (.ref p) σ (upd H p (.tup [.int i, x])) fun σ2 H2 => tb { D with nx := Pv (i + 1), ct := Pv (i + 1), bk := D.nx } σ2 H2) (hd : ∀ σ H, Pv xs.length σ H → D.nx σ H) :
    ∃ W : Nat → Nat → St → Hp → Prop, (∃ m, W 0 m σ H) ∧ ∀ i m σ H, W i m σ H →
      ((Itn K a).stop i H ∧ D.nx σ H) ∨ ((Itn K a).go i H ∧ ∃ N : St → Hp → Prop, (∀ σ' H', N σ' H' → ∃ m', m' < m ∧ W (i + 1) m' σ' H') ∧ ∀ x H', (Itn K a).yld i H x H' → g x σ H' fun σ2 H2 => tb { D with nx := N, ct := N, bk := D.nx } σ2 H2) := by
  refine ⟨fun i m σ H => m = xs.length - i ∧ i ≤ xs.length ∧ Pv i σ H, ⟨xs.length, by simp, Nat.zero_le _, h0⟩, ?_⟩
  rintro i m σ H ⟨rfl, hi, p⟩
  have q := hl i σ H hi p
  by_cases hlt : i < xs.length
  · refine .inr ⟨⟨xs, xs[i], q, by simp [hlt]⟩, Pv (i + 1), fun σ' H' p' => ⟨xs.length - (i + 1), by omega, rfl, hlt, p'⟩, fun x H' y => ?_⟩
    obtain ⟨z, pa, hz, hn, e1, e2⟩ := y
    subst e1 e2
    exact hs i z pa σ H (hz xs q) p hn
  · have e : i = xs.length := by omega
    subst e
    exact .inl ⟨⟨xs, q, Nat.le_refl _⟩, hd σ H p⟩
end L2
set_option Elab.async false
set_option linter.all false
set_option maxRecDepth 100000
set_option maxHeartbeats 4000000
namespace L2
open PySem PySem.Spec PyProof.Rows
def clOf (env : Env) : List (Str × NameKind) → List (Str × Addr) → List (Str × Addr)
  | [], cs => cs
  | (n, k) :: r, cs => clOf env r (if k == .free then (n, (env.cells.lookup n).getD 0) :: cs else cs)
theorem clos_forIn {env : Env} : ∀ (names : List (Str × NameKind)) (cs : List (Str × Addr)), (∀ y ∈ names, y.2 = .free → ∃ c, env.cells.lookup y.1 = some c) →
    (forIn names cs fun (x : Str × NameKind) (r : List (Str × Addr)) => (match x with
      | (name, kind) => if (kind == NameKind.free) = true then (cellOf env name >>= fun a => pure (ForInStep.yield ((name, a) :: r)) : Sem (ForInStep (List (Str × Addr)))) else pure (ForInStep.yield r))) = pure (clOf env names cs)
  | [], cs, _ => rfl
  | (n, k) :: r, cs, h => by
    have ih := fun cs' => clos_forIn r cs' fun y hy => h y (List.mem_cons_of_mem _ hy)
    rw [List.forIn_cons]
    by_cases hk : k = .free
    · subst hk
      obtain ⟨c, hc⟩ := h (n, .free) List.mem_cons_self rfl
      have e : cellOf env n = pure c := by unfold cellOf; rw [hc]
      simp only [beq_self_eq_true, if_true, e, pure_bind]
      rw [ih]
      show _ = pure (clOf env r (if (NameKind.free == NameKind.free) = true then _ else _))
      rw [hc]; rfl
    · have hb : (k == NameKind.free) = false := by simpa using hk
      simp only [hb, Bool.false_eq_true, if_false, pure_bind]
      rw [ih]
      show _ = pure (clOf env r (if (k == NameKind.free) = true then _ else _))
      rw [hb]; rfl
theorem closureFor_clOf {env : Env} {scope : Scope} (h : ∀ y ∈ scope.names, y.2 = .free → ∃ c, env.cells.lookup y.1 = some c) : closureFor scope env = pure (clOf env scope.names []) := by
  unfold closureFor
  have e := clos_forIn (env := env) scope.names [] h
  show ((forIn scope.names [] _ : Sem (List (Str × Addr))) >>= fun cs => pure cs) = _
  rw [bind_pure]
  refine Eq.trans ?_ e
  first
    | rfl
    | (congr 1; funext x r; obtain ⟨n, k⟩ := x; dsimp only; split <;> simp)
theorem mem_clOf {env : Env} {x : Str} {c : Addr} : ∀ (names : List (Str × NameKind)) (cs : List (Str × Addr)), (x, c) ∈ clOf env names cs → (x, c) ∈ cs ∨ ((x, NameKind.free) ∈ names ∧ c = (env.cells.lookup x).getD 0)
  | [], cs, h => .inl h
  | (n, k) :: r, cs, h => by
    have h' : (x, c) ∈ clOf env r (if (k == NameKind.free) = true then (n, (env.cells.lookup n).getD 0) :: cs else cs) := h
    rcases mem_clOf r _ h' with z | ⟨z1, z2⟩
    · by_cases hk : k = .free
      · subst hk
        simp only [beq_self_eq_true, if_true, List.mem_cons] at z
        rcases z with z | z
        · cases z; exact .inr ⟨List.mem_cons_self, rfl⟩
        · exact .inl z
      · have hb : (k == NameKind.free) = false := by simpa using hk
        rw [hb] at z
        exact .inl z
    · exact .inr ⟨List.mem_cons_of_mem _ z1, z2⟩
theorem clOf_mono {env : Env} {p : Str × Addr} : ∀ (names : List (Str × NameKind)) (cs : List (Str × Addr)), p ∈ cs → p ∈ clOf env names cs
  | [], cs, h => h
  | (n, k) :: r, cs, h => by
    show p ∈ clOf env r (if (k == NameKind.free) = true then (n, (env.cells.lookup n).getD 0) :: cs else cs)
    refine clOf_mono r _ ?_
    split
    · exact List.mem_cons_of_mem _ h
    · exact h
theorem clOf_has {env : Env} {x : Str} : ∀ (names : List (Str × NameKind)) (cs : List (Str × Addr)), (x, NameKind.free) ∈ names → (x, (env.cells.lookup x).getD 0) ∈ clOf env names cs
  | [], _, h => by cases h
  | (n, k) :: r, cs, h => by
    show _ ∈ clOf env r (if (k == NameKind.free) = true then (n, (env.cells.lookup n).getD 0) :: cs else cs)
    rcases List.mem_cons.mp h with z | z
    · cases z
      exact clOf_mono r _ (by simp)
    · exact clOf_has r _ z
theorem mem_of_lookup' {α β : Type} [BEq α] [LawfulBEq α] {x : α} {c : β} : ∀ {l : List (α × β)}, l.lookup x = some c → (x, c) ∈ l
  | [], h => by simp at h
  | (n, k) :: r, h => by
    rw [List.lookup_cons] at h
    by_cases e : x = n
    · subst e; simp at h; subst h; exact List.mem_cons_self
    · have : (x == n) = false := by simpa using e
      rw [this] at h
      exact List.mem_cons_of_mem _ (mem_of_lookup' h)
theorem lookup_of_mem' {α β : Type} [BEq α] [LawfulBEq α] {x : α} {c : β} : ∀ {l : List (α × β)}, (x, c) ∈ l → ∃ c', l.lookup x = some c'
  | [], h => by cases h
  | (n, k) :: r, h => by
    rw [List.lookup_cons]
    by_cases e : x = n
    · subst e; simp
    · have q : (x == n) = false := by simpa using e
      rw [q]
      rcases List.mem_cons.mp h with z | z
      · cases z; exact absurd rfl e
      · exact lookup_of_mem' z
theorem lookup_relabel_mem {env : Env} {x : Str} {k' : NameKind} : ∀ {names : List (Str × NameKind)},
    (names.map fun (n, k) => if (k == NameKind.free && env.scope.kind == .function && env.kindOf n == some .cell) then (n, NameKind.cell) else (n, k)).lookup x = some k' →
    (x, k') ∈ names ∨ (k' = .cell ∧ (x, NameKind.free) ∈ names)
  | [], h => by simp at h
  | (n, k) :: r, h => by
    rw [List.map_cons, List.lookup_cons] at h
    dsimp only at h
    by_cases e : x = n
    · subst e
      by_cases hc : (k == NameKind.free && env.scope.kind == .function && env.kindOf x == some .cell) = true
      · rw [if_pos hc] at h
        simp at h
        have hk : k = .free := by
          simp only [Bool.and_eq_true, beq_iff_eq] at hc
          exact hc.1.1
        subst hk
        exact .inr ⟨h.symm, List.mem_cons_self⟩
      · rw [if_neg hc] at h
        simp at h
        subst h
        exact .inl List.mem_cons_self
    · have q : (x == (if (k == NameKind.free && env.scope.kind == .function && env.kindOf n == some .cell) = true then (n, NameKind.cell) else (n, k)).1) = false := by
        split <;> simpa using e
      rw [q] at h
      rcases lookup_relabel_mem h with z | ⟨z1, z2⟩
      · exact .inl (List.mem_cons_of_mem _ z)
      · exact .inr ⟨z1, List.mem_cons_of_mem _ z2⟩
structure CompScope (X : Cx) (scope : Scope) (own frn : List Str) (frj : List Nat) : Prop where
  cell : ∀ y ∈ scope.names, y.2 ≠ .cell
  kind : scope.kind = .function
  names : ∀ y ∈ scope.names, y.2 = .local → scope.names.lookup y.1 = some .local
  free : ∀ y ∈ scope.names, y.2 = .free → X.env.scope.names.lookup y.1 = some .cell ∨ X.env.scope.names.lookup y.1 = some .free
  frl : frj.length = frn.length
  frN : ∀ (i j : Nat), frj[i]? = some j → X.N[j]? = frn[i]?
  frF : ∀ x ∈ frn, (x, NameKind.free) ∈ scope.names ∧ scope.names.lookup x = some .free
def cxComp (X : Cx) (own frn : List Str) (scope : Scope) (C : Addr) (s₃ : Shared) (H₃ : Hp) (fp : List Addr) : Cx :=
  { X with N := own ++ frn, s₀ := s₃, H₀ := H₃, env := compEnvC scope (clOf X.env scope.names []) C X.env, outer := X.stack, stack := X.stack, ex := fp, fn := fun _ => false, pn := [], xe := fun _ _ => False }
def startC (own : List Str) (frj : List Nat) (σ : St) : St := List.replicate own.length none ++ frj.map fun j => (σ[j]?).join
section
variable {X : Cx} {pins : List (Addr × Obj)} {σ : List (Option V)} {H : Hp} {s : Shared} {scope : Scope} {own frn : List Str} {frj : List Nat}
theorem CompScope.cells (sc : CompScope X scope own frn frj) (ok : X.Ok) : ∀ y ∈ scope.names, y.2 = .free → ∃ c, X.env.cells.lookup y.1 = some c := fun y hy hf => by
  rcases sc.free y hy hf with z | z
  · exact ok.has y.1 (.inl z)
  · exact ok.has y.1 (.inr z)
theorem CompScope.look (sc : CompScope X scope own frn frj) (ok : X.Ok) {x : Str} {c : Addr} (h : (clOf X.env scope.names []).lookup x = some c) : X.env.cells.lookup x = some c ∧ (x, NameKind.free) ∈ scope.names := by
  rcases mem_clOf _ _ (mem_of_lookup' h) with z | ⟨z1, z2⟩
  · cases z
  · obtain ⟨c', hc⟩ := sc.cells ok (x, .free) z1 rfl
    have hc' : X.env.cells.lookup x = some c' := hc
    rw [hc'] at z2
    have z3 : c = c' := z2
    subst z3
    exact ⟨hc', z1⟩
theorem CompScope.lookF (sc : CompScope X scope own frn frj) (ok : X.Ok) {x : Str} (h : (x, NameKind.free) ∈ scope.names) : ∃ c, (clOf X.env scope.names []).lookup x = some c ∧ X.env.cells.lookup x = some c := by
  obtain ⟨c, hc⟩ := lookup_of_mem' (clOf_has (env := X.env) scope.names [] h)
  exact ⟨c, hc, (sc.look ok hc).1⟩
theorem Inv.block {fp : List Addr} {h₄ : Heap} {tk : Nat} (I : Inv X pins σ H s) (sc : CompScope X scope own frn frj) (hfp : ∀ b ∈ fp, FpOk X pins H b) (hfl : ∀ b ∈ fp, b < s.heap.objs.size)
    (k : ∀ b o, s.heap.get? b = some o → h₄.get? b = some o) (hn : h₄.Ns s.heap.objs.size fun _ => none) :
    Inv (cxComp X own frn scope s.heap.objs.size s H fp) [] (startC own frj σ) H { s with heap := h₄, toks := tk } := by
  have ok := I.ok
  refine ⟨⟨ok.mod, by show (relabel scope X.env).kind = _; exact sc.kind, ok.glob, ok.blt, Nat.le_refl _, ?_, ?_, fun x c h => (nomatch h), ok.hd, ok.frames, .inl rfl, ?_, fun b o e => I.bs b o e, Nat.le_trans ok.bsz I.sz, ?_, ?_, I.stack, I.stkFree⟩, rfl, I.bare, Un.kept k, ?_, ?_, I.fresh, ?_, fun p hp => (nomatch hp), I.hok.kept k, ?_⟩
  · intro x y c e1 e2
    exact ok.inj x y c (sc.look ok e1).1 (sc.look ok e2).1
  · intro x h
    have mem : (x, NameKind.free) ∈ scope.names := by
      rcases h with h | h
      · rcases lookup_relabel_mem h with z | ⟨_, z⟩
        · exact absurd rfl (sc.cell _ z)
        · exact z
      · rcases lookup_relabel_mem h with z | ⟨z, _⟩
        · exact z
        · cases z
    obtain ⟨c, hc, _⟩ := sc.lookF ok mem
    exact ⟨c, hc⟩
  · intro b hb
    obtain ⟨f0, f1, f2, f3, f4, f5⟩ := hfp b hb
    exact ⟨Nat.ne_of_lt (hfl b hb), fun x c e => f4 x c (sc.look ok e).1⟩
  · intro b o e hb
    rcases (hfp b hb).2.2.2.1 with z | z
    · exact ok.noex b o e z
    · exact absurd (Nat.lt_of_lt_of_le (Heap.lt_size e) (Nat.le_trans ok.bsz z)) (Nat.lt_irrefl _)
  · intro b hb hfs
    obtain ⟨f0, f1, f2, _⟩ := hfp b hb
    rcases List.mem_cons.mp (I.stkSub b hfs) with z | z
    · exact f1 z
    · exact f2 z
  · refine ⟨_, hn, fun i x v e1 e2 e3 => ?_⟩
    have e1' : (own ++ frn)[i]? = some x := e1
    have e2' : (List.replicate own.length none ++ frj.map fun j => (σ[j]?).join)[i]? = some (some v) := e2
    by_cases hi : i < own.length
    · rw [List.getElem?_append_left (by simpa using hi)] at e2'
      rw [List.getElem?_replicate] at e2'
      split at e2' <;> cases e2'
    · rw [List.getElem?_append_right (by simp; omega), List.length_replicate] at e2'
      rw [List.getElem?_append_right (by omega)] at e1'
      rw [List.getElem?_map] at e2'
      cases ej : frj[i - own.length]? with
      | none => rw [ej] at e2'; cases e2'
      | some j =>
        rw [ej] at e2'
        have e2'' : (σ[j]?).join = some v := by simpa using e2'
        have e4 : σ[j]? = some (some v) := by
          cases q : σ[j]? with
          | none => rw [q] at e2''; cases e2''
          | some o => rw [q] at e2''; simpa using e2''
        have e5 := (sc.frN _ j ej).trans e1'
        obtain ⟨hm, hlk⟩ := sc.frF x (List.mem_of_getElem? e1')
        obtain ⟨m, hnL, hl⟩ := I.loc
        have hv : Vis X.env.scope x := by
          rcases sc.free (x, .free) hm rfl with z | z
          · exact .inr (.inl z)
          · exact .inr (.inr z)
        obtain ⟨u, r, lk⟩ := hl j x v e5 e4 hv
        refine ⟨u, r, .inr ?_⟩
        obtain ⟨c, hc, hc'⟩ := sc.lookF ok hm
        have cellOk : h₄.IsCell c (some u) := by
          rcases lk with ⟨z, _⟩ | ⟨_, c', hx, ⟨o, ho, hd⟩⟩
          · exfalso
            have z' : X.env.scope.names.lookup x = some .local := z
            rcases sc.free (x, .free) hm rfl with q | q
            · rw [show X.env.scope.names.lookup x = some .cell from q] at z'; cases z'
            · rw [show X.env.scope.names.lookup x = some .free from q] at z'; cases z'
          · rw [hc'] at hx; cases hx
            exact ⟨o, k _ o ho, hd⟩
        refine ⟨?_, c, hc, cellOk⟩
        have e3' : Vis (relabel scope X.env) x := e3
        rcases e3' with z | z | z
        · exfalso
          rcases lookup_relabel_mem z with q | ⟨q, _⟩
          · have := sc.names _ q rfl
            rw [show scope.names.lookup x = some .local from this] at hlk
            cases hlk
          · cases q
        · exact .inl z
        · exact .inr z
  · intro x c e
    obtain ⟨v, o, ho, hd⟩ := I.cell x c (sc.look ok e).1
    exact ⟨v, o, k _ o ho, hd⟩
  · intro x c e
    exact I.freeC x c (sc.look ok e).1
  · show (List.replicate own.length none ++ frj.map fun j => (σ[j]?).join).length = (own ++ frn).length
    simp [sc.frl]
end
theorem codeAny_compLoop_any {prog : Program} {w : World} {A : Around} {R : Result → Shared → Prop} {s : Shared} {elt target iter : Expr} {ifs : List Expr} {scope : Scope} {pos : Pos} {it acc : Value} {env : Env} (I : Nat → Shared → Prop)
    (turn : ∀ n s, I n s → wpAny (model prog w) A (pyNext it) (fun r s₁ => match r with
      | none => R (.ok .next) s₁
      | some v => wpAny (model prog w) A (letOwnedTupleGo target it v) (fun _ s₁' => wpAny (model prog w) A (assign target env v) (fun _ s₂ =>
          wpAny (model prog w) A (forIn ifs true fun c r => if r = true then do let ok ← isTrue c env (eval c env); pure (ForInStep.yield ok) else pure (ForInStep.yield r)) (fun ok s₃ =>
            if ok = true then wpAny (model prog w) A (eval elt env) (fun x s₄ =>
              wpAny (model prog w) A (call (.builtin "list.append") [acc, x]) (fun _ s₅ => ∃ m, m < n ∧ I m s₅) (fun _ _ => False) s₄) (fun _ _ => False) s₃
            else ∃ m, m < n ∧ I m s₃) (fun _ _ => False) s₂) (fun _ _ => False) s₁') (fun _ _ => False) s₁) (fun _ _ => False) s)
    (n : Nat) (h : I n s) :
    codeAny (model prog w) A (.compLoop (.ListComp elt [⟨target, iter, ifs, 0⟩] scope pos) 0 it acc env) R s := by
  refine codeAny_loop rfl I (fun n s hI => ?_) n h
  show wpAny _ A ((compTurn (.ListComp elt [⟨target, iter, ifs, 0⟩] scope pos) 0 it acc env).onRaise (fun x => do noteFrame x env; theTreesLotGoes x)) _ _ s
  refine wpAny_noted ?_
  rw [compTurn_list]
  refine wpAny_bind (wpAny_standAt (wpAny_bind (wpAny_mono (turn n s hI) (fun r s₁ h₁ => ?_) fun _ _ h' => h'.elim)))
  cases r with
  | none => exact wpAny_pure h₁
  | some v =>
    refine wpAny_bind (wpAny_mono h₁ (fun _ s₁' h₁' => ?_) fun _ _ h' => h'.elim)
    refine wpAny_bind (wpAny_mono h₁' (fun _ s₂ h₂ => wpAny_bind (wpAny_mono h₂ (fun ok s₃ h₃ => ?_) fun _ _ h' => h'.elim)) fun _ _ h' => h'.elim)
    cases ok with
    | false => exact wpAny_pure ⟨rfl, h₃⟩
    | true =>
      exact wpAny_bind (wpAny_bind (wpAny_mono h₃ (fun x s₄ h₄ => wpAny_bind (wpAny_mono h₄ (fun _ s₅ h₅ => wpAny_pure (wpAny_pure ⟨rfl, h₅⟩)) fun _ _ h' => h'.elim)) fun _ _ h' => h'.elim))
def PIfs (X : Cx) (ifs : List Expr) (t : TT) : Prop :=
  ∀ (pins : List (Addr × Obj)) (s : Shared) (σ : St) (H : Hp) (Q : Bool → Hp → Prop), Inv X pins σ H s → t σ H Q →
    wpAny (model X.prog X.w) X.A (forIn ifs true fun c r => if r = true then do let ok ← isTrue c X.env (eval c X.env); pure (ForInStep.yield ok) else pure (ForInStep.yield r)) (TP X pins σ Q) X.xe s
def tTrue : TT := fun _ H Q => Q true H
theorem pifs_nil {X : Cx} : PIfs X [] tTrue := fun _ _ _ H _ I h => wpAny_tests_nil ⟨H, I, h⟩
theorem pifs_one {X : Cx} {c : Expr} {t : TT} (h : PT X c t) : PIfs X [c] t := fun pins s σ H Q I hq => wpAny_tests_one (h pins s σ H Q I hq)
def cLoop (J : It) (g : TG) (tt : TT) (te : TE) (D : Addr) (σ : St) (H : Hp) (R : Hp → Prop) : Prop :=
  ∃ W : Nat → Nat → St → Hp → Prop, (∃ m, W 0 m σ H) ∧ ∀ i m σ H, W i m σ H → (J.stop i H ∧ R H) ∨ (J.go i H ∧ ∃ N : St → Hp → Prop, (∀ σ' H', N σ' H' → ∃ m', m' < m ∧ W (i + 1) m' σ' H') ∧
    ∀ x H', J.yld i H x H' → g x σ H' fun σ2 H2 => tt σ2 H2 fun b H3 => if b = true then te σ2 H3 fun y H4 => ∃ ys, H4 D = some (.lst ys) ∧ ys.length < sizeLine ∧ N σ2 (upd H4 D (.lst (ys ++ [y]))) else N σ2 H3)
section
variable {X : Cx} {scope : Scope} {own frn : List Str} {frj : List Nat} {elt tg iter : Expr} {ifs : List Expr} {pos : Pos} {g : TG} {tt : TT} {te : TE}
theorem comp_block {pins : List (Addr × Obj)} {σ : St} {H : Hp} {s : Shared} {J : It} {fp : List Addr} {it : Addr} {tn : Nat → Heap → Prop} {R : Addr → Hp → Prop} {RR : Value → Addr → Result → Shared → Prop} {E : Value → Shared → Prop}
    (sc : CompScope X scope own frn frj) (hc : X.calm = true)
    (hg : ∀ C s₃ H₃ fp, PG (cxComp X own frn scope C s₃ H₃ fp) tg g) (ht : ∀ C s₃ H₃ fp, PIfs (cxComp X own frn scope C s₃ H₃ fp) ifs tt) (he : ∀ C s₃ H₃ fp, PE (cxComp X own frn scope C s₃ H₃ fp) elt te)
    (I : Inv X pins σ H s) (T : Turn X.prog X.w X.K tg J fp it tn) (st : tn 0 s.heap) (hfp : ∀ b ∈ fp, FpOk X pins H b)
    (h : ∀ D, H D = none → cLoop J g tt te D (startC own frj σ) (upd H D (.lst [])) (R D))
    (hRR : ∀ D C H' s' m, Inv X pins σ H' s' → s.heap.objs.size ≤ C → s'.heap.Ns C m → H' C = none → R D H' → RR (.ref D) C (.ok .next) s') :
    wpAny (model X.prog X.w) X.A (newList []) (fun acc s₃ => wpAny (model X.prog X.w) X.A (newFunctionEnv scope X.env.globals (clOf X.env scope.names []) [] X.env.qual none .none (some X.env)) (fun cenv s₄ =>
      codeAny (model X.prog X.w) X.A (.compStart (.ListComp elt [⟨tg, iter, ifs, 0⟩] scope pos) 0 (.ref it) acc { cenv with scope := relabel scope X.env }) (RR acc cenv.locals) s₄) E s₃) E s := by
  refine wpAny_newObj_type (wpAny_newFunctionEnv sc.cell (by intro y hy; simp at hy) (fun h₁ hns₁ hsb₁ => ?_) sc.kind)
  dsimp only at hns₁ hsb₁ ⊢
  have hD := I.fresh
  have I3 : Inv X pins σ (upd H s.heap.objs.size (.lst [])) { s with heap := s.heap.push { cls := .type "list", dict := none, data := .seq ([] : List Value).toArray } } := I.lnew (its := []) (t' := s.toks) .nil (Nat.zero_le _)
  have hsz : (s.heap.push { cls := .type "list", dict := none, data := .seq ([] : List Value).toArray }).objs.size = s.heap.objs.size + 1 := Heap.size_push ..
  generalize hs3 : ({ s with heap := s.heap.push { cls := .type "list", dict := none, data := .seq ([] : List Value).toArray } } : Shared) = s₃ at I3
  have hh3 : s.heap.push { cls := .type "list", dict := none, data := .seq ([] : List Value).toArray } = s₃.heap := by rw [← hs3]
  rw [hh3] at hns₁ hsb₁ hsz ⊢
  have hfl : ∀ b ∈ fp, b < s.heap.objs.size := fun b hb => by
    obtain ⟨o, e, _⟩ := T.obj 0 _ st b hb
    exact Heap.lt_size e
  have hfp3 : ∀ b ∈ fp, FpOk X pins (upd H s.heap.objs.size (.lst [])) b := fun b hb => by
    obtain ⟨f0, f⟩ := hfp b hb
    exact ⟨by rw [upd_ne (Nat.ne_of_lt (hfl b hb))]; exact f0, f⟩
  have hfl3 : ∀ b ∈ fp, b < s₃.heap.objs.size := fun b hb => by rw [hsz]; exact Nat.lt_succ_of_lt (hfl b hb)
  have k4 : ∀ b o, s₃.heap.get? b = some o → h₁.get? b = some o := fun b o e => (hsb₁.2 b (Nat.ne_of_lt (Heap.lt_size e))).trans (Heap.get?_push_of_some _ e)
  have k3 : ∀ b o, s.heap.get? b = some o → s₃.heap.get? b = some o := fun b o e => by rw [← hh3]; exact Heap.get?_push_of_some _ e
  have hnone : (fun x : Str => List.lookup x ([] : List (Str × Value)).reverse) = fun _ => none := by funext x; rfl
  have hns₁' : h₁.Ns s₃.heap.objs.size fun _ => none := by
    have q := hns₁
    first
      | exact q
      | (rw [hnone] at q; exact q)
  have I4 := I3.block (own := own) (tk := s.toks + ([] : List (Str × Value)).length) sc hfp3 hfl3 k4 hns₁'
  have st4 : tn 0 h₁ := T.keep _ _ _ st fun b hb o e => k4 b o (k3 b o e)
  generalize hX : cxComp X own frn scope s₃.heap.objs.size s₃ (upd H s.heap.objs.size (.lst [])) fp = X' at I4
  have hXp : X'.prog = X.prog := by rw [← hX]; rfl
  have hXw : X'.w = X.w := by rw [← hX]; rfl
  have hXK : X'.K = X.K := by rw [← hX]; rfl
  have hXA : X'.A = X.A := by rw [← hX]; rfl
  have hXc : X'.calm = true := by rw [← hX]; exact hc
  have hXx : X'.xe = fun _ _ => False := by rw [← hX]; rfl
  have hXe : X'.env = compEnvC scope (clOf X.env scope.names []) s₃.heap.objs.size X.env := by rw [← hX]; rfl
  have hg' : PG X' tg g := by rw [← hX]; exact hg _ _ _ _
  have ht' : PIfs X' ifs tt := by rw [← hX]; exact ht _ _ _ _
  have he' : PE X' elt te := by rw [← hX]; exact he _ _ _ _
  have ofX : ∀ {H' : Hp} {s' : Shared} {σ' : St}, Inv X' [] σ' H' s' → Inv X pins σ H' s' ∧ (∃ m, s'.heap.Ns s₃.heap.objs.size m) ∧ H' s₃.heap.objs.size = none := by
    intro H' s' σ' I'
    subst hX
    refine ⟨I3.call' (ch := fp) I'.os I'.base I'.hok I'.bare fun b hb => ?_, let ⟨m, hn, _⟩ := I'.loc; ⟨m, hn⟩, I'.free⟩
    obtain ⟨f0, f1, f2, f3, f4, f5⟩ := hfp3 b hb
    exact ⟨f3, f1, f4, f5⟩
  have stat : ∀ {H' : Hp}, (∀ b ∈ fp, H' b = none) → ∀ b ∈ fp, FpOk X' [] H' b := by
    intro H' hn b hb
    subst hX
    obtain ⟨a1, a2⟩ := I4.ok.exf b hb
    exact ⟨hn b hb, a1, I4.ok.exfs b hb, .inl hb, a2, fun p hp => by cases hp⟩
  obtain ⟨W, ⟨m0, w0⟩, turn⟩ := h s.heap.objs.size hD
  have loop : codeAny (model X.prog X.w) X.A (.compLoop (.ListComp elt [⟨tg, iter, ifs, 0⟩] scope pos) 0 (.ref it) (.ref s.heap.objs.size) X'.env) (RR (.ref s.heap.objs.size) s₃.heap.objs.size)
      { s₃ with heap := h₁, toks := s.toks + ([] : List (Str × Value)).length } := by
    refine codeAny_compLoop_any (fun n s' => ∃ i σ' H', Inv X' [] σ' H' s' ∧ tn i s'.heap ∧ (∀ b ∈ fp, H' b = none) ∧ W i n σ' H') ?_ m0 ⟨0, _, _, I4, st4, fun b hb => (hfp3 b hb).1, w0⟩
    rintro n s5 ⟨i, σ5, H5, I5, st5, fr5, w5⟩
    rw [← hXp, ← hXw, ← hXA]
    have hxe : ∀ {α : Type} {t : Sem α} {Q : α → Shared → Prop} {s : Shared}, wpAny (model X'.prog X'.w) X'.A t Q X'.xe s → wpAny (model X'.prog X'.w) X'.A t Q (fun _ _ => False) s := fun h => by rw [hXx] at h; exact h
    have T' : Turn X'.prog X'.w X'.K tg J fp it tn := by rw [hXp, hXw, hXK]; exact T
    rcases turn i n σ5 H5 w5 with ⟨stop, q⟩ | ⟨go, N, hN, step⟩
    · refine thn (T'.done X' rfl rfl rfl hXc i [] s5 σ5 H5 _ I5 (stat fr5) st5 stop) fun r s6 ⟨hr, I6⟩ => ?_
      subst hr
      obtain ⟨J1, ⟨m, J2⟩, J3⟩ := ofX I6
      exact hRR _ _ H5 s6 m J1 (by rw [hsz]; exact Nat.le_succ _) J2 J3 q
    · refine thn (T'.item X' rfl rfl rfl hXc i [] s5 σ5 H5 _ I5 (stat fr5) st5 go) fun r s6 ⟨u, hr, h6⟩ => ?_
      subst hr
      refine thn h6 fun _ s7 ⟨x, H7, I7, r7, y7, st7, fr7⟩ => ?_
      have I7' := I7.pinned (stat fr7) (T'.obj _ _ st7)
      have again : ∀ {s9 : Shared} {σ9 : St} {H9 : Hp}, Inv X' ([] ++ pinsAt fp s7.heap) σ9 H9 s9 → N σ9 H9 → ∃ m, m < n ∧ ∃ i σ' H', Inv X' [] σ' H' s9 ∧ tn i s9.heap ∧ (∀ b ∈ fp, H' b = none) ∧ W i m σ' H' := fun {s9 σ9 H9} I9 n9 => by
        obtain ⟨m', hm, w9⟩ := hN σ9 H9 n9
        refine ⟨m', hm, i + 1, σ9, H9, I9.unpinned, T'.keep _ _ _ st7 fun b hb o e => (I9.pin (b, o) (List.mem_append_right _ (List.mem_append_right _ (mem_pinsAt hb e)))).1, fun b hb => ?_, w9⟩
        obtain ⟨o, e, d⟩ := T'.obj _ _ st7 b hb
        exact (I9.pin (b, o) (List.mem_append_right _ (List.mem_append_right _ (mem_pinsAt hb e)))).2.1
      refine thn (hxe (hg' _ s7 σ5 H7 x u _ I7' r7 (step x H7 y7))) fun _ s8 ⟨σ8, H8, I8, q8⟩ => ?_
      refine thn (hxe (ht' _ s8 σ8 H8 _ I8 q8)) fun b s9 ⟨H9, I9, q9⟩ => ?_
      cases b with
      | false => exact again I9 (by simpa using q9)
      | true =>
        rw [if_pos rfl] at q9
        refine thn (hxe (he' _ s9 σ8 H9 _ I9 q9)) fun y s10 ⟨v, H10, I10, r10, q10⟩ => ?_
        obtain ⟨ys, e10, z10, n10⟩ := q10
        refine thn (hxe (mt_append _ s10 σ8 H10 (.ref s.heap.objs.size) [v] (.ref s.heap.objs.size) [y] (fun _ H' => H' = upd H10 s.heap.objs.size (.lst (ys ++ [v]))) I10 rfl (.cons r10 .nil) ⟨_, ys, v, rfl, rfl, e10, z10, rfl⟩)) fun u s11 ⟨v', H11, I11, _, e11⟩ => ?_
        subst e11
        exact again I11 n10
  rw [hXe] at loop
  have e4 : ({ s with heap := h₁, toks := s.toks + ([] : List (Str × Value)).length } : Shared) = { s₃ with heap := h₁, toks := s.toks + ([] : List (Str × Value)).length } := by rw [← hs3]
  rw [e4]
  exact codeAny_compStart_list loop (T.self _ 0 _ _ _ st4 loop)
end
end L2
set_option Elab.async false
set_option linter.all false
set_option maxRecDepth 100000
set_option maxHeartbeats 4000000
namespace L2
open PySem PySem.Spec PyProof.Rows
def tComp (own : List Str) (frj : List Nat) (wi : TI) (g : TG) (tt : TT) (te : TE) : TE := fun σ H Q => wi σ H fun J H1 => ∀ D, H1 D = none → cLoop J g tt te D (startC own frj σ) (upd H1 D (.lst [])) fun H' => Q (.ref D) H'
section
variable {X : Cx} {scope : Scope} {own frn : List Str} {frj : List Nat} {elt tg iter : Expr} {ifs : List Expr} {pos : Pos} {wi : TI} {g : TG} {tt : TT} {te : TE}
theorem pe_comp (sc : CompScope X scope own frn frj) (hc : X.calm = true) (hi : PI X tg iter wi)
    (hg : ∀ C s₃ H₃ fp, PG (cxComp X own frn scope C s₃ H₃ fp) tg g) (ht : ∀ C s₃ H₃ fp, PIfs (cxComp X own frn scope C s₃ H₃ fp) ifs tt) (he : ∀ C s₃ H₃ fp, PE (cxComp X own frn scope C s₃ H₃ fp) elt te)
    (hs : ∀ x, foldedSetIterable iter X.env x = pure x := by intro _; rfl) : PE X (.ListComp elt [⟨tg, iter, ifs, 0⟩] scope pos) (tComp own frj wi g tt te) := by
  intro pins s σ H Q I h
  rw [eval_ListComp]
  refine wpAny_comprehension_free (use := none) rfl hs (closureFor_clOf (sc.cells I.ok)) sc.kind sc.names (thn (hi pins s σ H _ I h) fun v s1 h1 => thn h1 fun itv s2 h2 => ?_)
  obtain ⟨it, fp, tn, J, H2, e, I2, T, st2, f2, q⟩ := h2
  subst e
  refine comp_block (RR := fun acc C => compPost (model X.prog X.w) X.A X.xe none (EP X pins σ Q) acc C) (R := fun D H' => Q (.ref D) H') sc hc hg ht he I2 T st2 f2 q ?_
  intro D C H' s' m I' hC hn hf hq
  refine ⟨m, hn, fun h' sb => ?_⟩
  obtain ⟨f0, f1, f2, f3, f4, f5⟩ := I2.fpOk (H' := H') hC hf
  exact ⟨.ref D, H', I'.turned (t' := s'.toks) (it := C) (fun b o hb e => (sb.2 b hb).trans e) f0 f1 f3 f4 f5, rfl, hq⟩
theorem ps_setComp {i : Nat} {y : Str} {py spos : Pos} (sc : CompScope X scope own frn frj) (hc : X.calm = true) (hi : PI X tg iter wi)
    (hg : ∀ C s₃ H₃ fp, PG (cxComp X own frn scope C s₃ H₃ fp) tg g) (ht : ∀ C s₃ H₃ fp, PIfs (cxComp X own frn scope C s₃ H₃ fp) ifs tt) (he : ∀ C s₃ H₃ fp, PE (cxComp X own frn scope C s₃ H₃ fp) elt te)
    (hN : X.N.Nodup) (hi' : X.N[i]? = some y) (hx : X.env.scope.names.lookup y = some .local)
    (hsw : swapsWith (.ListComp elt [⟨tg, iter, ifs, 0⟩] scope pos) (some (.Name y py)) spos.line X.env = pure true := by rfl)
    (hs : ∀ x, foldedSetIterable iter X.env x = pure x := by intro _; rfl) : PS X (.Assign [.Name y py] (.ListComp elt [⟨tg, iter, ifs, 0⟩] scope pos) spos) (tAsg (tComp own frj wi g tt te) (gName i)) := by
  intro pins s σ H D I h
  rw [exec_Assign_Name_used _ _ _ _ hsw]
  refine wpAny_bind (wpAny_standAt (wpAny_bind ?_))
  show wpAny _ X.A (do let _ ← comprehension (.ListComp elt [⟨tg, iter, ifs, 0⟩] scope pos) scope X.env _ (newList []) false (eval iter X.env) (some (assign (.Name y py) X.env))) _ _ s
  refine wpAny_bind (wpAny_mono (wpAny_comprehension_free (use := some (assign (.Name y py) X.env)) (Q := fun _ s' => SP X pins D .next s') rfl hs (closureFor_clOf (sc.cells I.ok)) sc.kind sc.names
    (thn (hi pins s σ H _ I h) fun v s1 h1 => thn h1 fun itv s2 h2 => ?_)) (fun _ s' hq => wpAny_pure (wpAny_pure hq)) fun _ _ e => e)
  obtain ⟨it, fp, tn, J, H2, e, I2, T, st2, f2, q⟩ := h2
  subst e
  refine comp_block (RR := fun acc C => compPost (model X.prog X.w) X.A X.xe (some (assign (.Name y py) X.env)) (fun _ s' => SP X pins D .next s') acc C) (R := fun E H' => D.nx (σ.set i (some (.ref E))) H') sc hc hg ht he I2 T st2 f2 q ?_
  intro E C H' s' m I' hC hn hf hq
  show wpAny _ X.A (assign (.Name y py) X.env (.ref E)) _ _ _
  obtain ⟨f0, f1, f2, f3, f4, f5⟩ := I2.fpOk (H' := H') hC hf
  refine wpAny_assign_Name (store_ok2 I' hN hi' (.inl hx) (v := .ref E) (u := .ref E) rfl (fun s3 I3 ⟨a, sb, ha⟩ => ?_) (.inr hx))
  have hCa : C ≠ a := by
    rcases ha with z | z
    · rw [z]; exact f1
    · exact (f4 y a z).symm
  refine ⟨m, hn.sameBut sb hCa, fun h' sb' => ?_⟩
  exact ⟨_, H', I3.turned (t' := s3.toks) (it := C) (fun b o hb e => (sb'.2 b hb).trans e) f0 f1 f3 f4 f5, hq⟩
end
theorem comp_range {lo : Int} {n : Nat} {g : TG} {tt : TT} {te : TE} {D : Addr} {σ : St} {H : Hp} {R : Hp → Prop} (Pv : Nat → St → Hp → Prop) (h0 : Pv 0 σ H)
    (hs : ∀ i σ H, i < n → Pv i σ H → g (.int (lo + i)) σ H fun σ2 H2 => tt σ2 H2 fun b H3 => if b = true then te σ2 H3 fun y H4 => ∃ ys, H4 D = some (.lst ys) ∧ ys.length < sizeLine ∧ Pv (i + 1) σ2 (upd H4 D (.lst (ys ++ [y]))) else Pv (i + 1) σ2 H3)
    (hd : ∀ σ H, Pv n σ H → R H) : cLoop (Itr lo n) g tt te D σ H R := by
  refine ⟨fun i m σ H => m = n - i ∧ i ≤ n ∧ Pv i σ H, ⟨n, by simp, Nat.zero_le _, h0⟩, ?_⟩
  rintro i m σ H ⟨rfl, hi, p⟩
  by_cases hlt : i < n
  · refine .inr ⟨hlt, Pv (i + 1), fun σ' H' p' => ⟨n - (i + 1), by omega, rfl, hlt, p'⟩, fun x H' y => ?_⟩
    obtain ⟨e, y⟩ := y
    subst e y
    exact hs i σ _ hlt p
  · have e : i = n := by omega
    subst e
    exact .inl ⟨Nat.le_refl _, hd σ H p⟩
theorem comp_list {K : PySem.W.Frag} {a : Addr} {xs : List V} {g : TG} {tt : TT} {te : TE} {D : Addr} {σ : St} {H : Hp} {R : Hp → Prop} (Pv : Nat → St → Hp → Prop) (h0 : Pv 0 σ H) (hl : ∀ i σ H, i ≤ xs.length → Pv i σ H → SqL K H a xs)
    (hs : ∀ i x σ H, xs[i]? = some x → Pv i σ H → g x σ H fun σ2 H2 => tt σ2 H2 fun b H3 => if b = true then te σ2 H3 fun y H4 => ∃ ys, H4 D = some (.lst ys) ∧ ys.length < sizeLine ∧ Pv (i + 1) σ2 (upd H4 D (.lst (ys ++ [y]))) else Pv (i + 1) σ2 H3)
    (hd : ∀ σ H, Pv xs.length σ H → R H) : cLoop (Itl K a) g tt te D σ H R := by
  refine ⟨fun i m σ H => m = xs.length - i ∧ i ≤ xs.length ∧ Pv i σ H, ⟨xs.length, by simp, Nat.zero_le _, h0⟩, ?_⟩
  rintro i m σ H ⟨rfl, hi, p⟩
  have q := hl i σ H hi p
  by_cases hlt : i < xs.length
  · refine .inr ⟨⟨xs, xs[i], q, by simp [hlt]⟩, Pv (i + 1), fun σ' H' p' => ⟨xs.length - (i + 1), by omega, rfl, hlt, p'⟩, fun x H' y => ?_⟩
    obtain ⟨e, y⟩ := y
    subst e
    exact hs i x σ _ (y xs q) p
  · have e : i = xs.length := by omega
    subst e
    exact .inl ⟨⟨xs, q, Nat.le_refl _⟩, hd σ H p⟩
theorem comp_tup {K : PySem.W.Frag} {a : Addr} {xs : List V} {g : TG} {tt : TT} {te : TE} {D : Addr} {σ : St} {H : Hp} {R : Hp → Prop} (Pv : Nat → St → Hp → Prop) (h0 : Pv 0 σ H) (hl : ∀ i σ H, i ≤ xs.length → Pv i σ H → SqT K H a xs)
    (hs : ∀ i x σ H, xs[i]? = some x → Pv i σ H → g x σ H fun σ2 H2 => tt σ2 H2 fun b H3 => if b = true then te σ2 H3 fun y H4 => ∃ ys, H4 D = some (.lst ys) ∧ ys.length < sizeLine ∧ Pv (i + 1) σ2 (upd H4 D (.lst (ys ++ [y]))) else Pv (i + 1) σ2 H3)
    (hd : ∀ σ H, Pv xs.length σ H → R H) : cLoop (Itt K a) g tt te D σ H R := by
  refine ⟨fun i m σ H => m = xs.length - i ∧ i ≤ xs.length ∧ Pv i σ H, ⟨xs.length, by simp, Nat.zero_le _, h0⟩, ?_⟩
  rintro i m σ H ⟨rfl, hi, p⟩
  have q := hl i σ H hi p
  by_cases hlt : i < xs.length
  · refine .inr ⟨⟨xs, xs[i], q, by simp [hlt]⟩, Pv (i + 1), fun σ' H' p' => ⟨xs.length - (i + 1), by omega, rfl, hlt, p'⟩, fun x H' y => ?_⟩
    obtain ⟨e, y⟩ := y
    subst e
    exact hs i x σ _ (y xs q) p
  · have e : i = xs.length := by omega
    subst e
    exact .inl ⟨⟨xs, q, Nat.le_refl _⟩, hd σ H p⟩
end L2
set_option Elab.async false
set_option linter.all false
set_option maxRecDepth 100000
set_option maxHeartbeats 4000000
namespace L2
open PySem PySem.Spec PyProof.Rows
section
variable {X : Cx}
def CDivB (i j : Int) : Prop := 0 < j ∧ j.natAbs.log2 < 9000
theorem op_fdivB : OpR X (binaryOp .FloorDiv) (rI CDivB fun i j => .int (i / j)) := opI fun i j _ _ _ _ _ hc q => by
  obtain ⟨h0, h1⟩ := hc
  refine floordiv_int (by omega) ?_ (.inl (PyProof.noPylong_of_log2 h1))
  rw [Int.fdiv_eq_ediv_of_nonneg _ (by omega)]
  exact q
theorem call_isinst : CallR X (.builtin "isinstance") (fun xs H Q => ∃ (x : V) (t : Value) (T : String) (b : Bool), xs = [x, .ty T] ∧ TyOf X.K H x t ∧ PySem.W.kitOne X.K t (.type T) = some b ∧ Q (.bl b) H) := by
  intro pins s σ H xs us Q I r h
  obtain ⟨x, t, T, b, rfl, ty, e, q⟩ := h
  obtain ⟨u, w', rfl, rx, rT⟩ := vals2 r
  cases (show w' = Value.type T from rT)
  exact isinst_ok I rx ty e fun tk => ⟨.bl b, H, I.tok tk, rfl, q⟩
theorem kit_tt {K : PySem.W.Frag} : PySem.W.kitOne K (.type "tuple") (.type "tuple") = some true := by rfl
theorem op_cat0 : OpR X (binaryOp .Add) (fun x y H Q => ∃ (a b : Addr) (ys : List V), x = .ref a ∧ y = .ref b ∧ SqT X.K H a [] ∧ SqT X.K H b ys ∧ Q (.ref b) H) := by
  intro pins s σ H x y v u Q I rx ry h
  obtain ⟨a, b, ys, rfl, rfl, ha, hb, q⟩ := h
  cases rx
  cases ry
  obtain ⟨its, r1, p1, _⟩ := I.tuple ha
  obtain ⟨its2, r2, p2, _⟩ := I.tuple hb
  cases r1
  obtain ⟨⟨cls, dd, data, sl⟩, ho, hc, n, hd⟩ := id p1
  obtain ⟨⟨cls2, dd2, data2, sl2⟩, ho2, hc2, n2, hd2⟩ := id p2
  simp only at hc hd hc2 hd2
  subst hc hd hc2 hd2
  exact concat_meets ⟨_, ho, rfl⟩ ⟨_, ho2, rfl⟩ noFill_tuple_add seq_tuple_add PySem.F.slot_tuple_add PySem.F.entry_tuple_add (PySem.F.args_tuple_add_2 _ _)
    (tuple_addW0 a b #[] its2.toArray n n2 dd dd2 sl sl2 rfl) ⟨ho, ho2, ⟨.ref b, H, I, rfl, q⟩⟩
def rCatN (K : PySem.W.Frag) : R2 := fun x y H Q => ∃ (a b : Addr) (xs ys : List V), x = .ref a ∧ y = .ref b ∧ SqT K H a xs ∧ SqT K H b ys ∧ ys ≠ [] ∧ xs.length + ys.length ≤ sizeLine ∧
  (xs = [] → Q (.ref b) H) ∧ (xs ≠ [] → ∀ p, H p = none → Q (.ref p) (upd H p (.tup (xs ++ ys))))
theorem op_catN : OpR X (binaryOp .Add) (rCatN X.K) := by
  intro pins s σ H x y v u Q I rx ry h
  obtain ⟨a, b, xs, ys, rfl, rfl, ha, hb, hy, hz, q1, q2⟩ := h
  by_cases hx : xs = []
  · subst hx
    exact op_cat0 pins s σ H _ _ v u Q I rx ry ⟨a, b, ys, rfl, rfl, ha, hb, q1 rfl⟩
  · exact op_catT pins s σ H _ _ v u Q I rx ry ⟨a, b, xs, ys, rfl, rfl, ha, hb, hx, hz, fun z => absurd z hy, fun _ => q2 hx⟩
end
end L2
namespace L2
open PySem PySem.Spec PyProof.Rows
def compCheck (scope esc : Scope) (N own frn : List Str) (frj : List Nat) : Bool :=
  scope.names.all (fun y => y.2 != .cell) && scope.kind == .function && scope.names.all (fun y => y.2 != .local || scope.names.lookup y.1 == some .local)
  && scope.names.all (fun y => y.2 != .free || (esc.names.lookup y.1 == some .cell || esc.names.lookup y.1 == some .free))
  && frj.length == frn.length && (List.range frj.length).all (fun i => (frj[i]?).bind (fun j => N[j]?) == frn[i]?)
  && frn.all (fun x => scope.names.contains (x, NameKind.free) && scope.names.lookup x == some .free)
theorem CompScope.mk' {X : Cx} {scope esc : Scope} {N own frn : List Str} {frj : List Nat} (hs : X.env.scope = esc) (hN : X.N = N) (h : compCheck scope esc N own frn frj = true) : CompScope X scope own frn frj := by
  unfold compCheck at h
  simp only [Bool.and_eq_true, List.all_eq_true, bne_iff_ne, beq_iff_eq, Bool.or_eq_true, List.contains_iff_mem] at h
  obtain ⟨⟨⟨⟨⟨⟨h1, h2⟩, h3⟩, h4⟩, h5⟩, h6⟩, h7⟩ := h
  refine ⟨h1, h2, fun y hy hl => ?_, fun y hy hf => ?_, h5, fun i j e => ?_, fun x hx => h7 x hx⟩
  · rcases h3 y hy with z | z
    · exact absurd hl z
    · exact z
  · rw [hs]
    rcases h4 y hy with z | z
    · exact absurd hf z
    · exact z
  · have hi : i < frj.length := (List.getElem?_eq_some_iff.mp e).1
    have q := h6 i (List.mem_range.mpr hi)
    rw [e] at q
    rw [hN]
    exact q
def KB (d : Addr) (H H' : Hp) : Prop := ∀ b o, H b = some o → b ≠ d → H' b = some o
theorem KB.refl (d : Addr) (H : Hp) : KB d H H := fun _ _ h _ => h
theorem KB.trans {d : Addr} {H H1 H2 : Hp} (a : KB d H H1) (b : KB d H1 H2) : KB d H H2 := fun c o h n => b c o (a c o h n) n
theorem KB.write {d : Addr} {H : Hp} {o : HO} : KB d H (upd H d o) := fun b o h n => by rw [upd_ne n]; exact h
theorem Same.kb {d : Addr} {H H' : Hp} (s : Same H H') : KB d H H' := fun b o h _ => s b o h
theorem Same.new {H : Hp} {p : Addr} {o : HO} (h : H p = none) : Same H (upd H p o) := fun b u e => by rw [upd_ne (ne_of_none e h)]; exact e
theorem Same.kbn {d : Addr} {H H1 H2 : Hp} (s : Same H H1) (h : H d = none) (k : KB d H1 H2) : Same H H2 := fun b o e => k b o (s b o e) (ne_of_none e h)
theorem KB.seq {K : PySem.W.Frag} {d : Addr} {H H' : Hp} {a : Addr} {xs : List V} (e : KB d H H') (n : a ≠ d) (h : SqL K H a xs) : SqL K H' a xs := by
  rcases h with (h | ⟨o, h⟩) | h
  · exact .inl (.inl (e _ _ h n))
  · exact .inl (.inr ⟨o, e _ _ h n⟩)
  · exact .inr h
theorem Same.seqT {K : PySem.W.Frag} {H H' : Hp} {a : Addr} {xs : List V} (e : Same H H') (h : SqT K H a xs) : SqT K H' a xs := by
  rcases h with (h | ⟨o, h⟩) | h
  · exact .inl (.inl (e _ _ h))
  · exact .inl (.inr ⟨o, e _ _ h⟩)
  · exact .inr h
def KTu (H H' : Hp) : Prop := ∀ b xs, H b = some (.tup xs) → H' b = some (.tup xs)
theorem KTu.trans {H H1 H2 : Hp} (a : KTu H H1) (b : KTu H1 H2) : KTu H H2 := fun c o h => b c o (a c o h)
theorem Same.kt {H H' : Hp} (s : Same H H') : KTu H H' := fun b xs h => s b _ h
theorem KTu.lst {H : Hp} {d : Addr} {xs : List V} {o : HO} (h : H d = some (.lst xs)) : KTu H (upd H d o) := fun b ys e => by
  rw [upd_ne (ne_of e h (fun z => nomatch z))]; exact e
theorem KTu.kb {d : Addr} {xs : List V} {H H' : Hp} (h : H d = some (.lst xs)) (k : KB d H H') : KTu H H' := fun b ys e => k b _ e (ne_of e h (fun z => nomatch z))
def Tups (H : Hp) (ps : List Addr) (ls : List (List Int)) : Prop := Paired (fun p (l : List Int) => H p = some (.tup (l.map V.int))) ps ls
theorem Tups.keep {H H' : Hp} {ps : List Addr} {ls : List (List Int)} (t : Tups H ps ls) (k : KTu H H') : Tups H' ps ls := Paired.mapP t fun _ _ h => k _ _ h
theorem Tups.get {H : Hp} : ∀ {ps : List Addr} {ls : List (List Int)} {i : Nat} {p : Addr}, Tups H ps ls → ps[i]? = some p → ∃ l, ls[i]? = some l ∧ H p = some (.tup (l.map V.int))
  | _, _, _, _, .nil, e => by simp at e
  | _, _, 0, _, .cons r _, e => by simp at e; subst e; exact ⟨_, rfl, r⟩
  | _, _, i + 1, p, .cons _ t, e => by
    obtain ⟨u, h1, h2⟩ := Tups.get (i := i) (p := p) t (by simpa using e)
    exact ⟨u, by simpa using h1, h2⟩
theorem paired_append {α β : Type} {F : α → β → Prop} : ∀ {xs ys : List α} {us ws : List β}, Paired F xs us → Paired F ys ws → Paired F (xs ++ ys) (us ++ ws)
  | _, _, _, _, .nil, s => s
  | _, _, _, _, .cons r t, s => .cons r (paired_append t s)
end L2
namespace L2
open PySem
theorem bt_len : bootBuiltins "len" = some (.builtin "len") := by decide +kernel
theorem bt_min : bootBuiltins "min" = some (.builtin "min") := by decide +kernel
theorem bt_isinstance : bootBuiltins "isinstance" = some (.builtin "isinstance") := by decide +kernel
theorem bt_sorted : bootBuiltins "sorted" = some (.builtin "sorted") := by decide +kernel
theorem bt_list : bootBuiltins "list" = some (.type "list") := by decide +kernel
theorem bt_tuple : bootBuiltins "tuple" = some (.type "tuple") := by decide +kernel
theorem bt_int : bootBuiltins "int" = some (.type "int") := by decide +kernel
theorem bt_set : bootBuiltins "set" = some (.type "set") := by decide +kernel
theorem bt_reversed : bootBuiltins "reversed" = some (.type "reversed") := by decide +kernel
end L2
namespace L2
open PySem PySem.Spec PyProof.Rows
def rLen (K : PySem.W.Frag) : List V → Hp → VK → Prop := fun xs H Q => ∃ x n, xs = [x] ∧ LenV K x H n ∧ Q (.int n) H
def rIsi (K : PySem.W.Frag) : List V → Hp → VK → Prop := fun xs H Q => ∃ (x : V) (t : Value) (T : String) (b : Bool), xs = [x, .ty T] ∧ TyOf K H x t ∧ PySem.W.kitOne K t (.type T) = some b ∧ Q (.bl b) H
section
variable {X : Cx}
theorem call_lenK (K : PySem.W.Frag) (hK : X.K = K := by rfl) : CallR X (.builtin "len") (rLen K) := by subst hK; exact call_len
theorem call_isiK (K : PySem.W.Frag) (hK : X.K = K := by rfl) : CallR X (.builtin "isinstance") (rIsi K) := by subst hK; exact call_isinst
theorem ix_listK (K : PySem.W.Frag) (hK : X.K = K := by rfl) : IxR X (rIxL K) := by subst hK; exact ix_list
theorem ix_tupK (K : PySem.W.Frag) (hK : X.K = K := by rfl) : IxR X (rIxT K) := by subst hK; exact ix_tup
theorem sl_listK (K : PySem.W.Frag) (hK : X.K = K := by rfl) : SlR X (rSlL K) := by subst hK; exact sl_list
theorem op_catNK (K : PySem.W.Frag) (hK : X.K = K := by rfl) : OpR X (binaryOp .Add) (rCatN K) := by subst hK; exact op_catN
theorem op_inK (K : PySem.W.Frag) (hK : X.K = K := by rfl) : OpR X (compareOp .In) (rIn K false) := by subst hK; exact op_in_seq
theorem op_notInK (K : PySem.W.Frag) (hK : X.K = K := by rfl) : OpR X (compareOp .NotIn) (rIn K true) := by subst hK; exact op_notIn_seq
def CPos (_ j : Int) : Prop := 0 < j
theorem cpos {i j : Int} (h : 0 < j) : CPos i j := h
theorem op_modP : OpR X (binaryOp .Mod) (rI CPos fun i j => .int (i % j)) := op_mod
end
end L2
namespace L2
theorem seq_rest {t u : TS} {D : Ends} {σ : St} {H : Hp} (Pv : St → Hp → Prop) (h1 : ∀ σ H, Pv σ H → u D σ H) (h2 : (∀ σ H, Pv σ H → u D σ H) → t { D with nx := u D } σ H) : tSeq t u D σ H := h2 h1
end L2
set_option Elab.async false
set_option linter.all false
set_option maxRecDepth 100000
set_option maxHeartbeats 4000000
namespace L2
open PySem PySem.Spec PyProof.Rows
inductive Dt where
  | non | bl (b : Bool) | int (i : Int) | str (x : Str) | tup (xs : List Dt) | lst (xs : List Dt)
mutual
def Dt.beq : Dt → Dt → Bool
  | .non, .non => true
  | .bl a, .bl b => a == b
  | .bl a, .int b => (if a then 1 else 0) == b
  | .int a, .bl b => a == (if b then 1 else 0)
  | .int a, .int b => a == b
  | .str a, .str b => a == b
  | .tup xs, .tup ys => Dt.beqs xs ys
  | .lst xs, .lst ys => Dt.beqs xs ys
  | _, _ => false
def Dt.beqs : List Dt → List Dt → Bool
  | [], [] => true
  | x :: xs, y :: ys => x.beq y && Dt.beqs xs ys
  | _, _ => false
end
mutual
def Dt.dep : Dt → Nat
  | .tup xs => Dt.deps xs + 1
  | .lst xs => Dt.deps xs + 1
  | _ => 0
def Dt.deps : List Dt → Nat
  | [] => 0
  | x :: xs => max x.dep (Dt.deps xs)
end
mutual
def DatAt (K : PySem.W.Frag) (H : Hp) : V → Dt → Prop
  | x, .non => x = .non
  | x, .bl b => x = .bl b
  | x, .int i => x = .int i
  | x, .str z => x = .str z
  | x, .tup ds => ∃ a xs, x = .ref a ∧ SqT K H a xs ∧ DatsAt K H xs ds
  | x, .lst ds => ∃ a xs, x = .ref a ∧ SqL K H a xs ∧ DatsAt K H xs ds
def DatsAt (K : PySem.W.Frag) (H : Hp) : List V → List Dt → Prop
  | [], [] => True
  | x :: xs, d :: ds => DatAt K H x d ∧ DatsAt K H xs ds
  | _, _ => False
end
theorem Dt.beq_refl (d : Dt) : d.beq d = true := by
  induction d using Dt.rec (motive_2 := fun xs => Dt.beqs xs xs = true) with
  | non => simp [Dt.beq]
  | bl b => simp [Dt.beq]
  | int b => simp [Dt.beq]
  | str b => simp [Dt.beq]
  | tup xs ih => simp [Dt.beq, ih]
  | lst xs ih => simp [Dt.beq, ih]
  | nil => simp [Dt.beqs]
  | cons x xs h1 h2 => simp [Dt.beqs, h1, h2]
theorem DatsAt.length {K : PySem.W.Frag} {H : Hp} : ∀ {xs : List V} {ds : List Dt}, DatsAt K H xs ds → xs.length = ds.length
  | [], [], _ => rfl
  | [], _ :: _, h => by simp [DatsAt] at h
  | _ :: _, [], h => by simp [DatsAt] at h
  | x :: xs, d :: ds, h => by
    rw [DatsAt] at h
    rw [List.length_cons, List.length_cons, DatsAt.length h.2]
theorem DatsAt.get {K : PySem.W.Frag} {H : Hp} : ∀ {xs : List V} {ds : List Dt} {i : Nat} {x : V}, DatsAt K H xs ds → xs[i]? = some x → ∃ d, ds[i]? = some d ∧ DatAt K H x d
  | [], _, _, _, _, e => by simp at e
  | _ :: _, [], _, _, h, _ => by simp [DatsAt] at h
  | x :: xs, d :: ds, 0, y, h, e => by
    rw [DatsAt] at h
    simp at e; subst e
    exact ⟨d, rfl, h.1⟩
  | x :: xs, d :: ds, i + 1, y, h, e => by
    rw [DatsAt] at h
    obtain ⟨d', h1, h2⟩ := DatsAt.get (i := i) (x := y) h.2 (by simpa using e)
    exact ⟨d', by simpa using h1, h2⟩
theorem Dt.deps_mem {d : Dt} : ∀ {ds : List Dt}, d ∈ ds → d.dep ≤ Dt.deps ds
  | [], h => by cases h
  | x :: xs, h => by
    rw [Dt.deps]
    rcases List.mem_cons.mp h with rfl | h
    · exact Nat.le_max_left ..
    · exact Nat.le_trans (Dt.deps_mem h) (Nat.le_max_right ..)
def beqAt (xs ys : List Dt) (j : Nat) : Bool := match xs[j]?, ys[j]? with
  | some x, some y => x.beq y
  | _, _ => false
theorem all_range_succ (n : Nat) (e : Nat → Bool) : (List.range (n + 1)).all e = (e 0 && (List.range n).all fun j => e (j + 1)) := by
  rw [List.range_succ_eq_map, List.all_cons, List.all_map]; rfl
theorem beqs_all : ∀ (xs ys : List Dt), xs.length = ys.length → (List.range xs.length).all (beqAt xs ys) = Dt.beqs xs ys
  | [], [], _ => by simp [Dt.beqs]
  | x :: xs, y :: ys, h => by
    have h' : xs.length = ys.length := by simpa using h
    rw [List.length_cons, all_range_succ, Dt.beqs, ← beqs_all xs ys h']
    rfl
theorem beqs_len : ∀ (xs ys : List Dt), xs.length ≠ ys.length → Dt.beqs xs ys = false
  | [], [], h => absurd rfl h
  | [], _ :: _, _ => by simp [Dt.beqs]
  | _ :: _, [], _ => by simp [Dt.beqs]
  | x :: xs, y :: ys, h => by
    have h' : xs.length ≠ ys.length := fun z => h (by simp [z])
    rw [Dt.beqs, beqs_len xs ys h', Bool.and_false]
section
variable {X : Cx} {pins : List (Addr × Obj)} {σ : St} {H : Hp} {s : Shared}
theorem list_not_tuple {a : Addr} {xs ys : List V} (I : Inv X pins σ H s) (h1 : SqL X.K H a xs) (h2 : SqT X.K H a ys) : False := by
  obtain ⟨its, _, p, _⟩ := I.list h1
  obtain ⟨its2, _, q, _⟩ := I.tuple h2
  exact SeqAt.ne_of_list_tuple p.isList (show s.heap.IsTuple a its2.toArray from q) rfl
theorem dat_inj (I : Inv X pins σ H s) (d : Dt) : ∀ (x : V) (d' : Dt), DatAt X.K H x d → DatAt X.K H x d' → d = d' := by
  induction d using Dt.rec (motive_2 := fun ds => ∀ (xs : List V) (ds' : List Dt), DatsAt X.K H xs ds → DatsAt X.K H xs ds' → ds = ds') with
  | non => intro x d' h h'; cases d' <;> simp_all [DatAt]
  | bl b => intro x d' h h'; cases d' <;> simp_all [DatAt]
  | int b => intro x d' h h'; cases d' <;> simp_all [DatAt]
  | str b => intro x d' h h'; cases d' <;> simp_all [DatAt]
  | tup ds ih =>
    intro x d' h h'
    rw [DatAt] at h
    obtain ⟨a, xs, rfl, hq, hd⟩ := h
    cases d' with
    | tup ds' =>
      rw [DatAt] at h'
      obtain ⟨a', xs', e, hq', hd'⟩ := h'
      cases e
      rw [I.tuple_inj hq' hq] at hd'
      rw [ih xs ds' hd hd']
    | lst ds' =>
      rw [DatAt] at h'
      obtain ⟨a', xs', e, hq', hd'⟩ := h'
      cases e
      exact (list_not_tuple I hq' hq).elim
    | _ => simp [DatAt] at h'
  | lst ds ih =>
    intro x d' h h'
    rw [DatAt] at h
    obtain ⟨a, xs, rfl, hq, hd⟩ := h
    cases d' with
    | lst ds' =>
      rw [DatAt] at h'
      obtain ⟨a', xs', e, hq', hd'⟩ := h'
      cases e
      rw [I.list_inj hq' hq] at hd'
      rw [ih xs ds' hd hd']
    | tup ds' =>
      rw [DatAt] at h'
      obtain ⟨a', xs', e, hq', hd'⟩ := h'
      cases e
      exact (list_not_tuple I hq hq').elim
    | _ => simp [DatAt] at h'
  | nil =>
    rename_i xs ds' h h'
    cases xs with
    | nil => cases ds' with
      | nil => rfl
      | cons _ _ => simp [DatsAt] at h'
    | cons _ _ => simp [DatsAt] at h
  | cons d ds h1 h2 =>
    rename_i xs ds' h h'
    cases xs with
    | nil => simp [DatsAt] at h
    | cons x xs => cases ds' with
      | nil => simp [DatsAt] at h'
      | cons d' ds' =>
        rw [DatsAt] at h h'
        rw [h1 x d' h.1 h'.1, h2 xs ds' h.2 h'.2]
theorem items_eq {A : Around} {xs ys : List V} {ds ds' : List Dt} {its its2 : List Value} (r1 : Vals xs its) (r2 : Vals ys its2) (h1 : DatsAt X.K H xs ds) (h2 : DatsAt X.K H ys ds')
    (ih : ∀ d ∈ ds, ∀ (d' : Dt) (x y : V) (u v : Value), DatAt X.K H x d → DatAt X.K H y d' → RelV x u → RelV y v → SeqAt.EqAt A s u v (d.beq d')) :
    ∀ j (a : j < its.toArray.size) (b : j < its2.toArray.size), SeqAt.EqAt A s its.toArray[j] its2.toArray[j] (beqAt ds ds' j) := fun j a b => by
  have a' : j < its.length := by simpa using a
  have b' : j < its2.length := by simpa using b
  have la := r1.length
  have lb := r2.length
  have ex : xs[j]? = some (xs[j]'(by omega)) := List.getElem?_eq_getElem (by omega)
  have ey : ys[j]? = some (ys[j]'(by omega)) := List.getElem?_eq_getElem (by omega)
  obtain ⟨u, eu, ru⟩ := r1.get ex
  obtain ⟨v, ev, rv⟩ := r2.get ey
  obtain ⟨d, ed, hd⟩ := h1.get ex
  obtain ⟨d', ed', hd'⟩ := h2.get ey
  have e1 : its.toArray[j] = u := by
    rw [List.getElem?_eq_getElem a'] at eu
    simpa using Option.some.inj eu
  have e2 : its2.toArray[j] = v := by
    rw [List.getElem?_eq_getElem b'] at ev
    simpa using Option.some.inj ev
  rw [e1, e2]
  have e3 : beqAt ds ds' j = d.beq d' := by unfold beqAt; rw [ed, ed']
  rw [e3]
  exact ih d (List.mem_of_getElem? ed) d' _ _ u v hd hd' ru rv
theorem rc_lists {A : Around} {a b : Addr} {xs ys : List V} {ds ds' : List Dt} (I : Inv X pins σ H s) (q1 : SqL X.K H a xs) (q2 : SqL X.K H b ys) (h1 : DatsAt X.K H xs ds) (h2 : DatsAt X.K H ys ds') (hu : A.units < cLine)
    (ih : ∀ d ∈ ds, ∀ (d' : Dt) (x y : V) (u v : Value), DatAt X.K H x d → DatAt X.K H y d' → RelV x u → RelV y v → SeqAt.EqAt A.in1 s u v (d.beq d')) : SeqAt.RcAt A s (.ref a) (.ref b) (Dt.beqs ds ds') := by
  obtain ⟨its, r1, p1, _⟩ := I.list q1
  obtain ⟨its2, r2, p2, _⟩ := I.list q2
  have l1 := r1.length
  have l2 := r2.length
  have l3 := h1.length
  have l4 := h2.length
  by_cases hl : ds.length = ds'.length
  · have := SeqAt.RcAt.lists p1.isList p2.isList (by simp; omega) hu (items_eq r1 r2 h1 h2 ih)
    rw [show its.toArray.size = ds.length by simp; omega, beqs_all ds ds' hl] at this
    exact this
  · rw [beqs_len ds ds' hl]
    exact SeqAt.RcAt.lists_lengths p1.isList p2.isList (by simp; omega) hu
theorem rc_tuples {A : Around} {a b : Addr} {xs ys : List V} {ds ds' : List Dt} (I : Inv X pins σ H s) (q1 : SqT X.K H a xs) (q2 : SqT X.K H b ys) (h1 : DatsAt X.K H xs ds) (h2 : DatsAt X.K H ys ds') (hu : A.units < cLine)
    (ih : ∀ d ∈ ds, ∀ (d' : Dt) (x y : V) (u v : Value), DatAt X.K H x d → DatAt X.K H y d' → RelV x u → RelV y v → SeqAt.EqAt A.in1 s u v (d.beq d')) : SeqAt.RcAt A s (.ref a) (.ref b) (Dt.beqs ds ds') := by
  obtain ⟨its, r1, p1, _⟩ := I.tuple q1
  obtain ⟨its2, r2, p2, _⟩ := I.tuple q2
  have l1 := r1.length
  have l2 := r2.length
  have l3 := h1.length
  have l4 := h2.length
  have := SeqAt.RcAt.tuples (show s.heap.IsTuple a its.toArray from p1) (show s.heap.IsTuple b its2.toArray from p2) hu (items_eq r1 r2 h1 h2 ih)
  by_cases hl : ds.length = ds'.length
  · rw [show min its.toArray.size its2.toArray.size = ds.length by simp; omega, beqs_all ds ds' hl, show (its.toArray.size == its2.toArray.size) = true by simp; omega, Bool.and_true] at this
    exact this
  · rw [show (its.toArray.size == its2.toArray.size) = false by simp; omega, Bool.and_false] at this
    rw [beqs_len ds ds' hl]
    exact this
theorem dat_eqAt (I : Inv X pins σ H s) (d : Dt) : ∀ (A : Around) (d' : Dt) (x y : V) (u v : Value), A.units + d.dep < cLine → DatAt X.K H x d → DatAt X.K H y d' → RelV x u → RelV y v → SeqAt.EqAt A s u v (d.beq d') := by
  have flat : ∀ {A : Around} {d d' : Dt} {x y : V} {u v : Value}, flatV x = true → flatV y = true → eqV x y = d.beq d' → RelV x u → RelV y v → SeqAt.EqAt A s u v (d.beq d') := fun fx fy e ru rv => e ▸ eqAt_V ru rv fx fy
  have lOf : ∀ {a : Addr} {xs : List V}, SqL X.K H a xs → ∃ its : Array Value, s.heap.IsList a its := fun q => let ⟨its, _, p, _⟩ := I.list q; ⟨_, p.isList⟩
  have tOf : ∀ {a : Addr} {xs : List V}, SqT X.K H a xs → ∃ its : Array Value, s.heap.IsTuple a its := fun q => let ⟨its, _, p, _⟩ := I.tuple q; ⟨_, p⟩
  have refs : ∀ {A : Around} {a b : Addr} {d d' : Dt}, DatAt X.K H (.ref a) d → DatAt X.K H (.ref b) d' → SeqAt.RcAt A s (.ref a) (.ref b) (d.beq d') → SeqAt.EqAt A s (.ref a) (.ref b) (d.beq d') := by
    intro A a b d d' h h' r
    by_cases e : a = b
    · subst e
      rw [← dat_inj I d _ _ h h', Dt.beq_refl]
      exact SeqAt.EqAt.same _
    · exact SeqAt.EqAt.of_refs e r
  induction d using Dt.rec (motive_2 := fun ds => ∀ d ∈ ds, ∀ (A : Around) (d' : Dt) (x y : V) (u v : Value), A.units + d.dep < cLine → DatAt X.K H x d → DatAt X.K H y d' → RelV x u → RelV y v → SeqAt.EqAt A s u v (d.beq d')) with
  | non =>
    intro A d' x y u v hu h h' ru rv
    rw [DatAt] at h
    subst h
    have hu' : A.units < cLine := by omega
    cases d' with
    | tup ds' =>
      rw [DatAt] at h'; obtain ⟨b, ys, rfl, q, _⟩ := h'
      cases ru; cases rv
      obtain ⟨its, p⟩ := tOf q
      exact SeqAt.EqAt.none_tuple p hu'
    | lst ds' =>
      rw [DatAt] at h'; obtain ⟨b, ys, rfl, q, _⟩ := h'
      cases ru; cases rv
      obtain ⟨its, p⟩ := lOf q
      exact SeqAt.EqAt.none_list p hu'
    | _ => rw [DatAt] at h'; subst h'; exact flat rfl rfl (by simp [Dt.beq, eqV]) ru rv
  | bl b0 =>
    intro A d' x y u v hu h h' ru rv
    rw [DatAt] at h
    subst h
    have hu' : A.units < cLine := by omega
    cases d' with
    | tup ds' =>
      rw [DatAt] at h'; obtain ⟨b, ys, rfl, q, _⟩ := h'
      cases ru; cases rv
      obtain ⟨its, p⟩ := tOf q
      exact SeqAt.EqAt.bool_tuple _ p hu'
    | lst ds' =>
      rw [DatAt] at h'; obtain ⟨b, ys, rfl, q, _⟩ := h'
      cases ru; cases rv
      obtain ⟨its, p⟩ := lOf q
      exact SeqAt.EqAt.bool_list _ p hu'
    | _ => rw [DatAt] at h'; subst h'; exact flat rfl rfl (by simp [Dt.beq, eqV]) ru rv
  | int i0 =>
    intro A d' x y u v hu h h' ru rv
    rw [DatAt] at h
    subst h
    have hu' : A.units < cLine := by omega
    cases d' with
    | tup ds' =>
      rw [DatAt] at h'; obtain ⟨b, ys, rfl, q, _⟩ := h'
      obtain ⟨t, rfl⟩ := ru; cases rv
      obtain ⟨its, p⟩ := tOf q
      exact SeqAt.EqAt.int_tuple _ _ p hu'
    | lst ds' =>
      rw [DatAt] at h'; obtain ⟨b, ys, rfl, q, _⟩ := h'
      obtain ⟨t, rfl⟩ := ru; cases rv
      obtain ⟨its, p⟩ := lOf q
      exact SeqAt.EqAt.int_list _ _ p hu'
    | _ => rw [DatAt] at h'; subst h'; exact flat rfl rfl (by simp [Dt.beq, eqV]) ru rv
  | str z0 =>
    intro A d' x y u v hu h h' ru rv
    rw [DatAt] at h
    subst h
    have hu' : A.units < cLine := by omega
    cases d' with
    | tup ds' =>
      rw [DatAt] at h'; obtain ⟨b, ys, rfl, q, _⟩ := h'
      obtain ⟨t, rfl⟩ := ru; cases rv
      obtain ⟨its, p⟩ := tOf q
      exact SeqAt.EqAt.str_tuple _ _ p hu'
    | lst ds' =>
      rw [DatAt] at h'; obtain ⟨b, ys, rfl, q, _⟩ := h'
      obtain ⟨t, rfl⟩ := ru; cases rv
      obtain ⟨its, p⟩ := lOf q
      exact SeqAt.EqAt.str_list _ _ p hu'
    | _ => rw [DatAt] at h'; subst h'; exact flat rfl rfl (by simp [Dt.beq, eqV]) ru rv
  | tup ds ih =>
    intro A d' x y u v hu h h' ru rv
    have hD := h
    have hD' := h'
    rw [DatAt] at h
    obtain ⟨a, xs, rfl, q, hd⟩ := h
    cases ru
    obtain ⟨its, p⟩ := tOf q
    have hu' : A.units < cLine := by omega
    cases d' with
    | non => rw [DatAt] at h'; subst h'; cases rv; exact SeqAt.EqAt.tuple_none p hu'
    | bl b => rw [DatAt] at h'; subst h'; cases rv; exact SeqAt.EqAt.tuple_bool _ p hu'
    | int b => rw [DatAt] at h'; subst h'; obtain ⟨t, rfl⟩ := rv; exact SeqAt.EqAt.tuple_int _ _ p hu'
    | str b => rw [DatAt] at h'; subst h'; obtain ⟨t, rfl⟩ := rv; exact SeqAt.EqAt.tuple_str _ _ p hu'
    | lst ds' =>
      rw [DatAt] at h'; obtain ⟨b, ys, rfl, q', _⟩ := h'
      cases rv
      obtain ⟨its2, p2⟩ := lOf q'
      exact SeqAt.EqAt.tuple_list p p2 hu'
    | tup ds' =>
      rw [DatAt] at h'; obtain ⟨b, ys, rfl, q', hd'⟩ := h'
      cases rv
      refine refs hD hD' ?_
      have := rc_tuples (A := A) I q q' hd hd' hu' fun d hm d' x y u v h1 h2 r1 r2 => ih d hm A.in1 d' x y u v (by
        have := Dt.deps_mem hm
        rw [Dt.dep] at hu
        show A.units + 1 + d.dep < cLine
        omega) h1 h2 r1 r2
      simpa [Dt.beq] using this
  | lst ds ih =>
    intro A d' x y u v hu h h' ru rv
    have hD := h
    have hD' := h'
    rw [DatAt] at h
    obtain ⟨a, xs, rfl, q, hd⟩ := h
    cases ru
    obtain ⟨its, p⟩ := lOf q
    have hu' : A.units < cLine := by omega
    cases d' with
    | non => rw [DatAt] at h'; subst h'; cases rv; exact SeqAt.EqAt.list_none p hu'
    | bl b => rw [DatAt] at h'; subst h'; cases rv; exact SeqAt.EqAt.list_bool _ p hu'
    | int b => rw [DatAt] at h'; subst h'; obtain ⟨t, rfl⟩ := rv; exact SeqAt.EqAt.list_int _ _ p hu'
    | str b => rw [DatAt] at h'; subst h'; obtain ⟨t, rfl⟩ := rv; exact SeqAt.EqAt.list_str _ _ p hu'
    | tup ds' =>
      rw [DatAt] at h'; obtain ⟨b, ys, rfl, q', _⟩ := h'
      cases rv
      obtain ⟨its2, p2⟩ := tOf q'
      exact SeqAt.EqAt.list_tuple p p2 hu'
    | lst ds' =>
      rw [DatAt] at h'; obtain ⟨b, ys, rfl, q', hd'⟩ := h'
      cases rv
      refine refs hD hD' ?_
      have := rc_lists (A := A) I q q' hd hd' hu' fun d hm d' x y u v h1 h2 r1 r2 => ih d hm A.in1 d' x y u v (by
        have := Dt.deps_mem hm
        rw [Dt.dep] at hu
        show A.units + 1 + d.dep < cLine
        omega) h1 h2 r1 r2
      simpa [Dt.beq] using this
  | nil =>
    rename_i d hd A d' x y u v a1 a2 a3 a4 a5
    cases hd
  | cons d ds h1 h2 =>
    rename_i d0 hd A d' x y u v a1 a2 a3 a4 a5
    rcases List.mem_cons.mp hd with e | hd
    · subst e; exact h1 A d' x y u v a1 a2 a3 a4 a5
    · exact h2 d0 hd A d' x y u v a1 a2 a3 a4 a5
def Dt.isSq : Dt → Bool
  | .tup _ => true
  | .lst _ => true
  | _ => false
def rEqD (K : PySem.W.Frag) (neg : Bool) : R2 := fun x y H Q => ∃ d d' : Dt, DatAt K H x d ∧ DatAt K H y d' ∧ d.isSq = true ∧ d'.isSq = true ∧ d.dep ≤ 40 ∧ Q (.bl (if neg then !d.beq d' else d.beq d')) H
theorem op_eqD (K : PySem.W.Frag) (hu : X.A.units + 64 < cLine) (hK : X.K = K := by rfl) : OpR X (compareOp .Eq) (rEqD K false) := by
  subst hK
  intro pins s σ H x y v u Q I rx ry h
  obtain ⟨d, d', h, h', sq, sq', hd, q⟩ := h
  have hA : ∀ e : Dt, e.dep ≤ 40 → X.A.in1.units + e.dep < cLine := fun e he => by show X.A.units + 1 + e.dep < cLine; omega
  have hu' : X.A.units < cLine := by omega
  cases d with
  | tup ds =>
    rw [DatAt] at h
    obtain ⟨a, xs, rfl, q1, hd1⟩ := h
    cases rx
    have ih : ∀ d ∈ ds, ∀ (d' : Dt) (x y : V) (u v : Value), DatAt X.K H x d → DatAt X.K H y d' → RelV x u → RelV y v → SeqAt.EqAt X.A.in1 s u v (d.beq d') := fun d hm d' x y u v h1 h2 r1 r2 =>
      dat_eqAt I d X.A.in1 d' x y u v (hA d (by have := Dt.deps_mem hm; rw [Dt.dep] at hd; omega)) h1 h2 r1 r2
    cases d' with
    | tup ds' =>
      rw [DatAt] at h'
      obtain ⟨b, ys, rfl, q2, hd2⟩ := h'
      cases ry
      exact rc_tuples I q1 q2 hd1 hd2 hu' ih _ _ _ _ ⟨.bl _, H, I, rfl, by simpa [Dt.beq] using q⟩
    | lst ds' =>
      rw [DatAt] at h'
      obtain ⟨b, ys, rfl, q2, hd2⟩ := h'
      cases ry
      obtain ⟨its, _, p, _⟩ := I.tuple q1
      obtain ⟨its2, _, p2, _⟩ := I.list q2
      exact SeqAt.RcAt.tuple_list (show s.heap.IsTuple a its.toArray from p) p2.isList hu' _ _ _ _ ⟨.bl _, H, I, rfl, by simpa [Dt.beq] using q⟩
    | _ => cases sq'
  | lst ds =>
    rw [DatAt] at h
    obtain ⟨a, xs, rfl, q1, hd1⟩ := h
    cases rx
    have ih : ∀ d ∈ ds, ∀ (d' : Dt) (x y : V) (u v : Value), DatAt X.K H x d → DatAt X.K H y d' → RelV x u → RelV y v → SeqAt.EqAt X.A.in1 s u v (d.beq d') := fun d hm d' x y u v h1 h2 r1 r2 =>
      dat_eqAt I d X.A.in1 d' x y u v (hA d (by have := Dt.deps_mem hm; rw [Dt.dep] at hd; omega)) h1 h2 r1 r2
    cases d' with
    | lst ds' =>
      rw [DatAt] at h'
      obtain ⟨b, ys, rfl, q2, hd2⟩ := h'
      cases ry
      exact rc_lists I q1 q2 hd1 hd2 hu' ih _ _ _ _ ⟨.bl _, H, I, rfl, by simpa [Dt.beq] using q⟩
    | tup ds' =>
      rw [DatAt] at h'
      obtain ⟨b, ys, rfl, q2, hd2⟩ := h'
      cases ry
      obtain ⟨its, _, p, _⟩ := I.list q1
      obtain ⟨its2, _, p2, _⟩ := I.tuple q2
      exact SeqAt.RcAt.list_tuple p.isList (show s.heap.IsTuple b its2.toArray from p2) hu' _ _ _ _ ⟨.bl _, H, I, rfl, by simpa [Dt.beq] using q⟩
    | _ => cases sq'
  | _ => cases sq
theorem op_neD (K : PySem.W.Frag) (hu : X.A.units + 64 < cLine) (hK : X.K = K := by rfl) : OpR X (compareOp .NotEq) (fun x y H Q => rEqD K true x y H Q ∧ ∃ d d' : Dt, DatAt K H x d ∧ DatAt K H y d' ∧ ((∃ ds ds', d = .tup ds ∧ d' = .tup ds') ∨ ∃ ds ds', d = .lst ds ∧ d' = .lst ds')) := by
  subst hK
  intro pins s σ H x y v u Q I rx ry h
  obtain ⟨⟨d, d', h, h', sq, sq', hd, q⟩, e, e', g, g', hk⟩ := h
  have e1 := dat_inj I d x e h g
  have e2 := dat_inj I d' y e' h' g'
  subst e1 e2
  have hA : ∀ e : Dt, e.dep ≤ 40 → X.A.in1.units + e.dep < cLine := fun e he => by show X.A.units + 1 + e.dep < cLine; omega
  have hu' : X.A.units < cLine := by omega
  rcases hk with ⟨ds, ds', rfl, rfl⟩ | ⟨ds, ds', rfl, rfl⟩
  · rw [DatAt] at h h'
    obtain ⟨a, xs, rfl, q1, h1⟩ := h
    obtain ⟨b, ys, rfl, q2, h2⟩ := h'
    cases rx
    cases ry
    have ih : ∀ d ∈ ds, ∀ (d' : Dt) (x y : V) (u v : Value), DatAt X.K H x d → DatAt X.K H y d' → RelV x u → RelV y v → SeqAt.EqAt X.A.in1 s u v (d.beq d') := fun d hm d' x y u v h1 h2 r1 r2 =>
      dat_eqAt I d X.A.in1 d' x y u v (hA d (by have := Dt.deps_mem hm; rw [Dt.dep] at hd; omega)) h1 h2 r1 r2
    obtain ⟨its, r1, p1, _⟩ := I.tuple q1
    obtain ⟨its2, r2, p2, _⟩ := I.tuple q2
    have l1 := r1.length
    have l2 := r2.length
    have l3 := h1.length
    have l4 := h2.length
    have z := SeqAt.RcNeAt.tuples (show s.heap.IsTuple a its.toArray from p1) (show s.heap.IsTuple b its2.toArray from p2) hu' (items_eq r1 r2 h1 h2 ih)
    have fin : SeqAt.RcNeAt X.A s (.ref a) (.ref b) (!Dt.beqs ds ds') := by
      by_cases hl : ds.length = ds'.length
      · rw [show min its.toArray.size its2.toArray.size = ds.length by simp; omega, beqs_all ds ds' hl, show (its.toArray.size == its2.toArray.size) = true by simp; omega, Bool.and_true] at z
        exact z
      · rw [show (its.toArray.size == its2.toArray.size) = false by simp; omega, Bool.and_false] at z
        rw [beqs_len ds ds' hl]
        exact z
    exact fin _ _ _ _ ⟨.bl _, H, I, rfl, by simpa [Dt.beq] using q⟩
  · rw [DatAt] at h h'
    obtain ⟨a, xs, rfl, q1, h1⟩ := h
    obtain ⟨b, ys, rfl, q2, h2⟩ := h'
    cases rx
    cases ry
    have ih : ∀ d ∈ ds, ∀ (d' : Dt) (x y : V) (u v : Value), DatAt X.K H x d → DatAt X.K H y d' → RelV x u → RelV y v → SeqAt.EqAt X.A.in1 s u v (d.beq d') := fun d hm d' x y u v h1 h2 r1 r2 =>
      dat_eqAt I d X.A.in1 d' x y u v (hA d (by have := Dt.deps_mem hm; rw [Dt.dep] at hd; omega)) h1 h2 r1 r2
    obtain ⟨its, r1, p1, _⟩ := I.list q1
    obtain ⟨its2, r2, p2, _⟩ := I.list q2
    have l1 := r1.length
    have l2 := r2.length
    have l3 := h1.length
    have l4 := h2.length
    have fin : SeqAt.RcNeAt X.A s (.ref a) (.ref b) (!Dt.beqs ds ds') := by
      by_cases hl : ds.length = ds'.length
      · have z := SeqAt.RcNeAt.lists p1.isList p2.isList (by simp; omega) hu' (items_eq r1 r2 h1 h2 ih)
        rw [show its.toArray.size = ds.length by simp; omega, beqs_all ds ds' hl] at z
        exact z
      · rw [beqs_len ds ds' hl]
        exact SeqAt.RcNeAt.lists_lengths p1.isList p2.isList (by simp; omega) hu'
    exact fin _ _ _ _ ⟨.bl _, H, I, rfl, by simpa [Dt.beq] using q⟩
end
end L2
namespace L2
open PySem PySem.Spec PyProof.Rows
section
variable {X : Cx}
def rTuple (K : PySem.W.Frag) : List V → Hp → VK → Prop := fun xs H Q => ∃ (p : Addr) (ys : List V), xs = [.ref p] ∧ ((SqL K H p ys ∧ ∀ l, H l = none → Q (.ref l) (upd H l (.tup ys))) ∨ (SqT K H p ys ∧ Q (.ref p) H))
theorem call_tupleK (K : PySem.W.Frag) (hK : X.K = K := by rfl) : CallR X (.type "tuple") (rTuple K) := by subst hK; exact call_tuple_of
def Deck (H : Hp) (d : Addr) : Prop := ∃ ms : List Int, H d = some (.lst (ms.map V.int)) ∧ ms ≠ [] ∧ ∀ m ∈ ms, 0 ≤ m
theorem Deck.same {H H' : Hp} {d : Addr} (h : Deck H d) (s : Same H H') : Deck H' d := let ⟨ms, a, b, c⟩ := h; ⟨ms, s _ _ a, b, c⟩
theorem Deck.kb {H H' : Hp} {d e : Addr} (h : Deck H d) (s : KB e H H') (n : d ≠ e) : Deck H' d := let ⟨ms, a, b, c⟩ := h; ⟨ms, s _ _ a n, b, c⟩
theorem Deck.is {H : Hp} {d : Addr} (h : Deck H d) : ∃ xs, H d = some (.lst xs) := let ⟨ms, a, _⟩ := h; ⟨_, a⟩
end
end L2
namespace L2
open PySem
theorem dI {i j : Int} (h : i = j) : decide (V.int i = V.int j) = true := by rw [h]; simp
end L2
set_option Elab.async false
set_option linter.all false
set_option maxRecDepth 100000
set_option maxHeartbeats 4000000
namespace L2
open PySem PySem.Spec PyProof.Rows
theorem strsAre_of {ys : List Str} : ∀ {us : List Value}, Vals (ys.map V.str) us → StrsAre us ys := by
  induction ys with
  | nil => intro us r; cases r; exact .nil
  | cons y ys ih =>
    intro us r
    rw [List.map_cons] at r
    cases r with
    | cons a b =>
      obtain ⟨t, rfl⟩ := a
      exact .cons y t (ih b)
theorem vals_strs : ∀ {us : List Value} {ys : List Str}, StrsAre us ys → Vals (ys.map V.str) us
  | _, _, .nil => .nil
  | _, _, .cons y t r => .cons ⟨t, rfl⟩ (vals_strs r)
theorem join_len (sep : Str) (ys : List Str) (h : (ys.map (·.length)).sum + ys.length * sep.length ≤ 16777216) : (Txt.join sep ys).length ≤ sizeLine := by
  have hok := joinOk_of h
  unfold JoinOk at hok
  rw [Bool.not_eq_true'] at hok
  have e : ys = (ys.map fun y => (y, (0 : Tok))).map (·.1) := by rw [List.map_map]; exact (List.map_id ys).symm
  rw [e] at hok ⊢
  exact joinFit_length hok
section
variable {X : Cx}
def rJoin (K : PySem.W.Frag) : V → List V → Hp → VK → Prop := fun x vs H Q => ∃ (sep : Str) (a : Addr) (ys : List Str), x = .str sep ∧ vs = [.ref a] ∧ SqL K H a (ys.map V.str) ∧ (ys.map (·.length)).sum + ys.length * sep.length ≤ 16777216 ∧ ∀ z : Str, z.length ≤ sizeLine → z = Txt.join sep ys → Q (.str z) H
theorem mt_joinK (K : PySem.W.Frag) (hK : X.K = K := by rfl) : MtM X "str.join" (rJoin K) := by
  subst hK
  intro pins s σ H x vs v us Q I rx rv h
  obtain ⟨sep, a, ys, rfl, rfl, hq, hz, q⟩ := h
  obtain ⟨t, rfl⟩ := rx
  obtain ⟨u, rfl, ru⟩ := rv.one
  cases ru
  obtain ⟨its, r, p, _⟩ := I.list hq
  exact join_list p.isList (show StrsAre its.toArray.toList ys from strsAre_of r) hz fun t' k => ⟨.str _, H, I.tok k, ⟨t', rfl⟩, q _ (join_len sep ys hz) rfl⟩
def rSortS (K : PySem.W.Frag) : List V → Hp → VK → Prop := fun xs H Q => ∃ (a : Addr) (ss : List Str), xs = [.ref a] ∧ SqL K H a (ss.map V.str) ∧ ss.length < 64 ∧
  ∀ (p : Addr) (ss' : List Str), H p = none → ss'.Perm ss → PyProof.Rows.sortedS ss' = true → Q (.ref p) (upd H p (.lst (ss'.map V.str)))
theorem call_sortSK (K : PySem.W.Frag) (hK : X.K = K := by rfl) : CallR X (.builtin "sorted") (rSortS K) := by
  subst hK
  intro pins s σ H xs us Q I r h
  obtain ⟨a, ss, rfl, hq, hl, q⟩ := h
  obtain ⟨u, rfl, ru⟩ := vals1 r
  cases ru
  obtain ⟨its, rv, p, hz⟩ := I.list hq
  have hlen := rv.length
  rw [List.length_map] at hlen
  refine sorted_strs p.isList (strsAre_of rv) (by omega) fun out ss' a1 a2 a3 => ?_
  obtain ⟨e, he⟩ := sortedAll_at s.heap its out
  have hp : s.heap.objs.size ≤ s.heap.objs.size + 1 := Nat.le_succ _
  refine ⟨.ref (s.heap.objs.size + 1), upd H (s.heap.objs.size + 1) (.lst (ss'.map V.str)), ?_, rfl, q _ ss' (I.hok.fresh hp) a2 a3⟩
  refine I.laid (t' := s.toks) (h' := sortedAll s.heap its out) (fun _ _ => sortedAll_old) hp ⟨?_, out.toList, e, vals_strs a1, ?_⟩
  · rw [List.length_map, a2.length_eq]
    rw [List.length_map] at hz
    exact hz
  · rw [he]
    first
      | done
      | rfl
def rSlS : V → Option Int → Option Int → Hp → VK → Prop := fun x lo hi H Q => ∃ z : Str, x = .str z ∧ z.length ≤ sizeLine ∧ Q (.str (Txt.slice z lo hi)) H
theorem isPart_part {v : Value} {o : Option Int} (p : IsPart v o) : ∃ l : Option (Int × Tok), v = partValue l ∧ l.map (·.1) = o := by
  cases p with
  | none => exact ⟨none, rfl, rfl⟩
  | int i t => exact ⟨some (i, t), rfl, rfl⟩
theorem sl_str : SlR X rSlS := by
  intro pins s σ H x v vl vu lo hi sl Q I rx hs pl pu h
  obtain ⟨z, rfl, hz, q⟩ := h
  obtain ⟨t, rfl⟩ := rx
  obtain ⟨l, rfl, hl⟩ := isPart_part pl
  obtain ⟨u, rfl, hu⟩ := isPart_part pu
  subst hl hu
  obtain ⟨o, ho, hc, hd⟩ := hs
  refine ⟨"str", _, PySem.F.slot_str_getitem.lookup, typeIs_str _ _ _, wpAny_getItem_str_slice (l := l) (u := u) (st := none) ⟨o, ho, hc, hd⟩ rfl ?_⟩
  exact post_val_or_str ⟨Nat.le_trans (Txt.slice_le z _ _) hz, fun t' k => ⟨.str _, H, I.tok k, ⟨t', rfl⟩, q⟩⟩
structure TopDict (K : PySem.W.Frag) (P : Params) (a : Addr) (tab : List (Str × Option V)) : Prop where
  ex : ∃ (es : Array DictEntry) (n : Nat), K.lookup a = some ⟨.type "dict", none, .dict es n, #[]⟩ ∧ PySem.W.KeysLit P es.toList ∧ ∀ x r, (x, r) ∈ tab → RelO r (findBy Value.isStrOf es x)
  lo : (a == sysModules) = false
def tTopGet (tab : List (Str × Option V)) (ty tx : TE) : TE := fun σ H Q => ty σ H fun y H1 => tx σ H1 fun z H2 => ∃ x r, y = .str x ∧ (x, r) ∈ tab ∧ Q (r.getD z) H2
theorem pe_topget {x : Str} {p apos cpos : Pos} {e f : Expr} {ty tx : TE} {a : Addr} {tab : List (Str × Option V)} (D : TopDict X.K X.w.params a tab) (hg : Gl X x) (hm : X.mg x = some (.ref a)) (he : PE X e ty) (hf : PE X f tx)
    (m : M2 X (.Name x p) "get" apos e f cpos := by exact ⟨rfl, rfl, rfl, rfl⟩) (hdb : (x == ("__debug__" : Str)) = false := by decide) : PE X (.Call (.Attribute (.Name x p) "get" apos) [e, f] [] cpos) (tTopGet tab ty tx) := by
  intro pins s σ H Q I h
  obtain ⟨es, n, hl, hk, ht⟩ := D.ex
  refine wpAny_Call_method m.base m.few m.line PySem.F.plainAttrs_dict PySem.F.slot_dict_get PySem.F.type_dict_get (ld_glob I hg hm ?_ hdb)
  have hm0 := PySem.W.mapOf_K (prog := X.prog) I.kIn hl hk
  refine ⟨hm0.typeIs, hm0.noDict, ?_⟩
  rw [m.trees]
  refine Calls.callWith_builtin rfl (Calls.evalArgs_plain (Calls.spliced_cons (thn (he pins s σ H _ I h) fun iv s2 ⟨y, H2, I2, ry, q2⟩ =>
    Calls.spliced_cons (thn (hf pins s2 σ H2 _ I2 q2) fun fv s3 ⟨z, H3, I3, rz, x', r, ey, hmem, q3⟩ => Calls.spliced_nil ?_))))
  subst ey
  obtain ⟨t, rfl⟩ := ry
  have hm3 := PySem.W.mapOf_K (prog := X.prog) I3.kIn hl hk
  refine call_meetsIn PySem.F.slot_dict_get hm3.typeIs PySem.F.entry_dict_get (PySem.F.args_dict_get_3 _ _ _) (meets_dict_get_default (strKind X.prog X.w) a (strKind_is X.prog X.w x' t) D.lo fv) ⟨_, hm3, ?_⟩
  refine ⟨r.getD z, H3, I3.tok _, ?_, q3⟩
  have := ht x' r hmem
  cases r with
  | none =>
    rw [this.none_of]
    exact rz
  | some v =>
    obtain ⟨u, eu, ru⟩ := this.some_of
    rw [eu]
    exact ru
theorem sqT_top {K : PySem.W.Frag} {H : Hp} {a : Addr} {xs : List V} {us : List Value} {n : Nat} (h : K.lookup a = some ⟨.type "tuple", none, .seq us.toArray n, #[]⟩) (r : Vals xs us) (hz : xs.length ≤ sizeLine) : SqT K H a xs :=
  .inr ⟨_, us.toArray, n, h, rfl, rfl, by rw [List.size_toArray, ← r.length]; exact hz, by simpa using r⟩
end
section
variable {X : Cx}
end
mutual
def Dt.noL : Dt → Bool
  | .lst _ => false
  | .tup xs => Dt.noLs xs
  | _ => true
def Dt.noLs : List Dt → Bool
  | [] => true
  | x :: xs => x.noL && Dt.noLs xs
end
def KTs (K : PySem.W.Frag) (H H' : Hp) : Prop := ∀ a xs, SqT K H a xs → SqT K H' a xs
theorem KTs.refl {K : PySem.W.Frag} (H : Hp) : KTs K H H := fun _ _ h => h
theorem KTs.trans {K : PySem.W.Frag} {H H1 H2 : Hp} (a : KTs K H H1) (b : KTs K H1 H2) : KTs K H H2 := fun c o h => b c o (a c o h)
theorem Same.kts {K : PySem.W.Frag} {H H' : Hp} (s : Same H H') : KTs K H H' := fun _ _ h => s.seqT h
theorem KB.kts {K : PySem.W.Frag} {d : Addr} {xs : List V} {H H' : Hp} (h : H d = some (.lst xs)) (k : KB d H H') : KTs K H H' := fun a ys e => by
  rcases e with (e | ⟨o, e⟩) | e
  · exact .inl (.inl (k _ _ e (ne_of e h (fun z => nomatch z))))
  · exact .inl (.inr ⟨o, k _ _ e (ne_of e h (fun z => nomatch z))⟩)
  · exact .inr e
theorem dat_stay {K : PySem.W.Frag} {H H' : Hp} (k : KTs K H H') (d : Dt) : ∀ x : V, d.noL = true → DatAt K H x d → DatAt K H' x d := by
  induction d using Dt.rec (motive_2 := fun ds => ∀ xs : List V, Dt.noLs ds = true → DatsAt K H xs ds → DatsAt K H' xs ds) with
  | non => intro x _ h; simpa [DatAt] using h
  | bl b => intro x _ h; simpa [DatAt] using h
  | int b => intro x _ h; simpa [DatAt] using h
  | str b => intro x _ h; simpa [DatAt] using h
  | tup ds ih =>
    intro x hn h
    rw [DatAt] at h ⊢
    rw [Dt.noL] at hn
    obtain ⟨a, xs, e, q, hd⟩ := h
    exact ⟨a, xs, e, k _ _ q, ih xs hn hd⟩
  | lst ds ih => intro x hn; simp [Dt.noL] at hn
  | nil =>
    rename_i xs hn h
    cases xs with
    | nil => simp [DatsAt]
    | cons _ _ => simp [DatsAt] at h
  | cons d ds h1 h2 =>
    rename_i xs hn h
    rw [Dt.noLs, Bool.and_eq_true] at hn
    cases xs with
    | nil => simp [DatsAt] at h
    | cons x xs =>
      rw [DatsAt] at h ⊢
      exact ⟨h1 x hn.1 h.1, h2 xs hn.2 h.2⟩
theorem dats_stay {K : PySem.W.Frag} {H H' : Hp} (k : KTs K H H') : ∀ (ds : List Dt) (xs : List V), Dt.noLs ds = true → DatsAt K H xs ds → DatsAt K H' xs ds
  | [], xs, _, h => by
    cases xs with
    | nil => simp [DatsAt]
    | cons _ _ => simp [DatsAt] at h
  | d :: ds, xs, hn, h => by
    rw [Dt.noLs, Bool.and_eq_true] at hn
    cases xs with
    | nil => simp [DatsAt] at h
    | cons x xs =>
      rw [DatsAt] at h ⊢
      exact ⟨dat_stay k d x hn.1 h.1, dats_stay k ds xs hn.2 h.2⟩
theorem dat_int {K : PySem.W.Frag} {H : Hp} {i : Int} : DatAt K H (.int i) (.int i) := by rw [DatAt]
theorem dat_str {K : PySem.W.Frag} {H : Hp} {z : Str} : DatAt K H (.str z) (.str z) := by rw [DatAt]
theorem dat_tup {K : PySem.W.Frag} {H : Hp} {a : Addr} {xs : List V} {ds : List Dt} (h : SqT K H a xs) (d : DatsAt K H xs ds) : DatAt K H (.ref a) (.tup ds) := by rw [DatAt]; exact ⟨a, xs, rfl, h, d⟩
theorem dat_lst {K : PySem.W.Frag} {H : Hp} {a : Addr} {xs : List V} {ds : List Dt} (h : SqL K H a xs) (d : DatsAt K H xs ds) : DatAt K H (.ref a) (.lst ds) := by rw [DatAt]; exact ⟨a, xs, rfl, h, d⟩
theorem dats_nil {K : PySem.W.Frag} {H : Hp} : DatsAt K H [] [] := by simp [DatsAt]
theorem dats_cons {K : PySem.W.Frag} {H : Hp} {x : V} {xs : List V} {d : Dt} {ds : List Dt} (h : DatAt K H x d) (t : DatsAt K H xs ds) : DatsAt K H (x :: xs) (d :: ds) := by rw [DatsAt]; exact ⟨h, t⟩
theorem dats_app {K : PySem.W.Frag} {H : Hp} : ∀ {xs ys : List V} {ds es : List Dt}, DatsAt K H xs ds → DatsAt K H ys es → DatsAt K H (xs ++ ys) (ds ++ es)
  | [], _, [], _, _, h => h
  | [], _, _ :: _, _, h, _ => by simp [DatsAt] at h
  | _ :: _, _, [], _, h, _ => by simp [DatsAt] at h
  | x :: xs, _, d :: ds, _, h, g => by
    rw [DatsAt] at h
    exact dats_cons h.1 (dats_app h.2 g)
theorem dats_strs {K : PySem.W.Frag} {H : Hp} : ∀ (ys : List Str), DatsAt K H (ys.map V.str) (ys.map Dt.str)
  | [] => dats_nil
  | y :: ys => dats_cons dat_str (dats_strs ys)
theorem noLs_app : ∀ (ds es : List Dt), Dt.noLs (ds ++ es) = (Dt.noLs ds && Dt.noLs es)
  | [], es => by simp [Dt.noLs]
  | d :: ds, es => by rw [List.cons_append, Dt.noLs, Dt.noLs, noLs_app ds es, Bool.and_assoc]
theorem strItem {ns : List Str} {i : Nat} {x : V} (h : (ns.map V.str)[i]? = some x) : ∃ f, x = .str f ∧ ns[i]? = some f := by
  rw [List.getElem?_map] at h
  cases e : ns[i]? with
  | none => rw [e] at h; cases h
  | some f => rw [e] at h; exact ⟨f, (Option.some.inj h).symm, rfl⟩
end L2
namespace L2
theorem seq_const {v : V} {i : Nat} {u : TS} {D : Ends} {σ : St} {H : Hp} (h : u D (σ.set i (some v)) H) : tSeq (tAsg (tC v) (gName i)) u D σ H := h
end L2
namespace L2
open PySem
def KB2 (d e : Addr) (H H' : Hp) : Prop := ∀ b o, H b = some o → b ≠ d → b ≠ e → H' b = some o
theorem KB2.trans {d e : Addr} {H H1 H2 : Hp} (a : KB2 d e H H1) (b : KB2 d e H1 H2) : KB2 d e H H2 := fun c o h n m => b c o (a c o h n m) n m
theorem KB.l {d e : Addr} {H H' : Hp} (k : KB d H H') : KB2 d e H H' := fun b o h n _ => k b o h n
theorem KB.r {d e : Addr} {H H' : Hp} (k : KB e H H') : KB2 d e H H' := fun b o h _ n => k b o h n
theorem Same.kb2 {d e : Addr} {H H' : Hp} (s : Same H H') : KB2 d e H H' := fun b o h _ _ => s b o h
theorem KB2.kts {K : PySem.W.Frag} {d e : Addr} {xs ys : List V} {H H' : Hp} (hd : H d = some (.lst xs)) (he : H e = some (.lst ys)) (k : KB2 d e H H') : KTs K H H' := fun a zs z => by
  rcases z with (z | ⟨o, z⟩) | z
  · exact .inl (.inl (k _ _ z (ne_of z hd (fun z => nomatch z)) (ne_of z he (fun z => nomatch z))))
  · exact .inl (.inr ⟨o, k _ _ z (ne_of z hd (fun z => nomatch z)) (ne_of z he (fun z => nomatch z))⟩)
  · exact .inr z
theorem KB2.seq {K : PySem.W.Frag} {d e : Addr} {H H' : Hp} {a : Addr} {xs : List V} (k : KB2 d e H H') (n : a ≠ d) (m : a ≠ e) (h : SqL K H a xs) : SqL K H' a xs := by
  rcases h with (h | ⟨o, h⟩) | h
  · exact .inl (.inl (k _ _ h n m))
  · exact .inl (.inr ⟨o, k _ _ h n m⟩)
  · exact .inr h
theorem FnOk.none {P : Program} {w : World} {K : PySem.W.Frag} {mg : Str → Option Value} {base : Heap} {CX : CXT} {k : Nat} {f : Addr} {fd : FuncData} {ps : List Str} {sp : Sp} (h : ∀ vs H Q E, ¬ sp vs H Q E) : FnOk P w K mg base CX k f fd ps sp :=
  ⟨fun vs H Q E q => (h _ _ _ _ q).elim, fun A outer s H args us vs Q E _ _ _ _ hs => (h _ _ _ _ hs).elim⟩
end L2
set_option Elab.async false
set_option linter.all false
set_option maxRecDepth 100000
set_option maxHeartbeats 4000000
namespace L2
open PySem PySem.Spec PyProof.Rows
theorem nolen_lr : typeLookup (.type "list_reverseiterator") "__len__" = pure none := by rw [typeLookup_type, builtinLookup_eq_fast]; kernel_rfl
theorem hint_lr : typeLookup (.type "list_reverseiterator") "__length_hint__" = pure (some (.builtin "list_reverseiterator.__length_hint__")) := by rw [typeLookup_type, builtinLookup_eq_fast]; kernel_rfl
section
variable {prog : Program} {w : World} {A : Around} {s : Shared} {R : Result → Shared → Prop}
theorem extend_rev {I l S : Addr} {its : Array Value} {res : Value} {c0 : Nat} (hh : A.handled = none) (hlI : l ≠ I) (hSI : S ≠ I) (hSl : S ≠ l) (hit : s.heap.IsRevIter I l ((its.size : Int) - 1)) (hl : s.heap.IsList l its) (hz : its.size ≤ sizeLine)
    (hS : s.heap.get? S = some { cls := .type "list", data := .seq #[] c0 })
    (hR : ∀ h' tk acc c, (∀ b o, b ≠ S → b ≠ I → s.heap.get? b = some o → h'.get? b = some o) → h'.get? S = some { cls := .type "list", dict := none, data := .seq acc c, slots := #[] } → ItemsOf (fun i v => its[its.size - 1 - i]? = some v) acc its.size →
      R (.ok (.ret res)) { s with heap := h', toks := tk }) :
    wpAny (model prog w) A.in1 (Builtin.List.listExtendWith (.ref S) (.ref I) res) (fun fin s' => match fin with | .done f => R (.ok f) s' | .again c' => c'.quiet = true ∧ codeAny (model prog w) A c' R s') (fun e s' => R (.error e) s') s := by
  have hSf : S ∉ [I, l] := fun hm => by
    rcases List.mem_cons.mp hm with z | z
    · exact hSI z
    · exact hSl (List.mem_singleton.mp z)
  have W := (Walks.listRev (prog := prog) (w := w) (A := A.in1) hh I l hlI its).toS
  unfold Builtin.List.listExtendWith
  (refine wpAny_bind (wpAny_typeOf hit.typeIs ?_))
  have g1 : Builtin.List.listSameRef (.ref S) (.ref I) = false := by simp [Builtin.List.listSameRef, hSI]
  rw [if_neg (by rw [g1]; decide)]; refine wpAny_bind (wpAny_pyIter_revIter hit ?_)
  (refine wpAny_bind (wpAny_holding ?_)); unfold Builtin.List.listLengthHint
  refine wpAny_bind (wpAny_specialOf hit.typeIs nolen_lr ?_)
  show wpAny _ A.in1 (specialOf (Value.ref I) (Str.ofString "__length_hint__") >>= _) _ _ s
  refine wpAny_bind (wpAny_specialOf hit.typeIs hint_lr ?_)
  generalize hid : ("list_reverseiterator.__length_hint__" : String) = id0
  wp_delta
  rw [show splitId id0 = some ("list_reverseiterator", "__length_hint__") from by subst hid; decide +kernel]; subst hid
  refine wpAny_bind (wpAny_isInstance (T := "list_reverseiterator") (b := true) hit.typeIs (by rw [isSubtype_type]; kernel_rfl) ?_)
  (refine wpAny_pure ?_); rw [if_neg (by decide)]
  refine wpAny_pure ⟨plainId_quiet F.plain_extend_loop _, codeAny_extend_loopS W hz S hSf res its.size 0 s _ c0 rfl (Nat.zero_le _) ⟨Nat.zero_le _, by simpa using hit, hl⟩ hS (ItemsOf.nil _) fun s' acc c hm hS' ha => ?_⟩
  rw [Moved.eq_with hm]
  refine hR s'.heap s'.toks acc c (fun b o hb hb' e => hm.heap b o (fun z => ?_) e) hS' ha
  rcases List.mem_cons.mp z with z | z
  · exact hb z
  · exact hb' (List.mem_singleton.mp z)
end
section
variable {prog : Program} {w : World} {A : Around} {E : Value → Shared → Prop} {s : Shared}
theorem call_list_rev {Q : Value → Shared → Prop} {I l : Addr} {its : Array Value} (hh : A.handled = none) (hlI : l ≠ I) (hit : s.heap.IsRevIter I l ((its.size : Int) - 1)) (hl : s.heap.IsList l its) (hz : its.size ≤ sizeLine)
    (hQ : ∀ h' tk acc c, (∀ b o, b ≠ I → s.heap.get? b = some o → h'.get? b = some o) → h'.get? s.heap.objs.size = some { cls := .type "list", dict := none, data := .seq acc c, slots := #[] } → ItemsOf (fun i v => its[its.size - 1 - i]? = some v) acc its.size →
      Q (.ref s.heap.objs.size) { s with heap := h', toks := tk }) : wpAny (model prog w) A (call (.type "list") [.ref I]) Q E s := by
  have bI : I < s.heap.objs.size := by obtain ⟨o, e, _⟩ := hit; exact Heap.lt_size e
  have bl : l < s.heap.objs.size := by obtain ⟨o, e, _⟩ := hl; exact Heap.lt_size e
  refine callType_codes (Q₁ := fun obj s1 => obj = .ref s.heap.objs.size ∧ s1 = { s with heap := s.heap.push { cls := .type "list", data := .seq #[] } }) F.called_list (F.typeCall_list_1 _) F.entry_list_init (code_list_new _ ⟨rfl, rfl⟩) fun obj s1 e1 => ?_
  obtain ⟨rfl, rfl⟩ := e1
  have hS : (s.heap.push { cls := .type "list", data := .seq #[] }).get? s.heap.objs.size = some { cls := .type "list", data := .seq #[] } := Heap.get?_push_size _ rfl
  have old : ∀ b o, s.heap.get? b = some o → b ≠ s.heap.objs.size := fun b o e => Nat.ne_of_lt (Heap.lt_size e)
  refine ⟨⟨_, hS, rfl⟩, F.args_list_init_2 _ _, ?_⟩
  show wpAny _ _ (do let old ← Builtin.List.listItems (.ref s.heap.objs.size); Builtin.List.listUpdate (.ref s.heap.objs.size) (fun _ => #[]); letGo old.toList.reverse; Builtin.List.listExtendWith (.ref s.heap.objs.size) (.ref I) .none) _ _ _
  (refine wpAny_bind ?_); unfold Builtin.List.listItems; refine wpAny_bind (wpAny_seqItems hS rfl (wpAny_pure ?_))
  show wpAny _ _ (updateSeq s.heap.objs.size (fun _ => #[]) >>= fun _ => letGo (#[] : Array Value).toList.reverse >>= fun _ => Builtin.List.listExtendWith (.ref s.heap.objs.size) (.ref I) .none) _ _ _
  refine wpAny_bind (wpAny_updateSeq hS rfl ?_)
  have hS2 := Heap.get?_update_self (Obj.mapSeq (fun _ => (#[] : Array Value))) hS rfl
  have oth : ∀ b o, s.heap.get? b = some o → ((s.heap.push { cls := .type "list", data := .seq #[] }).update s.heap.objs.size (Obj.mapSeq (fun _ => (#[] : Array Value)))).get? b = some o :=
    fun b o e => (Heap.get?_update_other _ _ (Ne.symm (old b o e))).trans (Heap.get?_push_of_some _ e)
  (refine wpAny_bind (wpAny_letGo ?_)); refine extend_rev (A := A.in1) hh hlI (Nat.ne_of_gt bI) (Nat.ne_of_gt bl) (hit.at fun o e => oth _ o e) (hl.at fun o e => oth _ o e) hz hS2 fun h' tk acc c k e a => ?_
  exact ⟨rfl, hQ h' tk acc c (fun b o hb e => k b o (old b o e) hb (oth b o e)) e a⟩
end
theorem paired_reverse {α β : Type} {r : α → β → Prop} {xs : List α} {ys : List β} (h : Paired r xs ys) : Paired r xs.reverse ys.reverse := by
  induction h with
  | nil => exact .nil
  | cons a _ ih => rw [List.reverse_cons, List.reverse_cons]; exact paired_append ih (.cons a .nil)
theorem items_rev {its : List Value} {acc : Array Value} (h : ItemsOf (fun i v => its.toArray[its.toArray.size - 1 - i]? = some v) acc its.toArray.size) : acc.toList = its.reverse := by
  obtain ⟨hs, hv⟩ := h
  simp only [List.size_toArray, List.getElem?_toArray] at hs hv
  apply List.ext_getElem?
  intro j
  by_cases hj : j < its.length
  · have e1 : acc[j]? = some acc[j] := Array.getElem?_eq_getElem (by omega)
    have e2 := hv j _ e1
    rw [List.getElem?_reverse hj, e2, Array.getElem?_toList, e1]
  · rw [List.getElem?_eq_none (by rw [Array.length_toList]; omega), List.getElem?_eq_none (by rw [List.length_reverse]; omega)]
section
variable {X : Cx}
def tLR (K : PySem.W.Frag) (ta : TA) : TE := fun σ H Q => ta σ H fun vs H1 => ∃ (a : Addr) (xs : List V), vs = [.ref a] ∧ SqL K H1 a xs ∧ ∀ l, H1 l = none → Q (.ref l) (upd H1 l (.lst xs.reverse))
theorem pe_listrev (K : PySem.W.Frag) {a : Expr} {ta : TA} {p p' pos pos' : Pos} (hc : X.calm = true) (hg : Gl X "list") (hm : X.mg "list" = none) (hg' : Gl X "reversed") (hm' : X.mg "reversed" = none) (ha : PA X [a] ta) (hK : X.K = K := by rfl)
    (hs : starEach [a] X.env = [(false, eval a X.env)] := by rfl) : PE X (.Call (.Name "list" p) [.Call (.Name "reversed" p') [a] [] pos'] [] pos) (tLR K ta) := by
  subst hK
  intro pins s σ H Q I h
  refine wpAny_Call_Name_kw (ld_blt I hg hm bt_list ?_)
  refine PyProof.Rows.callWith_type1 ?_ rfl rfl
  rw [show starEach [.Call (.Name "reversed" p') [a] [] pos'] X.env = [(false, eval (.Call (.Name "reversed" p') [a] [] pos') X.env)] from rfl]
  show wpAny _ _ (spliced [(false, eval (.Call (.Name "reversed" p') [a] [] pos') X.env)]) _ _ s
  refine Calls.spliced_cons ?_
  refine Call_ (ld_blt I hg' hm' bt_reversed (PyProof.Rows.callWith_type1 (thn (ha pos' pins s σ H _ I h) fun us s1 ⟨vs, H1, I1, r1, q1⟩ => ?_) hs rfl))
  obtain ⟨l, xs, e, hq, q⟩ := q1
  subst e
  cases r1 with
  | cons r rr =>
    cases rr
    cases r
    obtain ⟨its, rv, pl, hz⟩ := I1.list hq
    have hl := rv.length
    refine call_reversed_list pl.isList (Calls.spliced_nil ?_)
    have bl : l < s1.heap.objs.size := by obtain ⟨o, e, _⟩ := pl.isList; exact Heap.lt_size e
    refine call_list_rev (I1.ok.hd hc) (I := s1.heap.objs.size) (its := its.toArray) (Nat.ne_of_lt bl) ⟨_, Heap.get?_push_size _ rfl, rfl, rfl⟩ (pl.isList.push _) (by simp only [List.size_toArray]; omega) fun h' tk acc c k e it => ?_
    have ei := items_rev it
    have kp : ∀ b u, s1.heap.get? b = some u → h'.get? b = some u := fun b u e => k b u (Nat.ne_of_lt (Heap.lt_size e)) (Heap.get?_push_of_some _ e)
    rw [Heap.size_push] at e
    have hp : s1.heap.objs.size ≤ s1.heap.objs.size + 1 := Nat.le_succ _
    refine ⟨.ref (s1.heap.objs.size + 1), _, I1.laid (t' := tk) kp hp (show ObjOk X.prog X.w _ h' _ (.lst xs.reverse) from ⟨by rw [List.length_reverse]; exact hz, acc.toList, c, by rw [ei]; exact paired_reverse rv, e⟩), ?_, q _ (I1.hok.fresh hp)⟩
    show RelV (.ref _) _
    rw [show (s1.heap.push (revObj l ((its.toArray.size : Int) - 1))).objs.size = s1.heap.objs.size + 1 from Heap.size_push ..]
    rfl
end
section
variable {prog : Program} {w : World} {A : Around} {R : Result → Shared → Prop} {I : Addr} {fp wr : List Addr} {St : Nat → Heap → Prop} {its : Array Value} {val : Nat → Int} {kw : List (Str × Value)}
end
section
variable {prog : Program} {w : World} {A : Around} {E : Value → Shared → Prop} {s : Shared}
end
section
variable {X : Cx}
end
end L2
set_option Elab.async false
set_option linter.all false
set_option maxRecDepth 100000
set_option maxHeartbeats 4000000
namespace L2
open PySem PySem.Spec PyProof.Rows
open AutoSeq1 (wpAny_loadPart')
section
variable {prog : Program} {w : World} {A : Around} {E : Value → Shared → Prop} {s : Shared}
end
section
variable {prog : Program} {w : World} {A : Around} {E : Value → Shared → Prop} {s : Shared}
end
end L2
set_option Elab.async false
set_option linter.all false
set_option maxRecDepth 100000
set_option maxHeartbeats 4000000
namespace L2
open PySem PySem.Spec PyProof.Rows
section
variable {X : Cx}
theorem strsAre_by : ∀ {vs : List Value} {ss : List Str}, vs.length = ss.length → (∀ (i : Nat) (v : Value) (x : Str), vs[i]? = some v → ss[i]? = some x → ∃ t, v = .str x t) → StrsAre vs ss
  | [], [], _, _ => .nil
  | [], _ :: _, h, _ => by cases h
  | _ :: _, [], h, _ => by cases h
  | v :: vs, x :: ss, h, k => by
    obtain ⟨t, rfl⟩ := k 0 v x rfl rfl
    exact .cons x t (strsAre_by (Nat.succ.inj h) fun i v y e1 e2 => k (i + 1) v y e1 e2)
end
end L2
set_option Elab.async false
set_option linter.all false
set_option maxRecDepth 100000
set_option maxHeartbeats 4000000
namespace L2
open PySem PySem.Spec PyProof.Rows
section
variable {X : Cx} {pins : List (Addr × Obj)} {σ : List (Option V)} {H : Hp} {s : Shared}
end
section
variable {X : Cx} {tg : Expr}
end
section
variable {X : Cx}
end
section
variable {X : Cx}
end
end L2
set_option Elab.async false
set_option linter.all false
set_option maxRecDepth 100000
set_option maxHeartbeats 4000000
namespace L2
open PySem PySem.Spec PyProof.Rows
section
variable {X : Cx} {pins : List (Addr × Obj)} {σ : List (Option V)} {H : Hp} {s : Shared} {h' : Heap}
end
section
variable {X : Cx} {tg : Expr}
end
end L2
namespace L2
open PySem PySem.Spec PyProof.Rows
open PySem.AutoSeq1 (wpAny_loadPart')
open PySem.MeetsSeq PySem.MeetsSeq2 PySem.MeetsSeq3
section
variable {prog : Program} {w : World} {A : Around} {E : Value → Shared → Prop} {s : Shared}
end
section
variable {X : Cx}
end
end L2
set_option Elab.async false
set_option linter.all false
set_option maxRecDepth 100000
set_option maxHeartbeats 4000000
namespace L2
open PySem PySem.Spec PyProof.Rows
theorem lay_led (t : SetTable) (es : Array (Int × Value)) (h : Int) (x : Value) : (layNew t es h x).2.1.led = t.led := by
  unfold layNew
  split
  · unfold SetTable.put SetTable.orStandIn SetTable.standIn
    dsimp only
    repeat' split
    all_goals rfl
  · rfl
theorem relay_led (t : SetTable) (es : Array (Int × Value)) (n : Nat) : (relayAll t es n).2.1.led = t.led := by
  unfold relayAll
  split
  · rename_i q r e
    unfold SetTable.relaid SetTable.laid at e
    dsimp only
    split
    · simp only [Option.bind_eq_bind, Option.bind_eq_some_iff, Option.pure_def, Option.some.injEq, Prod.mk.injEq] at e
      obtain ⟨_, _, e1, _⟩ := e
      rw [← e1]
    · rfl
  · rfl
theorem relay_plain {t : SetTable} (es : Array (Int × Value)) (n : Nat) (hp : t.plain = false) : (relayAll t es n).2.1.plain = false := by
  unfold relayAll
  split
  · rename_i q r e
    unfold SetTable.relaid SetTable.laid at e
    dsimp only
    split
    · simp only [Option.bind_eq_bind, Option.bind_eq_some_iff, Option.pure_def, Option.some.injEq, Prod.mk.injEq] at e
      obtain ⟨_, _, e1, _⟩ := e
      rw [← e1]
      exact hp
    · rfl
  · rfl
structure SetS (P : Program) (w : World) (h : Heap) (a : Addr) (es : Array (Int × Value)) (ep : Nat) (t : SetTable) (ks : List Str) : Prop where
  obj : ∃ o, h.get? a = some o ∧ o.ExactSet ∧ o.data = .set es ep t
  elems : ElemsOf (strKind P w) es.toList
  small : es.size < scanBound
  fits : t.fits es.size = true
  led : t.led = !w.params.followText "set-order"
  plain : es.size ≠ 0 → t.plain = false
  vals : StrsAre (es.toList.map (·.2)) ks
  once : ks.Nodup
theorem SetS.at {P : Program} {w : World} {h h' : Heap} {a : Addr} {es : Array (Int × Value)} {ep : Nat} {t : SetTable} {ks : List Str} (s : SetS P w h a es ep t ks) (k : ∀ o, h.get? a = some o → h'.get? a = some o) : SetS P w h' a es ep t ks := by
  obtain ⟨o, e, r⟩ := s.obj
  exact ⟨⟨o, k o e, r⟩, s.elems, s.small, s.fits, s.led, s.plain, s.vals, s.once⟩
theorem SetS.len {P : Program} {w : World} {h : Heap} {a : Addr} {es : Array (Int × Value)} {ep : Nat} {t : SetTable} {ks : List Str} (s : SetS P w h a es ep t ks) : es.size = ks.length := by
  have := s.vals.length
  rw [List.length_map, Array.length_toList] at this
  exact this
theorem strs_perm {vs us : List Value} (p : vs.Perm us) : ∀ {ks : List Str}, StrsAre us ks → ∃ ks', StrsAre vs ks' ∧ ks'.Perm ks := by
  induction p with
  | nil => intro ks h; cases h; exact ⟨[], .nil, .refl _⟩
  | cons x _ ih =>
    intro ks h
    cases h with
    | cons y tk r =>
      obtain ⟨k', a, b⟩ := ih r
      exact ⟨y :: k', .cons y tk a, b.cons y⟩
  | swap x y l =>
    intro ks h
    cases h with
    | cons a ta r =>
      cases r with
      | cons b tb r => exact ⟨b :: a :: _, .cons b tb (.cons a ta r), .swap a b _⟩
  | trans _ _ ih1 ih2 =>
    intro ks h
    obtain ⟨k1, a1, b1⟩ := ih2 h
    obtain ⟨k2, a2, b2⟩ := ih1 a1
    exact ⟨k2, a2, b2.trans b1⟩
theorem strs_app {us vs : List Value} {ks ls : List Str} (h1 : StrsAre us ks) (h2 : StrsAre vs ls) : StrsAre (us ++ vs) (ks ++ ls) := by
  induction h1 with
  | nil => exact h2
  | cons x tk _ ih => exact .cons x tk ih
theorem strs_mem {us : List Value} {ks : List Str} (h : StrsAre us ks) {x : Str} : x ∈ ks ↔ ∃ tk, Value.str x tk ∈ us := by
  induction h with
  | nil => simp
  | cons y tk _ ih =>
    constructor
    · intro m
      rcases List.mem_cons.mp m with e | m
      · exact ⟨tk, by rw [e]; exact List.mem_cons_self⟩
      · obtain ⟨t', m'⟩ := ih.mp m
        exact ⟨t', List.mem_cons_of_mem _ m'⟩
    · rintro ⟨t', m⟩
      rcases List.mem_cons.mp m with e | m
      · injection e with e1 _
        rw [e1]; exact List.mem_cons_self
      · exact List.mem_cons_of_mem _ (ih.mpr ⟨t', m⟩)
section
variable {P : Program} {w : World} {A : Around} {E : Value → Shared → Prop} {s : Shared}
theorem add_text {a : Addr} {es : Array (Int × Value)} {ep : Nat} {t : SetTable} {ks : List Str} {x : Str} {tk : Tok} {Q : Bool → Shared → Prop} (S : SetS P w s.heap a es ep t ks) (room : ks.length + 1 < scanBound)
    (hold : x ∈ ks → Q false s)
    (hnew : x ∉ ks → ∀ h' es' ep' t' ks', Heap.SameBut a s.heap h' → SetS P w h' a es' ep' t' ks' → (∀ y, y ∈ ks' ↔ y ∈ ks ∨ y = x) → ks'.length = ks.length + 1 → Q true { s with heap := h' }) :
    wpAny (model P w) A (setAddHashed a (.str x tk) (hashStr w x)) Q E s := by
  obtain ⟨o, ho, hex, hd⟩ := S.obj
  have hln := S.len
  have isx : (strKind P w).is x (.str x tk) = true := strKind_is P w x tk
  have scx : (Value.str x tk).scannable = true := rfl
  have hhash : hashStr w x = (strKind P w).hash x := rfl
  rw [hhash]
  unfold setAddHashed setAddHashedIn
  refine wpAny_holding (wpAny_bind (wpAny_setState_of ho hd S.fits ?_))
  dsimp only
  rw [byScan_of scx S.small S.elems, if_pos rfl]
  unfold setAddByScan
  refine wpAny_bind (wpAny_bind (wpAny_rule (wpAny_bind (wpAny_setScan_of isx ho hd S.fits S.elems ?_))))
  have memk : x ∈ ks ↔ ∃ e ∈ es.toList, (strKind P w).is x e.2 = true := by
    rw [strs_mem S.vals]
    constructor
    · rintro ⟨t', m⟩
      obtain ⟨e, he, e2⟩ := List.mem_map.mp m
      exact ⟨e, he, by rw [e2]; exact strKind_is P w x t'⟩
    · rintro ⟨e, he, hi⟩
      obtain ⟨t', e2⟩ := Value.isStrOf_shape (x := x) (v := e.2) hi
      exact ⟨t', by rw [← e2]; exact List.mem_map.mpr ⟨e, he, rfl⟩⟩
  cases hr : List.findIdx? (fun e => (strKind P w).is x e.2) es.toList with
  | some j =>
    dsimp only
    obtain ⟨hj, hpj, _⟩ := List.findIdx?_eq_some_iff_getElem.mp hr
    exact wpAny_pure (wpAny_pure (hold (memk.mpr ⟨_, List.getElem_mem hj, hpj⟩)))
  | none =>
    dsimp only
    have nk : x ∉ ks := fun m => by
      obtain ⟨e, he, hp⟩ := memk.mp m
      have := List.findIdx?_eq_none_iff.mp hr e he
      rw [hp] at this
      cases this
    have hperm := layNew_perm t es ((strKind P w).hash x) (.str x tk)
    have hfits := layNew_fits t es ((strKind P w).hash x) (.str x tk)
    have hled := lay_led t es ((strKind P w).hash x) (.str x tk)
    generalize layNew t es ((strKind P w).hash x) (.str x tk) = L at hperm hfits hled ⊢
    obtain ⟨es1, t1, wasDummy, gave⟩ := L
    dsimp only at hperm hfits hled ⊢
    rw [Array.toList_push] at hperm
    have el1 : ElemsOf (strKind P w) es1.toList := (S.elems.push isx scx).perm hperm
    have sz1 : es1.size = es.size + 1 := by rw [← Array.length_toList, hperm.length_eq, List.length_append, Array.length_toList]; rfl
    have sm1 : es1.size < scanBound := by omega
    obtain ⟨ks1, v1, p1⟩ := strs_perm (hperm.map (·.2)) (ks := ks ++ [x]) (by rw [List.map_append]; exact strs_app S.vals (.cons x tk .nil))
    have on1 : ks1.Nodup := p1.nodup_iff.mpr (List.nodup_append.mpr ⟨S.once, by simp, fun y hy z hz => by rw [List.mem_singleton.mp hz]; exact fun e => nk (e ▸ hy)⟩)
    have mem1 : ∀ y, y ∈ ks1 ↔ y ∈ ks ∨ y = x := fun y => by rw [p1.mem_iff, List.mem_append, List.mem_singleton]
    have ln1 : ks1.length = ks.length + 1 := by rw [p1.length_eq, List.length_append]; rfl
    have fin : ∀ t2 : SetTable, t2.fits es1.size = true → t2.led = t.led → t2.plain = false →
        wpAny (model P w) A (do
          storeSet a es1 t2
          if (!wasDummy && t2.tooFull) = true then do
              (match (relayAll t2 es1 (SetTable.grown es1.size)).2.2 with | true => rule "set.scan.the-table-gave-way" | false => pure ())
              storeSet a (relayAll t2 es1 (SetTable.grown es1.size)).1 (relayAll t2 es1 (SetTable.grown es1.size)).2.1
              pure (some true)
            else pure (some true)) (fun r s' => r = some true ∧ Q true s') E s := fun t2 f2 l2 p2 => by
      refine wpAny_bind (wpAny_storeSet_of ho hd ?_ (fits_of_scanBound sm1))
      have hg : (s.heap.update a (Obj.putSet es1 t2)).get? a = some { o with data := .set es1 (ep + 1) t2 } := by
        have q := Heap.get?_update_self (Obj.putSet es1 t2) ho (by rw [putSet_of es1 t2 hd]; rfl)
        rw [putSet_of es1 t2 hd] at q
        exact q
      have sb1 := Heap.SameBut.update s.heap a (Obj.putSet es1 t2)
      have S1 : SetS P w (s.heap.update a (Obj.putSet es1 t2)) a es1 (ep + 1) t2 ks1 := ⟨⟨_, hg, hex, rfl⟩, el1, sm1, f2, by rw [l2]; exact S.led, fun _ => p2, v1, on1⟩
      split
      · have pr := relayAll_perm t2 es1 (SetTable.grown es1.size)
        have fr := relayAll_fits t2 es1 (SetTable.grown es1.size)
        have lr := relay_led t2 es1 (SetTable.grown es1.size)
        have plr := relay_plain es1 (SetTable.grown es1.size) p2
        generalize relayAll t2 es1 (SetTable.grown es1.size) = Rl at pr fr lr plr ⊢
        obtain ⟨es2, t3, gv⟩ := Rl
        dsimp only at pr fr lr plr ⊢
        have sz2 : es2.size = es1.size := by rw [← Array.length_toList, pr.length_eq, Array.length_toList]
        have sm2 : es2.size < scanBound := by omega
        obtain ⟨ks2, v2, p2'⟩ := strs_perm (pr.map (·.2)) v1
        refine wpAny_bind ?_
        have rest : wpAny (model P w) A (do storeSet a es2 t3; pure (some true)) (fun r s' => r = some true ∧ Q true s') E { s with heap := s.heap.update a (Obj.putSet es1 t2) } := by
          refine wpAny_bind (wpAny_storeSet_of hg rfl (wpAny_pure ⟨rfl, ?_⟩) (fits_of_scanBound sm2))
          have hg2 := Heap.get?_update_self (Obj.putSet es2 t3) hg (by rw [putSet_of es2 t3 rfl]; rfl)
          rw [putSet_of es2 t3 rfl] at hg2
          exact hnew nk _ es2 (ep + 1 + 1) t3 ks2 (sb1.trans (Heap.SameBut.update _ a _)) ⟨⟨_, hg2, hex, rfl⟩, el1.perm pr, sm2, by rw [sz2] at fr ⊢; exact fr, by rw [lr, l2]; exact S.led, fun _ => plr, v2, p2'.nodup_iff.mpr on1⟩
            (fun y => by rw [p2'.mem_iff]; exact mem1 y) (by rw [p2'.length_eq]; exact ln1)
        cases gv
        · exact wpAny_pure rest
        · exact wpAny_rule rest
      · exact wpAny_pure ⟨rfl, hnew nk _ es1 (ep + 1) t2 ks1 sb1 S1 mem1 ln1⟩
    refine wpAny_bind ?_
    have rest : wpAny (model P w) A (do
        let byValue ← if t1.plain = true then hashByValue 8 (.str x tk) else pure true
        storeSet a es1 (if byValue = true then t1 else { t1 with plain := false })
        if (!wasDummy && (if byValue = true then t1 else { t1 with plain := false }).tooFull) = true then do
            (match (relayAll (if byValue = true then t1 else { t1 with plain := false }) es1 (SetTable.grown es1.size)).2.2 with | true => rule "set.scan.the-table-gave-way" | false => pure ())
            storeSet a (relayAll (if byValue = true then t1 else { t1 with plain := false }) es1 (SetTable.grown es1.size)).1 (relayAll (if byValue = true then t1 else { t1 with plain := false }) es1 (SetTable.grown es1.size)).2.1
            pure (some true)
          else pure (some true)) (fun r s' => r = some true ∧ Q true s') E s := by
      cases hpl : t1.plain with
      | true =>
        rw [if_pos rfl, hashByValue_scannable 8 scx]
        refine wpAny_bind (wpAny_pure ?_)
        exact fin { t1 with plain := false } (SetTable.fits_plain_off hfits) hled rfl
      | false =>
        rw [if_neg (by decide)]
        refine wpAny_bind (wpAny_pure ?_)
        exact fin t1 hfits hled hpl
    have go : ∀ r s', (r = some true ∧ Q true s') → wpAny (model P w) A (match r with | some added => pure added | none => setAddHashedIn a (.str x tk) ((strKind P w).hash x) 99999) Q E s' := fun r s' ⟨e, q⟩ => by
      subst e
      exact wpAny_pure q
    cases gave
    · exact wpAny_pure (thn rest go)
    · exact wpAny_rule (thn rest go)
end
end L2
set_option Elab.async false
set_option linter.all false
set_option maxRecDepth 100000
set_option maxHeartbeats 4000000
namespace L2
open PySem PySem.Spec PyProof.Rows
theorem strs_at {us : List Value} {xs : List Str} (hi : StrsAre us xs) : ∀ (i : Nat) (v : Value), us[i]? = some v → ∃ x t, xs[i]? = some x ∧ v = .str x t := by
  induction hi with
  | nil => intro i v hv; simp at hv
  | cons y ty _ ih =>
    intro i v hv
    cases i with
    | zero =>
      have e : Value.str y ty = v := by simpa using hv
      exact ⟨y, ty, rfl, e.symm⟩
    | succ i => exact ih i v (by simpa using hv)
section
variable {P : Program} {w : World} {A : Around} {R : Result → Shared → Prop} {I S : Addr} {fp wr : List Addr} {G : Array GenState → Array GenState → Prop} {n : Nat} {Pv : Nat → Value → Prop} {St : Nat → Shared → Prop}
theorem set_loop (W : WalksS P w A.in1 I fp wr G n Pv St) (hSf : S ∉ fp) (xs : List Str) (hxl : xs.length = n) (hval : ∀ i v, Pv i v → ∃ x t, xs[i]? = some x ∧ v = .str x t) (hb : n + 1 < scanBound) :
    ∀ (k i : Nat) (s : Shared) (es : Array (Int × Value)) (ep : Nat) (t : SetTable) (ks : List Str), n - i = k → i ≤ n → St i s → SetS P w s.heap S es ep t ks → (∀ y, y ∈ ks ↔ y ∈ xs.take i) → ks.length ≤ i →
      (∀ s' es' ep' t' ks', Moved (S :: wr) G s s' → SetS P w s'.heap S es' ep' t' ks' → (∀ y, y ∈ ks' ↔ y ∈ xs) → ks'.length ≤ n → R (.ok (.ret .none)) s') →
      codeAny (model P w) A (.builtin "set.update.loop" ⟨[.ref S, .ref I], []⟩) R s := by
  have hSw : S ∉ wr := fun z => hSf (W.sub _ z)
  have more : ∀ b ∈ wr, b ∈ S :: wr := fun b z => List.mem_cons_of_mem _ z
  intro k
  induction k with
  | zero =>
    intro i s es ep t ks hk hi st hS hm hl hR
    have e : i = n := by omega
    subst e
    refine codeAny_builtin PyProof.Rows.F.entry_set_update_loop ?_
    rw [Around.under_plainId PyProof.Rows.F.plain_set_update_loop]
    show wpAny (model P w) A.in1 (pyNext (.ref I) >>= _) _ _ s
    refine wpAny_bind (W.done s _ _ st fun s' mv => ?_)
    show wpAny (model P w) A.in1 (ret Value.none) _ _ s'
    refine wpAny_pure (hR s' es ep t ks (mv.mono more) (hS.at fun o q => mv.heap S o hSw q) (fun y => ?_) hl)
    rw [hm y, List.take_of_length_le (by omega)]
  | succ k ih =>
    intro i s es ep t ks hk hi st hS hm hl hR
    have lt : i < n := by omega
    refine codeAny_builtin PyProof.Rows.F.entry_set_update_loop ?_
    rw [Around.under_plainId PyProof.Rows.F.plain_set_update_loop]
    show wpAny (model P w) A.in1 (pyNext (.ref I) >>= _) _ _ s
    refine wpAny_bind (W.item i s _ _ lt st fun v s' hv st' mv => ?_)
    obtain ⟨x, tx, ex, rfl⟩ := hval i v hv
    have hS' : SetS P w s'.heap S es ep t ks := hS.at fun o q => mv.heap S o hSw q
    have tk1 : ∀ y, y ∈ xs.take (i + 1) ↔ y ∈ xs.take i ∨ y = x := fun y => by rw [List.take_add_one, ex]; simp
    show wpAny (model P w) A.in1 (holding [Value.str x tx] (setAdd S (.str x tx)) >>= _) _ _ s'
    refine wpAny_bind (wpAny_holding ?_)
    unfold setAdd
    refine wpAny_holding (wpAny_bind ((strKind P w).pyHash (k := x) (strKind_is _ _ _ _) ?_))
    refine add_text (s := { s' with toks := s'.toks + 1 }) hS' (by omega) (fun hx => ?_) (fun hx h' es' ep' t' ks' sb S2 m2 l2 => ?_)
    · refine wpAny_pure ⟨plainId_quiet PyProof.Rows.F.plain_set_update_loop _, ih (i + 1) _ es ep t ks (by omega) lt (W.frame _ s' s'.heap _ st' (Nat.le_succ _) fun b _ o q => q) hS' (fun y => ?_) (by omega) fun s2 es2 ep2 t2 ks2 mv2 S2 m2 l2 => ?_⟩
      · rw [hm y, tk1 y]
        constructor
        · exact .inl
        · rintro (z | z)
          · exact z
          · rw [z]; exact (hm x).mp hx
      · exact hR s2 es2 ep2 t2 ks2 (Moved.trans W.gtrans ((mv.mono more).then_heap (Nat.le_succ _) fun b o _ q => q) mv2) S2 m2 l2
    · refine wpAny_pure ⟨plainId_quiet PyProof.Rows.F.plain_set_update_loop _, ih (i + 1) _ es' ep' t' ks' (by omega) lt (W.frame _ s' h' _ st' (Nat.le_succ _) fun b hb o q => ?_) S2 (fun y => ?_) (by omega) fun s2 es2 ep2 t2 ks2 mv2 S2 m2 l2 => ?_⟩
      · exact (sb.2 b (fun z => hSf (z ▸ hb))).trans q
      · rw [m2 y, hm y, tk1 y]
      · exact hR s2 es2 ep2 t2 ks2 (Moved.trans W.gtrans ((mv.mono more).then_heap (Nat.le_succ _) fun b o hb q => (sb.2 b (fun z => hb (z ▸ List.mem_cons_self))).trans q) mv2) S2 m2 l2
end
section
variable {P : Program} {w : World} {A : Around} {E : Value → Shared → Prop} {s : Shared}
abbrev emptySet (w : World) : Obj := { cls := .type "set", dict := none, data := .set #[] 0 (.fresh 0 0 (!w.params.followText "set-order")) }
theorem set_born (v : Value) {Q : Value → Shared → Prop} (h : Q (.ref s.heap.objs.size) { s with heap := s.heap.push (emptySet w) }) :
    codeAny (model P w) A (.call (.builtin "set.__new__") ⟨[.type "set", v], []⟩) (wants Q E) s := by
  refine codeAny_of_tree ?_
  show wpAny (model P w) A.in1 (do checkBuiltinCall "set.__new__" ⟨[.type "set", v], []⟩; again (.builtin "set.__new__" ⟨[.type "set", v], []⟩)) _ _ s
  refine wpAny_bind (wpAny_of_eq (PySem.F.newCall_set_1 v) (wpAny_pure ⟨plainId_quiet PySem.F.plain_set_new _, codeAny_builtin PySem.F.entry_set_new ?_⟩))
  rw [Around.under_plainId PySem.F.plain_set_new]
  unfold Builtin.«set.__new__» Builtin.Frozenset.newClass
  have hsub := sub_set_self
  obtain ⟨hp, g, d, tk, os⟩ := s
  dsimp only
  wp_walk
  refine wpAny_askSetting (wpAny_pure ?_)
  dsimp only
  simp only [newObj]
  exact wpAny_bind (wpAny_alloc (wpAny_pure (wpAny_pure h)))
theorem fresh_set (h : Heap) : SetS P w (h.push (emptySet w)) h.objs.size #[] 0 (.fresh 0 0 (!w.params.followText "set-order")) [] :=
  ⟨⟨_, Heap.get?_push_size _ rfl, ⟨rfl, rfl, rfl⟩, rfl⟩, fun e he => (by simp at he), by decide, rfl, rfl, fun z => absurd rfl z, .nil, by simp⟩
theorem set_of_texts {l : Addr} {its : Array Value} {xs : List Str} {Q : Value → Shared → Prop} (hh : A.handled = none) (hl : s.heap.IsList l its) (hi : StrsAre its.toList xs) (hb : its.size + 1 < scanBound)
    (h : ∀ (h' : Heap) (tk : Nat) es ep t ks, SetS P w h' s.heap.objs.size es ep t ks → (∀ y, y ∈ ks ↔ y ∈ xs) → ks.length ≤ its.size → (∀ b o, b < s.heap.objs.size → s.heap.get? b = some o → h'.get? b = some o) → Q (.ref s.heap.objs.size) { s with heap := h', toks := tk }) :
    wpAny (model P w) A (call (.type "set") [.ref l]) Q E s := by
  obtain ⟨c, tl, hmro⟩ := PySem.F.called_set.mro
  have hmade := PySem.F.called_set.made
  have hsub := PySem.F.called_set.sub
  refine wpAny_call (codeAny_of_tree ?_)
  show wpAny _ _ (callAny (.type "set") _) _ _ _
  refine wpAny_pure ⟨Code.quiet_builtin _ (by decide +kernel), codeAny_builtin PySem.F.entry_type_call ?_⟩
  rw [Around.under_plain (weight_type_call_type "set" [.ref l] []) rfl]
  have a1 := PySem.F.called_set.notType
  have a2 := PySem.F.called_set.canCreate
  have a3 := PySem.F.typeCall_set_1 (.ref l)
  repeat (any_goals (first | assumption | wp_step))
  refine codeAny_mono (set_born (.ref l) (E := E) (Q := fun obj s₁ => obj = .ref s.heap.objs.size ∧ s₁ = { s with heap := s.heap.push (emptySet w) }) ⟨rfl, rfl⟩) fun r s₁ hr => ?_
  cases r with
  | error e => exact hr
  | ok fl =>
    cases fl with
    | ret obj =>
      obtain ⟨rfl, rfl⟩ := hr
      have gS : (s.heap.push (emptySet w)).get? s.heap.objs.size = some (emptySet w) := Heap.get?_push_size _ rfl
      have hT : Shared.TypeIs { s with heap := s.heap.push (emptySet w) } (.ref s.heap.objs.size) "set" := ⟨_, gS, rfl⟩
      have a4 := PySem.F.called_set.init.lookup
      have a5 := PySem.F.called_set.init.bind (.ref s.heap.objs.size)
      repeat (any_goals (first | assumption | wp_step))
      refine codeAny_mono (codeAny_call_builtin (R := wants (fun r s₂ => r = .none ∧ ∃ h' tk es ep t ks, s₂ = { s with heap := h', toks := tk } ∧ SetS P w h' s.heap.objs.size es ep t ks ∧ (∀ y, y ∈ ks ↔ y ∈ xs) ∧ ks.length ≤ its.size ∧
          (∀ b o, b < s.heap.objs.size → s.heap.get? b = some o → h'.get? b = some o)) E) PySem.F.called_set.init.plain PySem.F.entry_set_init (check_set_init_1 hT ?_)) fun r₂ s₂ hr₂ => ?_
      · obtain ⟨ol, hol, hcl, nl, hdl⟩ := hl
        obtain ⟨ocls, odict, odata, oslots⟩ := ol
        simp only at hcl hdl
        subst hcl hdl
        have hol' : (s.heap.push (emptySet w)).get? l = some { cls := .type "list", dict := odict, data := .seq its nl, slots := oslots } := Heap.get?_push_of_some _ hol
        have b1 := PySem.F.sub_list_set
        have b2 := PySem.F.sub_list_frozenset
        have b3 : (Value.type "list" == Value.type "dict") = false := by decide
        have hl1 : (s.heap.push (emptySet w)).IsList l its := ⟨_, hol', rfl, nl, rfl⟩
        unfold Builtin.«set.__init__» noKeywords Builtin.Frozenset.updateFrom
        generalize hPI : pyIter = PI
        wp_walk
        subst hPI
        refine wpAny_pyIter_list hl1 ?_
        refine wpAny_bind (wpAny_runValue ?_)
        have lS : l < s.heap.objs.size := Heap.lt_size hol
        have hh3 : A.in1.in1.in1.handled = none := by simp [hh]
        have neI : l ≠ (s.heap.push (emptySet w)).objs.size := by rw [Heap.size_push]; exact Nat.ne_of_lt (Nat.lt_succ_of_lt lS)
        have nf : s.heap.objs.size ∉ [(s.heap.push (emptySet w)).objs.size, l] := by
          rw [Heap.size_push]
          simp only [List.mem_cons, List.not_mem_nil, or_false, not_or]
          exact ⟨Nat.ne_of_lt (Nat.lt_succ_self _), Nat.ne_of_gt lS⟩
        have hxl : xs.length = its.size := by rw [← hi.length, Array.length_toList]
        have hval : ∀ (i : Nat) (v : Value), its[i]? = some v → ∃ x t, xs[i]? = some x ∧ v = .str x t := fun i v hv => strs_at hi i v (by rw [Array.getElem?_toList]; exact hv)
        refine set_loop ((Walks.list hh3 _ l neI its).toS) nf xs hxl hval hb (its.size - 0) 0 _ #[] 0 _ [] (by omega) (Nat.zero_le _) ⟨⟨_, Heap.get?_push_size _ rfl, rfl, rfl⟩, hl1.push _⟩ ((fresh_set s.heap).at fun o q => Heap.get?_push_of_some _ q) (fun y => by simp) (Nat.le_refl _) ?hR
        case hR =>
          intro s' es' ep' t' ks' hm hS' hmem hlen
          obtain ⟨h', g', d', tk', os'⟩ := s'
          have eg : g' = s.gens := hm.gens
          have ed : d' = s.drawn := hm.drawn
          have eo : os' = s.os := hm.os
          subst eg ed eo
          show wpAny _ _ _ _ _ _
          refine wpAny_pure ?_
          show wpAny _ _ (ret Value.none) _ _ _
          refine wpAny_pure ⟨rfl, h', tk', es', ep', t', ks', rfl, hS', hmem, hlen, fun b o hb e => ?_⟩
          refine hm.heap b o ?_ (Heap.get?_push_of_some _ (Heap.get?_push_of_some _ e))
          simp only [List.mem_cons, List.not_mem_nil, or_false, not_or]
          rw [Heap.size_push]
          exact ⟨Nat.ne_of_lt hb, Nat.ne_of_lt (Nat.lt_succ_of_lt hb)⟩
      · cases r₂ with
        | error e => exact hr₂
        | ok fl₂ =>
          cases fl₂ with
          | ret r =>
            obtain ⟨rfl, h', tk, es, ep, t, ks, rfl, hS', hm, hln, hk'⟩ := hr₂
            repeat (any_goals (first | assumption | wp_step))
            exact h _ _ _ _ _ _ hS' hm hln hk'
          | _ => exact hr₂.elim
    | _ => exact hr.elim
end
end L2
set_option Elab.async false
set_option linter.all false
set_option maxRecDepth 100000
set_option maxHeartbeats 4000000
namespace L2
open PySem PySem.Spec PyProof.Rows
namespace SI
theorem own_si : Manifest.owners.lookup (String.ofList ['r', 'o', 't', 'a', 'r', 'e', 't', 'i', '_', 't', 'e', 's'].reverse) = some Manifest.sig_set_iterator := by kernel_rfl
theorem slot_next : Slot "set_iterator" "__next__" "set_iterator.__next__" :=
  .of (owner := "set_iterator") (n := "__next__") (by rw [typeLookup_type, builtinLookup_eq_fast]; kernel_rfl) (by decide +kernel) (by decide +kernel) (by decide +kernel)
    (by first | exact .inl (by decide +kernel) | exact .inr (by decide +kernel)) (by rw [isSubtype_type]; kernel_rfl)
theorem slot_iter : Slot "set_iterator" "__iter__" "set_iterator.__iter__" :=
  .of (owner := "set_iterator") (n := "__iter__") (by rw [typeLookup_type, builtinLookup_eq_fast]; kernel_rfl) (by decide +kernel) (by decide +kernel) (by decide +kernel)
    (by first | exact .inl (by decide +kernel) | exact .inr (by decide +kernel)) (by rw [isSubtype_type]; kernel_rfl)
theorem entry_next : entryFor table "set_iterator.__next__" = some Builtin.«set_iterator.__next__» := entryFor_of_tree (by kernel_rfl)
theorem entry_iter : entryFor table "set_iterator.__iter__" = some Builtin.«dict_keyiterator.__iter__» :=
  entryFor_alias (id' := "dict_keyiterator.__iter__") (by kernel_rfl) (by first | rfl | decide +kernel | (unfold String.splitOn; simp +decide [String.splitOnAux])) (by decide +kernel) (by kernel_rfl)
theorem args_next (v : Value) : argsOk "set_iterator.__next__" ⟨[v], []⟩ := by
  unfold argsOk; rw [signature?_of (id := "set_iterator.__next__") (n := ['_', '_', 't', 'x', 'e', 'n', '_', '_']) (o := ['r', 'o', 't', 'a', 'r', 'e', 't', 'i', '_', 't', 'e', 's']) (by kernel_rfl) own_si]; kernel_rfl
theorem args_iter (v : Value) : argsOk "set_iterator.__iter__" ⟨[v], []⟩ := by
  unfold argsOk; rw [signature?_of (id := "set_iterator.__iter__") (n := ['_', '_', 'r', 'e', 't', 'i', '_', '_']) (o := ['r', 'o', 't', 'a', 'r', 'e', 't', 'i', '_', 't', 'e', 's']) (by kernel_rfl) own_si]; kernel_rfl
theorem entry_set_iter : entryFor table "set.__iter__" = some Builtin.«frozenset.__iter__» :=
  entryFor_alias (id' := "frozenset.__iter__") (by kernel_rfl) (by first | rfl | decide +kernel | (unfold String.splitOn; simp +decide [String.splitOnAux])) (by decide +kernel) (by kernel_rfl)
end SI
abbrev IsSI (h : Heap) (I : Addr) (F : Array Value) : Prop := h.get? I = some { cls := .type "set_iterator", dict := none, data := .fields F, slots := #[] }
section
variable {P : Program} {w : World} {A : Around} {E : Value → Shared → Prop} {s : Shared}
theorem si_self {I : Addr} {F : Array Value} {Q : Value → Shared → Prop} (hI : IsSI s.heap I F) (h : Q (.ref I) s) : wpAny (model P w) A (pyIter (.ref I)) Q E s := by
  have hT : s.TypeIs (.ref I) "set_iterator" := ⟨_, hI, rfl⟩
  refine wpAny_pyIter_slot hT SI.slot_iter (wpAny_call_entry SI.slot_iter hT SI.entry_iter ?_ (SI.args_iter _))
  show wpAny (model P w) _ (ret (.ref I)) _ _ s
  exact wpAny_pure ⟨_, rfl, "set_iterator", _, hT, SI.slot_next.lookup, h⟩
theorem si_item {I a : Addr} {sl i ep' : Nat} {es : Array (Int × Value)} {ep : Nat} {t : SetTable} {ks : List Str} {v : Value} {nx : Nat} {Q : Option Value → Shared → Prop} (hI : IsSI s.heap I #[rawInt sl, rawInt i, .ref a, rawInt es.size, rawInt ep'])
    (S : SetS P w s.heap a es ep t ks) (hn : ∀ (B : Around) (E' : Value → Shared → Prop) (Q' : Option (Value × Nat) → Shared → Prop), Q' (some (v, nx)) s → wpAny (model P w) B (setNext a sl i ep') Q' E' s)
    (h : ∀ h', IsSI h' I #[rawInt nx, rawInt (i + 1 : Nat), .ref a, rawInt es.size, rawInt ep'] → Heap.SameBut I s.heap h' → Q (some v) { s with heap := h' }) : wpAny (model P w) A (pyNext (.ref I)) Q E s := by
  have hT : s.TypeIs (.ref I) "set_iterator" := ⟨_, hI, rfl⟩
  obtain ⟨o, ho, hex, hd⟩ := S.obj
  unfold pyNext
  refine wpAny_bind (wpAny_attempt (wpAny_callSpecial?_slot (name := Str.ofString "__next__") hT SI.slot_next (wpAny_call_entry SI.slot_next hT SI.entry_next ?_ (SI.args_next _))))
  refine wpAny_bind (wpAny_pure ?_)
  refine wpAny_bind (wpAny_fieldsOf hI rfl ?_)
  refine wpAny_bind (wpAny_setEntries_of ho hd S.fits ?_)
  rw [if_neg (by simp [rawInt])]
  dsimp only [rawInt]
  rw [Int.toNat_natCast, Int.toNat_natCast, Int.toNat_natCast]
  refine wpAny_bind (hn _ _ _ ?_)
  dsimp only
  refine wpAny_bind (wpAny_setField_rec hI (by simp) fun h1 e1 b1 => ?_)
  refine wpAny_bind (wpAny_setField_rec e1 (by simp) fun h2 e2 b2 => ?_)
  refine wpAny_pure ⟨v, rfl, wpAny_pure (h h2 ?_ (b1.trans b2))⟩
  simpa [rawInt] using e2
theorem si_stop {I : Addr} {F : Array Value} {k0 : Option Nat} {Q : Option Value → Shared → Prop} (hh : A.handled = none) (hI : IsSI s.heap I F) (hk : 2 < F.size) (h : ∀ h', Heap.ExtBut I s.heap h' → Q none { s with heap := h' }) :
    wpAny (model P w) A.in1 (do setField (.ref I) 2 .none; raiseNew (← newExc (.type "StopIteration") []))
      (fun fin s' => ∃ v, fin = Fin.done (Flow.ret v) ∧ wpAny (model P w) A (pure (some v)) Q E s')
      (fun e s' => wpAny (model P w) A (do if ← isInstance e (.type "StopIteration") then pure none else throw e) Q E s') s := by
  refine wpAny_bind (wpAny_setField_rec hI hk fun h1 e1 b1 => ?_)
  refine wpAny_bind ?_
  simp only [newExc, newTuple]
  refine wpAny_bind (wpAny_newObj_type ?_ (by size_fits))
  refine wpAny_bind (m := firstArgMember _ _) (wpAny_of_eq (a := Value.none) (by first | rfl | (simp only [firstArgMember]; rfl)) ?_)
  refine wpAny_newObj_type ?_ (by size_fits)
  simp only [raiseNew]
  refine wpAny_bind (wpAny_handled ?_)
  rw [show A.in1.handled = none from hh]
  refine wpAny_bind (wpAny_pure (wpAny_throw ?_))
  refine wpAny_bind (wpAny_isInstance (T := "StopIteration") (b := true) ⟨_, Heap.get?_push_size _ rfl, rfl⟩ isSubtype_stop ?_)
  exact wpAny_pure (h _ ((b1.extBut.push _).push _))
theorem si_end {I a : Addr} {sl i ep' : Nat} {es : Array (Int × Value)} {ep : Nat} {t : SetTable} {ks : List Str} {Q : Option Value → Shared → Prop} (hh : A.handled = none) (hI : IsSI s.heap I #[rawInt sl, rawInt i, .ref a, rawInt es.size, rawInt ep'])
    (S : SetS P w s.heap a es ep t ks) (hn : ∀ (B : Around) (E' : Value → Shared → Prop) (Q' : Option (Value × Nat) → Shared → Prop), Q' none s → wpAny (model P w) B (setNext a sl i ep') Q' E' s)
    (h : ∀ h', Heap.ExtBut I s.heap h' → Q none { s with heap := h' }) : wpAny (model P w) A (pyNext (.ref I)) Q E s := by
  have hT : s.TypeIs (.ref I) "set_iterator" := ⟨_, hI, rfl⟩
  obtain ⟨o, ho, hex, hd⟩ := S.obj
  unfold pyNext
  refine wpAny_bind (wpAny_attempt (wpAny_callSpecial?_slot (name := Str.ofString "__next__") hT SI.slot_next (wpAny_call_entry SI.slot_next hT SI.entry_next ?_ (SI.args_next _))))
  refine wpAny_bind (wpAny_pure ?_)
  refine wpAny_bind (wpAny_fieldsOf hI rfl ?_)
  refine wpAny_bind (wpAny_setEntries_of ho hd S.fits ?_)
  rw [if_neg (by simp [rawInt])]
  dsimp only [rawInt]
  rw [Int.toNat_natCast, Int.toNat_natCast, Int.toNat_natCast]
  refine wpAny_bind (hn _ _ _ ?_)
  dsimp only
  exact si_stop (k0 := none) hh hI (by simp) h
theorem seq_items {T : Addr} {xs : Array Value} {B : Around} {E' : Value → Shared → Prop} {Q' : Option (Array Value) → Shared → Prop} (hT : s.heap.get? T = some { cls := .type "tuple", data := .seq xs }) (h : Q' (some xs) s) : wpAny (model P w) B (seqItems? (.ref T)) Q' E' s := by
  unfold seqItems?
  dsimp only
  refine wpAny_bind (wpAny_load hT ?_)
  exact wpAny_pure h
theorem sd_item {I a T : Addr} {i p : Nat} {es : Array (Int × Value)} {ep : Nat} {t : SetTable} {ks : List Str} {hv : Int} {v : Value} {ord : List Nat} {Q : Option Value → Shared → Prop} (hI : IsSI s.heap I #[.ref T, rawInt i, .ref a, rawInt es.size, rawInt ep])
    (hT' : s.heap.get? T = some { cls := .type "tuple", data := .seq (ord.map fun (i : Nat) => rawInt i).toArray }) (S : SetS P w s.heap a es ep t ks) (hp : ord[i]? = some p) (he : es[p]? = some (hv, v))
    (h : ∀ h', IsSI h' I #[.ref T, rawInt (i + 1 : Nat), .ref a, rawInt es.size, rawInt ep] → Heap.SameBut I s.heap h' → Q (some v) { s with heap := h' }) : wpAny (model P w) A (pyNext (.ref I)) Q E s := by
  have hT : s.TypeIs (.ref I) "set_iterator" := ⟨_, hI, rfl⟩
  obtain ⟨o, ho, hex, hd⟩ := S.obj
  unfold pyNext
  refine wpAny_bind (wpAny_attempt (wpAny_callSpecial?_slot (name := Str.ofString "__next__") hT SI.slot_next (wpAny_call_entry SI.slot_next hT SI.entry_next ?_ (SI.args_next _))))
  refine wpAny_bind (wpAny_pure ?_)
  refine wpAny_bind (wpAny_fieldsOf hI rfl ?_)
  refine wpAny_bind (wpAny_setEntries_of ho hd S.fits ?_)
  rw [if_neg (by simp [rawInt])]
  dsimp only [rawInt]
  refine wpAny_bind (seq_items hT' ?_)
  dsimp only
  have e1 : (ord.map fun (i : Nat) => rawInt i).toArray[((i : Nat) : Int).toNat]? = some (rawInt p) := by
    rw [Int.toNat_natCast, List.getElem?_toArray, List.getElem?_map, hp]; rfl
  rw [e1]
  dsimp only [rawInt]
  refine wpAny_bind ?_
  unfold setNextDrawn
  refine wpAny_bind (wpAny_setState_of ho hd S.fits ?_)
  dsimp only
  rw [Int.toNat_natCast, Int.toNat_natCast, if_neg (by simp), he]
  refine wpAny_pure ?_
  refine wpAny_bind (wpAny_setField_rec hI (by simp) fun h1 e1 b1 => ?_)
  refine wpAny_pure ⟨v, rfl, wpAny_pure (h h1 ?_ b1)⟩
  simpa [rawInt] using e1
theorem sd_end {I a T : Addr} {i : Nat} {es : Array (Int × Value)} {ep : Nat} {t : SetTable} {ks : List Str} {ord : List Nat} {Q : Option Value → Shared → Prop} (hh : A.handled = none) (hI : IsSI s.heap I #[.ref T, rawInt i, .ref a, rawInt es.size, rawInt ep])
    (hT' : s.heap.get? T = some { cls := .type "tuple", data := .seq (ord.map fun (i : Nat) => rawInt i).toArray }) (S : SetS P w s.heap a es ep t ks) (hp : ord[i]? = none)
    (h : ∀ h', Heap.ExtBut I s.heap h' → Q none { s with heap := h' }) : wpAny (model P w) A (pyNext (.ref I)) Q E s := by
  have hT : s.TypeIs (.ref I) "set_iterator" := ⟨_, hI, rfl⟩
  obtain ⟨o, ho, hex, hd⟩ := S.obj
  unfold pyNext
  refine wpAny_bind (wpAny_attempt (wpAny_callSpecial?_slot (name := Str.ofString "__next__") hT SI.slot_next (wpAny_call_entry SI.slot_next hT SI.entry_next ?_ (SI.args_next _))))
  refine wpAny_bind (wpAny_pure ?_)
  refine wpAny_bind (wpAny_fieldsOf hI rfl ?_)
  refine wpAny_bind (wpAny_setEntries_of ho hd S.fits ?_)
  rw [if_neg (by simp [rawInt])]
  dsimp only [rawInt]
  refine wpAny_bind (seq_items hT' ?_)
  dsimp only
  have e1 : (ord.map fun (i : Nat) => rawInt i).toArray[((i : Nat) : Int).toNat]? = none := by
    rw [Int.toNat_natCast, List.getElem?_toArray, List.getElem?_map, hp]; rfl
  rw [e1]
  dsimp only
  refine wpAny_bind (wpAny_setField_rec hI (by simp) fun h1 e1 b1 => ?_)
  exact si_stop (s := { s with heap := h1 }) (k0 := none) hh e1 (by simp) fun h2 x => h h2 (fun c o hc q => x c o hc (b1.extBut c o hc q))
theorem by_text {a : Addr} {Q : Bool → Shared → Prop} (h : Q (w.params.followText "set-order") s) : wpAny (model P w) A setsByText Q E s := by
  unfold setsByText
  exact wpAny_bind (wpAny_askSetting (wpAny_pure h))
theorem next_text {a : Addr} {es : Array (Int × Value)} {ep : Nat} {t : SetTable} {ks : List Str} {sl i : Nat} {Q : Option (Value × Nat) → Shared → Prop} (S : SetS P w s.heap a es ep t ks) (hb : w.params.followText "set-order" = true)
    (h : Q (((pickOrder (w.params.setOrder a ep) es)[i]?).map fun e => (e.2, sl)) s) : wpAny (model P w) A (setNext a sl i ep) Q E s := by
  obtain ⟨o, ho, hex, hd⟩ := S.obj
  unfold setNext
  refine wpAny_bind (wpAny_setState_of ho hd S.fits ?_)
  dsimp only
  refine wpAny_bind (by_text (a := a) ?_)
  rw [hb, if_pos rfl, if_neg (by simp)]
  refine wpAny_bind ?_
  unfold setWalk
  refine wpAny_bind (wpAny_setState_of ho hd S.fits ?_)
  dsimp only
  refine wpAny_bind (by_text (a := a) ?_)
  rw [hb, if_pos rfl]
  refine wpAny_bind (wpAny_askSetting (wpAny_pure ?_))
  exact wpAny_pure h
theorem next_few {a : Addr} {es : Array (Int × Value)} {ep : Nat} {t : SetTable} {ks : List Str} {sl i : Nat} {Q : Option (Value × Nat) → Shared → Prop} (S : SetS P w s.heap a es ep t ks) (hb : w.params.followText "set-order" = false) (h1 : es.size ≤ 1)
    (h : Q (match es[SetTable.below t.place sl]?, t.place[SetTable.below t.place sl]? with | some (_, x), some j => some (x, j + 1) | _, _ => none) s) : wpAny (model P w) A (setNext a sl i ep) Q E s := by
  obtain ⟨o, ho, hex, hd⟩ := S.obj
  have hl : t.led = true := by rw [S.led, hb]; rfl
  unfold setNext
  refine wpAny_bind (wpAny_setState_of ho hd S.fits ?_)
  dsimp only
  refine wpAny_bind (by_text (a := a) ?_)
  rw [hb, if_neg (by decide)]
  refine wpAny_ite_split (fun hab => ?_) (fun _ => ?_)
  · have hab' : (!t.plain && decide (es.size > 1)) = true := hab
    simp at hab'
    omega
  refine wpAny_bind ?_
  show wpAny (model P w) A (if (!t.led && !es.isEmpty) = true then unsupported _ else pure ()) _ _ s
  rw [hl, if_neg (by simp)]
  exact wpAny_pure (wpAny_pure h)
end
theorem pick_perm {α : Type} (f : Nat → Nat) : ∀ (n k : Nat) (l : List α) (out : Array α), l.length = n → (pickOrder.go f n k l out).toList.Perm (out.toList ++ l)
  | 0, k, l, out, h => by
    have : l = [] := List.length_eq_zero_iff.mp h
    subst this
    unfold pickOrder.go
    rw [List.append_nil]
  | n + 1, k, l, out, h => by
    have lt : f k % l.length < l.length := Nat.mod_lt _ (by omega)
    unfold pickOrder.go
    rw [List.getElem?_eq_getElem lt]
    dsimp only
    refine (pick_perm f n (k + 1) _ _ (by rw [List.length_eraseIdx_of_lt lt]; omega)).trans ?_
    rw [Array.toList_push, List.append_assoc]
    refine List.Perm.append_left _ ?_
    have e : l = l.take (f k % l.length) ++ l[f k % l.length] :: l.drop (f k % l.length + 1) := by rw [← List.drop_eq_getElem_cons lt, List.take_append_drop]
    rw [List.eraseIdx_eq_take_drop_succ]
    conv => rhs; rw [e]
    show (l[f k % l.length] :: (l.take (f k % l.length) ++ l.drop (f k % l.length + 1))).Perm _
    exact List.perm_middle.symm
section
variable {P : Program} {w : World} {A : Around} {E : Value → Shared → Prop}
theorem draw_perm {α : Type} : ∀ (n : Nat) (l : List α) (s : Shared) (Q : List α → Shared → Prop), l.length = n → (∀ ys d', ys.Perm l → Q ys { s with drawn := d' }) → wpAny (model P w) A (drawOrder n l) Q E s
  | 0, l, s, Q, hl, h => by
    have : l = [] := List.length_eq_zero_iff.mp hl
    subst this
    unfold drawOrder
    exact wpAny_pure (h [] s.drawn (.refl _))
  | n + 1, [], s, Q, hl, h => by cases hl
  | n + 1, x :: l, s, Q, hl, h => by
    unfold drawOrder
    have go : ∀ i, i < (x :: l).length → wpAny (model P w) A (match (x :: l)[i]? with | some y => do return y :: (← drawOrder n ((x :: l).eraseIdx i)) | none => unsupported "internal:drawOrder") Q E { s with drawn := s.drawn.bump .order } := fun i hi => by
      rw [List.getElem?_eq_getElem hi]
      dsimp only
      refine wpAny_bind (draw_perm n _ _ _ (by rw [List.length_eraseIdx_of_lt hi]; omega) fun ys d' p => wpAny_pure ?_)
      refine h _ d' ?_
      have e : (x :: l) = (x :: l).take i ++ (x :: l)[i] :: (x :: l).drop (i + 1) := by rw [← List.drop_eq_getElem_cons hi, List.take_append_drop]
      refine (p.cons _).trans ?_
      rw [List.eraseIdx_eq_take_drop_succ]
      conv => rhs; rw [e]
      exact List.perm_middle.symm
    refine wpAny_bind ?_
    exact fun _ _ hΓ => ⟨by simp, go _ (Nat.mod_lt _ (by simp))⟩
end
end L2
set_option Elab.async false
set_option linter.all false
set_option maxRecDepth 100000
set_option maxHeartbeats 4000000
namespace L2
open PySem PySem.Spec PyProof.Rows
section
variable {P : Program} {w : World} {A : Around} {E : Value → Shared → Prop} {s : Shared}
abbrev PvS (ks : List Str) : Nat → Value → Prop := fun i v => ∃ x tk, ks[i]? = some x ∧ v = .str x tk
theorem walk_text {I a : Addr} {es : Array (Int × Value)} {ep : Nat} {t : SetTable} {ks ks' : List Str} (hh : A.handled = none) (hne : a ≠ I) (hb : w.params.followText "set-order" = true)
    (hv : StrsAre ((pickOrder (w.params.setOrder a ep) es).toList.map (·.2)) ks') (hl : ks'.length = es.size) :
    Walks P w A I [I, a] [I] es.size (PvS ks') (fun i h => IsSI h I #[rawInt 0, rawInt i, .ref a, rawInt es.size, rawInt ep] ∧ SetS P w h a es ep t ks) where
  sub := fun b hb => by simp at hb; simp [hb]
  frame := fun _ _ _ st hk => ⟨hk I (by simp) _ st.1, st.2.at fun o q => hk a (by simp) o q⟩
  item := fun i s Q E hi st hQ => by
    have hsz : (pickOrder (w.params.setOrder a ep) es).size = es.size := by rw [← Array.length_toList, ← List.length_map (f := (·.2)), hv.length, hl]
    obtain ⟨e, he⟩ : ∃ e, (pickOrder (w.params.setOrder a ep) es)[i]? = some e := ⟨_, Array.getElem?_eq_getElem (by omega)⟩
    refine si_item (sl := 0) (v := e.2) (nx := 0) st.1 st.2 (fun B E' Q' q => next_text st.2 hb (by rw [he]; exact q)) fun h' e1 b1 => hQ e.2 h' s.toks ?_ ⟨e1, st.2.at fun o q => (b1.2 a hne).trans q⟩ fun b o hb q => (b1.2 b (by simpa using hb)).trans q
    obtain ⟨x, tk, ex, ev⟩ := strs_at hv i e.2 (by rw [List.getElem?_map, Array.getElem?_toList, he]; rfl)
    exact ⟨x, tk, ex, ev⟩
  done := fun s Q E st hQ => by
    have hsz : (pickOrder (w.params.setOrder a ep) es).size = es.size := by rw [← Array.length_toList, ← List.length_map (f := (·.2)), hv.length, hl]
    have he : (pickOrder (w.params.setOrder a ep) es)[es.size]? = none := Array.getElem?_eq_none (by omega)
    exact si_end (sl := 0) hh st.1 st.2 (fun B E' Q' q => next_text st.2 hb (by rw [he]; exact q)) fun h' x => hQ h' s.toks fun b o hb q => x b o (by simpa using hb) q
  self := fun _ _ _ _ st hQ => si_self st.1 hQ
theorem walk_drawn {I a T : Addr} {es : Array (Int × Value)} {ep : Nat} {t : SetTable} {ks ks' : List Str} {ord : List Nat} (hh : A.handled = none) (hne : a ≠ I) (hTI : T ≠ I) (hp : ord.Perm (List.range es.size))
    (hv : StrsAre (ord.map fun p => (es.getD p (0, .none)).2) ks') :
    Walks P w A I [I, a, T] [I] es.size (PvS ks') (fun i h => IsSI h I #[.ref T, rawInt i, .ref a, rawInt es.size, rawInt ep] ∧ SetS P w h a es ep t ks ∧ h.get? T = some { cls := .type "tuple", data := .seq (ord.map fun (i : Nat) => rawInt i).toArray }) where
  sub := fun b hb => by simp at hb; simp [hb]
  frame := fun _ _ _ st hk => ⟨hk I (by simp) _ st.1, st.2.1.at fun o q => hk a (by simp) o q, hk T (by simp) _ st.2.2⟩
  item := fun i s Q E hi st hQ => by
    have lo : ord.length = es.size := by rw [hp.length_eq, List.length_range]
    obtain ⟨p, ho⟩ : ∃ p, ord[i]? = some p := ⟨_, List.getElem?_eq_getElem (by omega)⟩
    have hlt : p < es.size := List.mem_range.mp (hp.mem_iff.mp (List.mem_of_getElem? ho))
    have he : es[p]? = some ((es.getD p (0, .none)).1, (es.getD p (0, .none)).2) := by
      rw [Array.getElem?_eq_getElem hlt, Array.getD_eq_getD_getElem?, Array.getElem?_eq_getElem hlt]; rfl
    refine sd_item st.1 st.2.2 st.2.1 ho he fun h' e1 b1 => hQ _ h' s.toks ?_ ⟨e1, st.2.1.at fun o q => (b1.2 a hne).trans q, (b1.2 T hTI).trans st.2.2⟩ fun b o hb q => (b1.2 b (by simpa using hb)).trans q
    obtain ⟨x, tk, ex, ev⟩ := strs_at hv i _ (by rw [List.getElem?_map, ho]; rfl)
    exact ⟨x, tk, ex, ev⟩
  done := fun s Q E st hQ => by
    have lo : ord.length = es.size := by rw [hp.length_eq, List.length_range]
    exact sd_end hh st.1 st.2.2 st.2.1 (List.getElem?_eq_none (by omega)) fun h' x => hQ h' s.toks fun b o hb q => x b o (by simpa using hb) q
  self := fun _ _ _ _ st hQ => si_self st.1 hQ
theorem below_one0 (p : Nat) : SetTable.below #[p] 0 = 0 := by
  unfold SetTable.below
  simp [SetTable.below.go]
theorem below_one1 (p : Nat) : SetTable.below #[p] (p + 1) = 1 := by
  unfold SetTable.below
  simp [SetTable.below.go]
theorem walk_few {I a : Addr} {es : Array (Int × Value)} {ep : Nat} {t : SetTable} {ks : List Str} (hh : A.handled = none) (hne : a ≠ I) (hb : w.params.followText "set-order" = false) (h1 : es.size ≤ 1) (hf : t.fits es.size = true) (hv : StrsAre (es.toList.map (·.2)) ks) :
    Walks P w A I [I, a] [I] es.size (PvS ks) (fun i h => IsSI h I #[rawInt (if i = 0 then 0 else t.place.getD 0 0 + 1 : Nat), rawInt i, .ref a, rawInt es.size, rawInt ep] ∧ SetS P w h a es ep t ks) where
  sub := fun b hb => by simp at hb; simp [hb]
  frame := fun _ _ _ st hk => ⟨hk I (by simp) _ st.1, st.2.at fun o q => hk a (by simp) o q⟩
  item := fun i s Q E hi st hQ => by
    have i0 : i = 0 := by omega
    subst i0
    have sz : es.size = 1 := by omega
    have tp : t.place.size = 1 := by
      unfold SetTable.fits at hf
      simp only [Bool.and_eq_true, beq_iff_eq] at hf
      omega
    obtain ⟨p, hp⟩ : ∃ p, t.place = #[p] := Array.size_eq_one_iff.mp tp
    obtain ⟨e, he⟩ : ∃ e, es[0]? = some e := ⟨_, Array.getElem?_eq_getElem (by omega)⟩
    refine si_item (sl := 0) (v := e.2) (nx := p + 1) st.1 st.2 (fun B E' Q' q => next_few st.2 hb h1 ?_) fun h' e1 b1 => hQ e.2 h' s.toks ?_ ⟨?_, st.2.at fun o q => (b1.2 a hne).trans q⟩ fun b o hb q => (b1.2 b (by simpa using hb)).trans q
    · rw [hp, below_one0, he]
      exact q
    · obtain ⟨x, tk, ex, ev⟩ := strs_at hv 0 e.2 (by rw [List.getElem?_map, Array.getElem?_toList, he]; rfl)
      exact ⟨x, tk, ex, ev⟩
    · rw [hp]
      exact e1
  done := fun s Q E st hQ => by
    refine si_end hh st.1 st.2 (fun B E' Q' q => next_few st.2 hb h1 ?_) fun h' x => hQ h' s.toks fun b o hb q => x b o (by simpa using hb) q
    by_cases z : es.size = 0
    · have ez : es = #[] := Array.size_eq_zero_iff.mp z
      rw [ez]
      simpa using q
    · have sz : es.size = 1 := by omega
      have tp : t.place.size = 1 := by
        unfold SetTable.fits at hf
        simp only [Bool.and_eq_true, beq_iff_eq] at hf
        omega
      obtain ⟨p, hp⟩ : ∃ p, t.place = #[p] := Array.size_eq_one_iff.mp tp
      rw [if_neg z, hp]
      show Q' (match es[SetTable.below #[p] (p + 1)]?, (#[p] : Array Nat)[SetTable.below #[p] (p + 1)]? with | some (_, x), some j => some (x, j + 1) | _, _ => none) _
      rw [below_one1, Array.getElem?_eq_none (by omega)]
      exact q
  self := fun _ _ _ _ st hQ => si_self st.1 hQ
theorem iter_texts {a : Addr} {es : Array (Int × Value)} {ep : Nat} {t : SetTable} {ks : List Str} {Q : Value → Shared → Prop} (S : SetS P w s.heap a es ep t ks)
    (h : ∀ (I : Addr) (h1 : Heap) (d1 : Drawn) (fx : List Addr) (ks' : List Str) (St : Nat → Heap → Prop), ks'.Perm ks → s.heap.objs.size ≤ I → I < h1.objs.size → (∀ b ∈ fx, s.heap.objs.size ≤ b ∧ b < h1.objs.size) → (∀ b o, s.heap.get? b = some o → h1.get? b = some o) → St 0 h1 →
      (∀ B : Around, B.handled = none → Walks P w B I (I :: a :: fx) [I] es.size (PvS ks') St) → Q (.ref I) { s with heap := h1, drawn := d1 }) :
    wpAny (model P w) A (pyIter (.ref a)) Q E s := by
  obtain ⟨o, ho, hex, hd⟩ := S.obj
  have hT : s.TypeIs (.ref a) "set" := ⟨o, ho, hex.1⟩
  have la : a < s.heap.objs.size := Heap.lt_size ho
  have hsz := S.len
  refine wpAny_pyIter_slot hT PySem.F.slot_set_iter (wpAny_call_entry PySem.F.slot_set_iter hT SI.entry_set_iter ?_ (PySem.F.args_set_iter_1 _))
  unfold Builtin.«frozenset.__iter__» Builtin.Frozenset.slot0 slotArgs
  simp only [List.isEmpty_nil, Bool.not_true, Bool.false_eq_true, ↓reduceIte, bind_assoc, List.length_nil, bne_self_eq_false]
  unfold Builtin.Frozenset.addrOf Builtin.Frozenset.sizeOf
  refine wpAny_bind (wpAny_pure ?_)
  try dsimp only
  refine wpAny_bind (wpAny_pure ?_)
  refine wpAny_bind (wpAny_bind (wpAny_setEntries_of ho hd S.fits (wpAny_pure ?_)))
  unfold setDrawn
  refine wpAny_bind (wpAny_bind (wpAny_setState_of ho hd S.fits ?_))
  dsimp only
  refine wpAny_bind (by_text (a := a) (wpAny_pure ?_))
  refine wpAny_ite_split (fun hab => ?_) (fun hab => ?_)
  · have hab' : (!w.params.followText "set-order" && (!t.plain && decide (es.size > 1))) = true := hab
    refine wpAny_bind (draw_perm _ _ _ _ (List.length_range) fun ys d' p => ?_)
    have ly : ys.length = es.size := by rw [p.length_eq, List.length_range]
    refine wpAny_bind (wpAny_newTuple ?_ (by rw [List.length_map, ly]; exact fits_of_scanBound S.small))
    have hoT : (s.heap.push { cls := .type "tuple", data := .seq (ys.map fun (i : Nat) => rawInt i).toArray }).get? s.heap.objs.size = some { cls := .type "tuple", data := .seq (ys.map fun (i : Nat) => rawInt i).toArray } := Heap.get?_push_size _ rfl
    have szT : (s.heap.push { cls := .type "tuple", data := .seq (ys.map fun (i : Nat) => rawInt i).toArray }).objs.size = s.heap.objs.size + 1 := Heap.size_push ..
    refine wpAny_bind (wpAny_setEpoch_of (s := { s with heap := s.heap.push { cls := .type "tuple", data := .seq (ys.map fun (i : Nat) => rawInt i).toArray }, drawn := d' }) (Heap.get?_push_of_some _ ho) hd S.fits ?_)
    have SS : SetS P w (s.heap.push { cls := .type "tuple", data := .seq (ys.map fun (i : Nat) => rawInt i).toArray }) a es ep t ks := S.at fun o q => Heap.get?_push_of_some _ q
    have old : ∀ b o, s.heap.get? b = some o → (s.heap.push { cls := .type "tuple", data := .seq (ys.map fun (i : Nat) => rawInt i).toArray }).get? b = some o := fun b o q => Heap.get?_push_of_some _ q
    generalize s.heap.push { cls := .type "tuple", data := .seq (ys.map fun (i : Nat) => rawInt i).toArray } = h1 at hoT szT SS old ⊢
    refine wpAny_bind (wpAny_newObj_type (wpAny_pure ⟨_, rfl, "set_iterator", _, ⟨_, Heap.get?_push_size _ rfl, rfl⟩, SI.slot_next.lookup, ?_⟩))
    have ent : ((List.range es.size).map fun p => (es.getD p (0, .none)).2) = es.toList.map (·.2) := by
      apply List.ext_getElem?
      intro i
      rw [List.getElem?_map, List.getElem?_map, show es.toList[i]? = es[i]? from Array.getElem?_toList]
      by_cases hi : i < es.size
      · rw [List.getElem?_range hi, Array.getElem?_eq_getElem hi]
        show some (es.getD i (0, .none)).2 = some es[i].2
        rw [Array.getD_eq_getD_getElem?, Array.getElem?_eq_getElem hi]; rfl
      · rw [List.getElem?_eq_none (by rw [List.length_range]; omega), Array.getElem?_eq_none (by omega)]; rfl
    obtain ⟨ks', v', p'⟩ := strs_perm (p.map fun p => (es.getD p (0, .none)).2) (ks := ks) (by rw [ent]; exact S.vals)
    refine h h1.objs.size (h1.push _) d' [s.heap.objs.size] ks' _ p' (by rw [szT]; exact Nat.le_succ _) (by rw [Heap.size_push]; exact Nat.lt_succ_self _) (fun b hb => ?_) (fun b o q => Heap.get?_push_of_some _ (old b o q)) ?_ (fun B hB => walk_drawn (ep := ep) (t := t) (ks := ks) hB ?_ ?_ p v')
    · rw [List.mem_singleton.mp hb, Heap.size_push, szT]
      exact ⟨Nat.le_refl _, Nat.lt_succ_of_lt (Nat.lt_succ_self _)⟩
    · exact ⟨Heap.get?_push_size _ rfl, SS.at fun o q => Heap.get?_push_of_some _ q, Heap.get?_push_of_some _ hoT⟩
    · rw [szT]; exact Nat.ne_of_lt (Nat.lt_succ_of_lt la)
    · rw [szT]; exact Nat.ne_of_lt (Nat.lt_succ_self _)
  · have hab' : ¬ (!w.params.followText "set-order" && (!t.plain && decide (es.size > 1))) = true := hab
    refine wpAny_bind (wpAny_pure ?_)
    refine wpAny_bind (wpAny_setEpoch_of ho hd S.fits ?_)
    refine wpAny_bind (wpAny_newObj_type (wpAny_pure ⟨_, rfl, "set_iterator", _, ⟨_, Heap.get?_push_size _ rfl, rfl⟩, SI.slot_next.lookup, ?_⟩))
    have neI : a ≠ s.heap.objs.size := Nat.ne_of_lt la
    cases hb : w.params.followText "set-order" with
    | true =>
      obtain ⟨ks', v', p'⟩ := strs_perm ((pick_perm (w.params.setOrder a ep) es.size 0 es.toList #[] (by simp)).map (·.2)) (ks := ks) (by simpa using S.vals)
      exact h s.heap.objs.size (s.heap.push _) s.drawn [] ks' _ p' (Nat.le_refl _) (by rw [Heap.size_push]; exact Nat.lt_succ_self _) (fun b hb => by simp at hb) (fun b o q => Heap.get?_push_of_some _ q) ⟨Heap.get?_push_size _ rfl, S.at fun o q => Heap.get?_push_of_some _ q⟩
        (fun B hB => walk_text (ep := ep) (t := t) (ks := ks) hB neI hb v' (by rw [p'.length_eq, hsz]))
    | false =>
      have few : es.size ≤ 1 := by
        rw [hb] at hab'
        by_cases z : es.size ≤ 1
        · exact z
        · exfalso
          refine hab' ?_
          rw [S.plain (by omega), decide_eq_true (show es.size > 1 by omega)]
          rfl
      exact h s.heap.objs.size (s.heap.push _) s.drawn [] ks _ (.refl _) (Nat.le_refl _) (by rw [Heap.size_push]; exact Nat.lt_succ_self _) (fun b hb => by simp at hb) (fun b o q => Heap.get?_push_of_some _ q) ⟨Heap.get?_push_size _ rfl, S.at fun o q => Heap.get?_push_of_some _ q⟩
        (fun B hB => walk_few (ep := ep) (t := t) (ks := ks) hB neI hb few S.fits S.vals)
theorem set_hint {r : Addr} {Q : Bool → Shared → Prop} (hT : s.TypeIs (.ref r) "set") (h : Q false s) : wpAny (model P w) A (Builtin.List.listLengthHint (.ref r)) Q E s := by
  unfold Builtin.List.listLengthHint
  refine wpAny_bind (wpAny_specialOf hT PySem.F.slot_set_len.lookup ?_)
  generalize hid : ("set.__len__" : String) = id0
  wp_delta
  rw [show splitId id0 = some ("set", "__len__") from by subst hid; decide +kernel]
  subst hid
  refine wpAny_bind (wpAny_isInstance (T := "set") (b := true) hT (by rw [isSubtype_type]; kernel_rfl) ?_)
  refine wpAny_ite_split (fun hab => absurd hab (by decide)) (fun _ => ?_)
  refine wpAny_ite_split (fun _ => ?_) (fun hab => absurd (by decide +kernel) hab)
  exact wpAny_bind (wpAny_typeOf hT (wpAny_pure h))
theorem set_collect {a : Addr} {es : Array (Int × Value)} {ep : Nat} {t : SetTable} {ks : List Str} {Q : List Value → Shared → Prop} (S : SetS P w s.heap a es ep t ks) (hh : A.handled = none)
    (h : ∀ (h' : Heap) (tk : Nat) (d' : Drawn) (acc : List Value) (ks' : List Str), (∀ b o, s.heap.get? b = some o → h'.get? b = some o) → StrsAre acc ks' → ks'.Perm ks → Q acc { s with heap := h', toks := tk, drawn := d' }) :
    wpAny (model P w) A (collect (.ref a)) Q E s := by
  obtain ⟨o, ho, hex, hd⟩ := S.obj
  have la : a < s.heap.objs.size := Heap.lt_size ho
  have hsz := S.len
  unfold collect
  refine wpAny_bind (wpAny_runValue (codeAny_builtin entry_proto_collect' ?_))
  rw [Around.under_plainId PySem.F.plain_proto_collect]
  show wpAny (model P w) A.in1 (newList [] >>= fun l => again (.builtin "list.__iadd__" ⟨[l, .ref a], []⟩)) _ _ s
  refine wpAny_bind (wpAny_newObj_type ?_)
  refine wpAny_pure ⟨plainId_quiet PySem.F.plain_list_iadd _, codeAny_builtin entry_list_iadd' ?_⟩
  rw [Around.under_plainId PySem.F.plain_list_iadd]
  have g1 : (s.heap.push { cls := .type "list", data := .seq ([] : List Value).toArray }).get? s.heap.objs.size = some { cls := .type "list", data := .seq #[] } := Heap.get?_push_size _ rfl
  have z1 : (s.heap.push { cls := .type "list", data := .seq ([] : List Value).toArray }).objs.size = s.heap.objs.size + 1 := Heap.size_push ..
  have k1 : ∀ b o, s.heap.get? b = some o → (s.heap.push { cls := .type "list", data := .seq ([] : List Value).toArray }).get? b = some o := fun b o q => Heap.get?_push_of_some _ q
  show wpAny (model P w) A.in1 (Builtin.List.listExtendWith (.ref s.heap.objs.size) (.ref a) (.ref s.heap.objs.size)) _ _ _
  generalize s.heap.push { cls := .type "list", data := .seq ([] : List Value).toArray } = h1 at g1 z1 k1 ⊢
  have S1 : SetS P w h1 a es ep t ks := S.at fun o q => k1 a o q
  have T1 : Shared.TypeIs { s with heap := h1 } (.ref a) "set" := ⟨o, k1 a o ho, hex.1⟩
  unfold Builtin.List.listExtendWith
  refine wpAny_bind (wpAny_typeOf T1 ?_)
  have n1 : Builtin.List.listSameRef (.ref s.heap.objs.size) (.ref a) = false := by simp [Builtin.List.listSameRef]; exact Nat.ne_of_gt la
  rw [if_neg (by rw [n1]; decide)]
  refine wpAny_bind (iter_texts (s := { s with heap := h1 }) S1 fun I h2 d2 fx ks' St pk leI ltI fxo k2 st W => ?_)
  refine wpAny_bind (wpAny_holding (set_hint ⟨o, k2 a o (k1 a o ho), hex.1⟩ ?_))
  refine wpAny_ite_split (fun _ => ?_) (fun hab => absurd (by decide +kernel) hab)
  have lS : s.heap.objs.size < h1.objs.size := by rw [z1]; exact Nat.lt_succ_self _
  have nf : s.heap.objs.size ∉ I :: a :: fx := fun m => by
    rcases List.mem_cons.mp m with q | m
    · exact absurd leI (by rw [← q]; exact Nat.not_le.mpr lS)
    · rcases List.mem_cons.mp m with q | m
      · exact absurd la (by rw [← q]; exact Nat.lt_irrefl _)
      · exact absurd (fxo _ m).1 (Nat.not_le.mpr lS)
  refine wpAny_bind (wpAny_rule (wpAny_bind ?_))
  have g2 := k2 _ _ g1
  show wpAny (model P w) A.in1 (updateSeq s.heap.objs.size (·.push .none) >>= fun _ => updateSeq s.heap.objs.size (·.pop)) _ _ _
  refine wpAny_bind (wpAny_updateSeq g2 rfl ?_)
  have g3 := Heap.get?_update_self (Obj.mapSeq (·.push Value.none)) g2 rfl
  refine wpAny_updateSeq (hz := by seq_fits) g3 rfl ?_
  have g4 := Heap.get?_update_self (Obj.mapSeq (·.pop)) g3 rfl
  have k4 : ∀ b o, b ≠ s.heap.objs.size → h2.get? b = some o → ((h2.update s.heap.objs.size (Obj.mapSeq (·.push Value.none))).update s.heap.objs.size (Obj.mapSeq (·.pop))).get? b = some o := fun b o nb q =>
    (Heap.get?_update_other _ _ (Ne.symm nb)).trans ((Heap.get?_update_other _ _ (Ne.symm nb)).trans q)
  have st4 := (W A.in1 hh).frame 0 _ _ st fun b hb o q => k4 b o (fun z => nf (z ▸ hb)) q
  refine wpAny_pure ⟨plainId_quiet PySem.F.plain_extend_loop _, codeAny_extend_loopS (W A.in1 hh).toS (fits_of_scanBound S.small) s.heap.objs.size nf _ es.size 0 _ #[] _ rfl (Nat.zero_le _) st4 g4 (ItemsOf.nil _) fun s' acc' c' hm hS' hacc => ?_⟩
  show wpAny (model P w) A (load s.heap.objs.size >>= _) _ _ s'
  refine wpAny_bind (wpAny_load hS' ?_)
  refine wpAny_pure ?_
  rw [Moved.eq_with hm]
  refine h s'.heap s'.toks d2 acc'.toList ks' (fun b o q => hm.heap b o (fun m => ?_) (k4 b o (Nat.ne_of_lt (Heap.lt_size q)) (k2 b o (k1 b o q)))) ?_ pk
  · have lb := Heap.lt_size q
    rcases List.mem_cons.mp m with z | m
    · exact absurd lb (by rw [z]; exact Nat.lt_irrefl _)
    · have z := List.mem_singleton.mp m
      exact absurd (Nat.lt_trans lb lS) (by rw [z]; exact Nat.not_lt.mpr leI)
  · have ll : acc'.toList.length = ks'.length := by rw [Array.length_toList, hacc.1, hsz, pk.length_eq]
    refine strsAre_by ll fun i v x e1 e2 => ?_
    obtain ⟨y, tk, ey, ev⟩ := hacc.2 i v (by rw [← Array.getElem?_toList]; exact e1)
    rw [e2] at ey
    cases ey
    exact ⟨tk, ev⟩
end
def SetO (P : Program) (w : World) (a : Addr) (ks : List Str) : HO := .ext fun h => ∃ es ep t ks', SetS P w h a es ep t ks' ∧ ks'.Perm ks
section
variable {X : Cx}
def rSet (X : Cx) : List V → Hp → VK → Prop := fun xs H Q => ∃ (l : Addr) (ss : List Str), xs = [.ref l] ∧ SqL X.K H l (ss.map V.str) ∧ ss.length + 1 < scanBound ∧
  ∀ (p : Addr) (ks : List Str), H p = none → ks.Nodup → (∀ y, y ∈ ks ↔ y ∈ ss) → ks.length ≤ ss.length → Q (.ref p) (upd H p (SetO X.prog X.w p ks))
theorem call_setT (hc : X.calm = true) : CallR X (.type "set") (rSet X) := by
  intro pins s σ H xs us Q I r h
  obtain ⟨l, ss, rfl, hq, hb, q⟩ := h
  obtain ⟨u, rfl, ru⟩ := vals1 r
  cases ru
  obtain ⟨its, rv, p, _⟩ := I.list hq
  have hl := rv.length
  rw [List.length_map] at hl
  refine set_of_texts (I.ok.hd hc) p.isList (strsAre_of rv) (by simp; omega) fun h' tk es ep t ks S hm hlen kp => ?_
  have k' : ∀ b o, s.heap.get? b = some o → h'.get? b = some o := fun b o e => kp b o (Heap.lt_size e) e
  have hp : s.heap.objs.size ≤ s.heap.objs.size := Nat.le_refl _
  have I2 := I.laid (a := s.heap.objs.size) (o := SetO X.prog X.w s.heap.objs.size ks) (t' := tk) k' hp ⟨⟨es, ep, t, ks, S, .refl _⟩, (let ⟨o, e, _⟩ := S.obj; ⟨o, e⟩), fun h1 h2 ⟨es1, ep1, t1, ks1, S1, p1⟩ k2 => ⟨es1, ep1, t1, ks1, S1.at k2, p1⟩⟩
  exact ⟨.ref s.heap.objs.size, _, I2, rfl, q _ ks (I.hok.fresh hp) S.once hm (by simp at hlen; omega)⟩
def rSortSet (X : Cx) : List V → Hp → VK → Prop := fun xs H Q => ∃ (a : Addr) (ks : List Str), xs = [.ref a] ∧ H a = some (SetO X.prog X.w a ks) ∧ ks.length < 64 ∧
  ∀ (p : Addr) (ss' : List Str), H p = none → ss'.Perm ks → sortedS ss' = true → Q (.ref p) (upd H p (.lst (ss'.map V.str)))
theorem call_sortSet (hc : X.calm = true) : CallR X (.builtin "sorted") (rSortSet X) := by
  intro pins s σ H xs us Q I r h
  obtain ⟨a, ks, rfl, ha, h64, q⟩ := h
  obtain ⟨u, rfl, ru⟩ := vals1 r
  cases ru
  obtain ⟨⟨es, ep, t, ks0, S, p0⟩, _, _⟩ := (show ObjOk X.prog X.w H s.heap a (SetO X.prog X.w a ks) from I.hok a _ ha)
  refine Calls.call_function_entry kind_sorted plain_sorted entry_sorted (args_sorted1 _) ?_
  unfold Builtin.«sorted»
  (refine wpAny_bind (m := checkCount "sorted" 1 1 _) (wpAny_pure ?_))
  refine wpAny_bind (set_collect (A := X.A.in1) S (I.ok.hd hc) fun h' tk d' acc ks1 k hS p1 => ?_)
  have hl : acc.length = ks.length := by rw [hS.length, p1.length_eq, p0.length_eq]
  refine wpAny_bind (wpAny_newList ?_ (by rw [hl]; exact Nat.le_of_lt (Nat.lt_of_lt_of_le h64 (by decide))))
  have hoL : (h'.push (seqObj "list" acc.toArray 0)).get? h'.objs.size = some (seqObj "list" acc.toArray 0) := Heap.get?_push_size _ rfl
  refine wpAny_bind (wpAny_holding (wpAny_call_entry slot_list_sort ⟨_, hoL, rfl⟩ entry_list_sort (list_sort_treeK strKind_oneLt hoL hS.keysOf (fun v1 v2 rest e => keyKind_strs (by rw [← e]; exact hS)) (by rw [hl]; exact h64) fun st' hp hs => ⟨_, rfl, ?_⟩) (args_list_sort _)))
  obtain ⟨ss', a1, a2, a3⟩ := sorted_out_str hS hp hs
  have I1 : Inv X pins σ H { s with heap := h', toks := tk, drawn := d' } := I.step (g' := s.gens) (d' := d') (ch := []) (fun b z => by cases z) (fun b o _ _ _ e _ => k b o e) (fun b o _ _ _ e _ => ⟨o.slots, k b o e⟩) (fun _ _ _ _ n => n)
    (fun b o _ e => ⟨o, k b o e⟩) (fun _ _ e => e) (fun _ _ _ e => e) (fun b ps e => ⟨#[], by rw [e]; simp⟩) (fun m ⟨ob, e1, e2, hb, r⟩ => ⟨ob, e1, e2, k _ ob hb, r⟩) (fun b u e => (I.hok b u e).stay (fun c v _ z => k c v z) (fun _ z => z) fun _ _ z => z) I.bare
  obtain ⟨e, he⟩ := sortedHeap_at (out := (arrOf st').map (·.2)) hoL
  have kp : ∀ b u, h'.get? b = some u → (sortedHeap (h'.push (seqObj "list" acc.toArray 0)) h'.objs.size acc ((arrOf st').map (·.2))).get? b = some u := fun b u eb => by
    have lt := Heap.lt_size eb
    rw [sortedHeap_old (Nat.ne_of_lt lt) (by rw [Heap.size_push]; exact Nat.lt_succ_of_lt lt)]
    exact Heap.get?_push_of_some _ eb
  have I2 := I1.laid (a := h'.objs.size) (o := .lst (ss'.map V.str)) (t' := tk) kp (Nat.le_refl _) ⟨by rw [List.length_map, a2.length_eq, p1.length_eq, p0.length_eq]; exact Nat.le_of_lt (Nat.lt_of_lt_of_le h64 (by decide)), ((arrOf st').map (·.2)).toList, e, vals_strs a1, he⟩
  exact wpAny_pure ⟨_, rfl, ⟨.ref h'.objs.size, _, I2, rfl, q _ ss' (I1.hok.fresh (Nat.le_refl _)) ((a2.trans p1).trans p0) a3⟩⟩
end
end L2
set_option Elab.async false
set_option linter.all false
set_option maxRecDepth 100000
set_option maxHeartbeats 4000000
namespace L2
open PySem PySem.Spec PyProof.Rows
open PySem.AutoSeq1 (wpAny_loadPart')
theorem list_extend_tup (l b : Addr) (items items2 : Array Value) (n n2 : Nat) (dd : Option Addr) (sl : Array (Option Value)) (h0 : ¬(!items.isEmpty && Builtin.List.listTooLong (items.size + items2.size)) = true) (h1 : items.size ≤ sizeLine) (h2 : items.size + items2.size ≤ sizeLine + 1) :
    Meets (Builtin.«list.extend» ⟨[.ref l, .ref b], []⟩) (fun _ R s => s.heap.get? l = some { cls := .type "list", dict := none, data := .seq items n, slots := #[] } ∧ s.heap.get? b = some { cls := .type "tuple", dict := dd, data := .seq items2 n2, slots := sl } ∧
      R (.ok (.ret Value.none)) { s with heap := s.heap.update l (Obj.mapSeq fun x => x ++ items2), toks := s.toks }) :=
  .of_wp fun prog w A R s h => by
    obtain ⟨hp, g, d, tk, os⟩ := s; obtain ⟨hl, hb, h⟩ := h
    have f1 := AutoSeq1.idx_int
    have f2 := AutoSeq1.sub_tuple_tuple
    have f3 := AutoSeq1.sub_list_list
    have f4 := AutoSeq1.sub_tuple_list
    have f5 := AutoSeq1.sub_list_tuple
    have hz : (items ++ items2).size ≤ sizeLine + 1 := by rw [Array.size_append]; exact h2
    wp_walk using (wpAny_updateSeq hl rfl (hz := h1) (_hz' := hz)), wpAny_loadPart' hl, wpAny_loadPart' hb
    exact ⟨_, rfl, h⟩
section
variable {X : Cx}
def rExtendT (K : PySem.W.Frag) : V → List V → Hp → VK → Prop := fun x vs H Q => ∃ l b xs zs, x = .ref l ∧ vs = [.ref b] ∧ H l = some (.lst xs) ∧ SqT K H b zs ∧ xs.length + zs.length ≤ sizeLine ∧ Q .non (upd H l (.lst (xs ++ zs)))
theorem mt_extendT (K : PySem.W.Frag) (hK : X.K = K := by rfl) : MtM X "list.extend" (rExtendT K) := by
  subst hK
  intro pins s σ H x vs v us Q I rx rv h
  obtain ⟨l, b, xs, zs, rfl, rfl, hH, hB, hz, q⟩ := h
  cases rx
  obtain ⟨u, rfl, ru⟩ := rv.one
  cases ru
  obtain ⟨z, its, n, r, hl, e⟩ := I.lstM hH
  obtain ⟨its2, r2, ⟨⟨c2, dd2, da2, sl2⟩, e2, hc2, n2, hd2⟩, z2⟩ := I.tuple hB
  simp only at hc2 hd2
  subst hc2 hd2
  have lr2 := r2.length
  have hsz : its.toArray.size + its2.toArray.size ≤ sizeLine := by rw [List.size_toArray, List.size_toArray]; omega
  have hlong : ¬ (!its.toArray.isEmpty && Builtin.List.listTooLong (its.toArray.size + its2.toArray.size)) = true := by
    rw [notLongL hsz, Bool.and_false]
    exact Bool.false_ne_true
  refine call_meets F.slot_list_extend ⟨_, e, rfl⟩ F.entry_list_extend (F.args_list_extend_2 _ _)
    (list_extend_tup l b its.toArray its2.toArray n n2 dd2 sl2 hlong (by rw [List.size_toArray]; omega) (by omega)) ⟨e, e2, ?_⟩
  refine ⟨.non, _, I.lset (its' := its ++ its2) hH e (by simp) (r.append r2) ?_, rfl, q⟩
  rw [List.length_append]
  omega
end
theorem lt_no (x y : Str) (h : (!ltCps y.cps.toList x.cps.toList) = true) : x.cps.toList ≤ y.cps.toList := by
  rw [PyProof.Rows.ltCps_eq] at h
  exact List.not_lt.mp (by simpa using h)
theorem rising_le : ∀ (l : List Str) (p : Str), risingS p l = true → ∀ y ∈ l, p.cps.toList ≤ y.cps.toList
  | [], p, _, y, hy => by cases hy
  | x :: l, p, h, y, hy => by
    have h' : (!ltCps x.cps.toList p.cps.toList && risingS x l) = true := h
    rw [Bool.and_eq_true] at h'
    have h1 := lt_no p x h'.1
    rcases List.mem_cons.mp hy with e | hy
    · rw [e]; exact h1
    · exact List.le_trans h1 (rising_le l x h'.2 y hy)
theorem sorted_tail {x : Str} {l : List Str} (h : sortedS (x :: l) = true) : sortedS l = true := by
  cases l with
  | nil => rfl
  | cons y l =>
    have h' : (!ltCps y.cps.toList x.cps.toList && risingS y l) = true := h
    rw [Bool.and_eq_true] at h'
    exact h'.2
theorem str_eq {x y : Str} (h : x.cps.toList = y.cps.toList) : x = y := by
  obtain ⟨a⟩ := x
  obtain ⟨b⟩ := y
  have : a = b := Array.toList_inj.mp h
  rw [this]
theorem sorted_uniq : ∀ {l m : List Str}, sortedS l = true → sortedS m = true → l.Nodup → m.Nodup → (∀ y, y ∈ l ↔ y ∈ m) → l = m
  | [], [], _, _, _, _, _ => rfl
  | [], y :: m, _, _, _, _, h => by have := (h y).mpr List.mem_cons_self; cases this
  | x :: l, [], _, _, _, _, h => by have := (h x).mp List.mem_cons_self; cases this
  | x :: l, y :: m, sl, sm, nl, nm, h => by
    rw [List.nodup_cons] at nl nm
    have e : x = y := by
      rcases List.mem_cons.mp ((h x).mp List.mem_cons_self) with e | hx
      · exact e
      · rcases List.mem_cons.mp ((h y).mpr List.mem_cons_self) with e | hy
        · exact e.symm
        · exact str_eq (List.le_antisymm (rising_le l x sl y hy) (rising_le m y sm x hx))
    subst e
    rw [sorted_uniq (sorted_tail sl) (sorted_tail sm) nl.2 nm.2 fun z => ?_]
    constructor
    · intro hz
      rcases List.mem_cons.mp ((h z).mp (List.mem_cons_of_mem _ hz)) with e | q
      · exact absurd (e ▸ hz) nl.1
      · exact q
    · intro hz
      rcases List.mem_cons.mp ((h z).mpr (List.mem_cons_of_mem _ hz)) with e | q
      · exact absurd (e ▸ hz) nm.1
      · exact q
theorem nodup_len : ∀ {l : List Str} {ss : List Str}, l.Nodup → (∀ y ∈ l, y ∈ ss) → l.length ≤ ss.length
  | [], ss, _, _ => Nat.zero_le _
  | x :: l, ss, h, hs => by
    rw [List.nodup_cons] at h
    have hx := hs x List.mem_cons_self
    have := nodup_len (l := l) (ss := ss.erase x) h.2 fun y hy => (List.mem_erase_of_ne (fun e : y = x => h.1 (by rw [← e]; exact hy))).mpr (hs y (List.mem_cons_of_mem _ hy))
    rw [List.length_erase_of_mem hx] at this
    have hp : 0 < ss.length := List.length_pos_of_mem hx
    rw [List.length_cons]
    omega
theorem inV_strs (x : Str) (l : List Str) : inV (.str x) (l.map V.str) = decide (x ∈ l) := by
  induction l with
  | nil => rfl
  | cons y l ih =>
    unfold inV at ih ⊢
    rw [List.map_cons, List.any_cons, ih]
    show ((y == x) || _) = _
    by_cases e : y = x
    · simp [e]
    · have e' : ¬ x = y := fun z => e z.symm
      simp [e, e']
end L2
set_option Elab.async false
set_option linter.all false
set_option maxRecDepth 100000
set_option maxHeartbeats 4000000
namespace My
open PySem L2
def top (i : Nat) : Stmt := PySem.Challenge.pw_figurejudge_k21_free_names.main.body.getD i (.Pass ⟨0, 0, 0, 0⟩)
abbrev s_inner_parts : Stmt := top 3
abbrev s_term_names : Stmt := top 4
abbrev s_parts_in_order : Stmt := top 5
abbrev s_told_of_parts : Stmt := top 6
abbrev s_names_over : Stmt := top 7
abbrev s_names_by_place : Stmt := top 8
abbrev s_free_names : Stmt := top 9
abbrev s_l_deck : Stmt := top 11
abbrev s_l_next : Stmt := top 12
abbrev s_l_names : Stmt := top 13
abbrev s_l_term : Stmt := top 14
abbrev s_l_plain : Stmt := top 15
abbrev s_l_saying : Stmt := top 16
abbrev s_l_terms : Stmt := top 17
abbrev s_l_inner : Stmt := top 18
abbrev s_l_free : Stmt := top 19
abbrev s_l_all : Stmt := top 20
abbrev s_l_due : Stmt := top 21
abbrev s_law : Stmt := top 22
structure Adr where
  f_inner_parts : Addr
  fd_inner_parts : FuncData
  f_term_names : Addr
  fd_term_names : FuncData
  f_parts_in_order : Addr
  fd_parts_in_order : FuncData
  f_told_of_parts : Addr
  fd_told_of_parts : FuncData
  f_names_over : Addr
  fd_names_over : FuncData
  f_names_by_place : Addr
  fd_names_by_place : FuncData
  f_free_names : Addr
  fd_free_names : FuncData
  f_l_deck : Addr
  fd_l_deck : FuncData
  f_l_next : Addr
  fd_l_next : FuncData
  f_l_names : Addr
  fd_l_names : FuncData
  f_l_term : Addr
  fd_l_term : FuncData
  f_l_plain : Addr
  fd_l_plain : FuncData
  f_l_saying : Addr
  fd_l_saying : FuncData
  f_l_terms : Addr
  fd_l_terms : FuncData
  f_l_inner : Addr
  fd_l_inner : FuncData
  f_l_free : Addr
  fd_l_free : FuncData
  f_l_all : Addr
  fd_l_all : FuncData
  f_l_due : Addr
  fd_l_due : FuncData
  f_law : Addr
  fd_law : FuncData
structure Txt (K : PySem.W.Frag) (mg : Str → Option Value) (a : Adr) : Prop where
  F_inner_parts : Fun K "inner_parts" "inner_parts" s_inner_parts a.f_inner_parts a.fd_inner_parts
  m_inner_parts : mg "inner_parts" = some (.ref a.f_inner_parts)
  k_inner_parts : PySem.W.keepIn K (.ref a.f_inner_parts) = true
  b_inner_parts : Binds K a.fd_inner_parts ["saying"] []
  F_term_names : Fun K "term_names" "term_names" s_term_names a.f_term_names a.fd_term_names
  m_term_names : mg "term_names" = some (.ref a.f_term_names)
  k_term_names : PySem.W.keepIn K (.ref a.f_term_names) = true
  b_term_names : Binds K a.fd_term_names ["saying"] []
  F_parts_in_order : Fun K "parts_in_order" "parts_in_order" s_parts_in_order a.f_parts_in_order a.fd_parts_in_order
  m_parts_in_order : mg "parts_in_order" = some (.ref a.f_parts_in_order)
  k_parts_in_order : PySem.W.keepIn K (.ref a.f_parts_in_order) = true
  b_parts_in_order : Binds K a.fd_parts_in_order ["saying"] []
  F_told_of_parts : Fun K "told_of_parts" "told_of_parts" s_told_of_parts a.f_told_of_parts a.fd_told_of_parts
  m_told_of_parts : mg "told_of_parts" = some (.ref a.f_told_of_parts)
  k_told_of_parts : PySem.W.keepIn K (.ref a.f_told_of_parts) = true
  b_told_of_parts : Binds K a.fd_told_of_parts ["told", "place", "saying"] []
  F_names_over : Fun K "names_over" "names_over" s_names_over a.f_names_over a.fd_names_over
  m_names_over : mg "names_over" = some (.ref a.f_names_over)
  k_names_over : PySem.W.keepIn K (.ref a.f_names_over) = true
  b_names_over : Binds K a.fd_names_over ["saying", "inner"] []
  F_names_by_place : Fun K "names_by_place" "names_by_place" s_names_by_place a.f_names_by_place a.fd_names_by_place
  m_names_by_place : mg "names_by_place" = some (.ref a.f_names_by_place)
  k_names_by_place : PySem.W.keepIn K (.ref a.f_names_by_place) = true
  b_names_by_place : Binds K a.fd_names_by_place ["saying"] []
  F_free_names : Fun K "free_names" "free_names" s_free_names a.f_free_names a.fd_free_names
  m_free_names : mg "free_names" = some (.ref a.f_free_names)
  k_free_names : PySem.W.keepIn K (.ref a.f_free_names) = true
  b_free_names : Binds K a.fd_free_names ["saying"] []
  F_l_deck : Fun K "_law_deck" "_law_deck" s_l_deck a.f_l_deck a.fd_l_deck
  m_l_deck : mg "_law_deck" = some (.ref a.f_l_deck)
  k_l_deck : PySem.W.keepIn K (.ref a.f_l_deck) = true
  b_l_deck : Binds K a.fd_l_deck ["_law_script", "_law_many"] []
  F_l_next : Fun K "_law_next" "_law_next" s_l_next a.f_l_next a.fd_l_next
  m_l_next : mg "_law_next" = some (.ref a.f_l_next)
  k_l_next : PySem.W.keepIn K (.ref a.f_l_next) = true
  b_l_next : Binds K a.fd_l_next ["_law_deck_here", "_law_many"] []
  F_l_names : Fun K "_law_names" "_law_names" s_l_names a.f_l_names a.fd_l_names
  m_l_names : mg "_law_names" = some (.ref a.f_l_names)
  k_l_names : PySem.W.keepIn K (.ref a.f_l_names) = true
  b_l_names : Binds K a.fd_l_names ["_law_deck_here", "_law_many", "_law_great"] []
  F_l_term : Fun K "_law_term" "_law_term" s_l_term a.f_l_term a.fd_l_term
  m_l_term : mg "_law_term" = some (.ref a.f_l_term)
  k_l_term : PySem.W.keepIn K (.ref a.f_l_term) = true
  b_l_term : Binds K a.fd_l_term ["_law_deck_here", "_law_names_here"] []
  F_l_plain : Fun K "_law_plain" "_law_plain" s_l_plain a.f_l_plain a.fd_l_plain
  m_l_plain : mg "_law_plain" = some (.ref a.f_l_plain)
  k_l_plain : PySem.W.keepIn K (.ref a.f_l_plain) = true
  b_l_plain : Binds K a.fd_l_plain ["_law_deck_here", "_law_names_here", "_law_rows"] []
  F_l_saying : Fun K "_law_saying" "_law_saying" s_l_saying a.f_l_saying a.fd_l_saying
  m_l_saying : mg "_law_saying" = some (.ref a.f_l_saying)
  k_l_saying : PySem.W.keepIn K (.ref a.f_l_saying) = true
  b_l_saying : Binds K a.fd_l_saying ["_law_deck_here", "_law_names_here", "_law_rows", "_law_box", "_law_deep"] []
  F_l_terms : Fun K "_law_terms" "_law_terms" s_l_terms a.f_l_terms a.fd_l_terms
  m_l_terms : mg "_law_terms" = some (.ref a.f_l_terms)
  k_l_terms : PySem.W.keepIn K (.ref a.f_l_terms) = true
  b_l_terms : Binds K a.fd_l_terms ["_law_saying_here"] []
  F_l_inner : Fun K "_law_inner" "_law_inner" s_l_inner a.f_l_inner a.fd_l_inner
  m_l_inner : mg "_law_inner" = some (.ref a.f_l_inner)
  k_l_inner : PySem.W.keepIn K (.ref a.f_l_inner) = true
  b_l_inner : Binds K a.fd_l_inner ["_law_saying_here"] []
  F_l_free : Fun K "_law_free" "_law_free" s_l_free a.f_l_free a.fd_l_free
  m_l_free : mg "_law_free" = some (.ref a.f_l_free)
  k_l_free : PySem.W.keepIn K (.ref a.f_l_free) = true
  b_l_free : Binds K a.fd_l_free ["_law_saying_here", "_law_bound", "_law_found"] []
  F_l_all : Fun K "_law_all" "_law_all" s_l_all a.f_l_all a.fd_l_all
  m_l_all : mg "_law_all" = some (.ref a.f_l_all)
  k_l_all : PySem.W.keepIn K (.ref a.f_l_all) = true
  b_l_all : Binds K a.fd_l_all ["_law_saying_here"] []
  F_l_due : Fun K "_law_due" "_law_due" s_l_due a.f_l_due a.fd_l_due
  m_l_due : mg "_law_due" = some (.ref a.f_l_due)
  k_l_due : PySem.W.keepIn K (.ref a.f_l_due) = true
  b_l_due : Binds K a.fd_l_due ["_law_saying_here"] []
  F_law : Fun K "law" "law" s_law a.f_law a.fd_law
  m_law : mg "law" = some (.ref a.f_law)
  z_list : mg "list" = none
  z_tuple : mg "tuple" = none
  z_range : mg "range" = none
  z_sorted : mg "sorted" = none
  z_enumerate : mg "enumerate" = none
  z_reversed : mg "reversed" = none
  z_min : mg "min" = none
  z_len : mg "len" = none
  z_int : mg "int" = none
  z_set : mg "set" = none
  z_isinstance : mg "isinstance" = none
structure Term where
  num : Int
  parts : List (Str × Int)
def partDt (p : Str × Int) : Dt := .tup [.str p.1, .int p.2]
def Term.dt (t : Term) : Dt := .tup [.int t.num, .tup (t.parts.map partDt)]
inductive Say where
  | same (t u : Term) | less (t u : Term) | sign (a : Str) (t : Term) (s : Int) | alike (a : Str) (t : Term) (b : Str) (u : Term)
  | no (f : Say) | and (f g : Say) | or (f g : Say) | some (n : Str) (f : Say) | each (n : Str) (f : Say)
def Say.dt : Say → Dt
  | .same t u => .tup [.str "same", t.dt, u.dt]
  | .less t u => .tup [.str "less", t.dt, u.dt]
  | .sign a t s => .tup [.str "sign", .str a, t.dt, .int s]
  | .alike a t b u => .tup [.str "alike", .str a, t.dt, .str b, u.dt]
  | .no f => .tup [.str "not", f.dt]
  | .and f g => .tup [.str "and", f.dt, g.dt]
  | .or f g => .tup [.str "or", f.dt, g.dt]
  | .some n f => .tup [.str "some", .str n, f.dt]
  | .each n f => .tup [.str "each", .str n, f.dt]
def Say.deep : Say → Nat
  | .no f => f.deep + 1
  | .and f g => max f.deep g.deep + 1
  | .or f g => max f.deep g.deep + 1
  | .some _ f => f.deep + 1
  | .each _ f => f.deep + 1
  | _ => 0
theorem parts_noL : ∀ ps : List (Str × Int), Dt.noLs (ps.map partDt) = true
  | [] => by simp [Dt.noLs]
  | p :: ps => by rw [List.map_cons, Dt.noLs, parts_noL ps]; simp [partDt, Dt.noL, Dt.noLs]
theorem Term.noL (t : Term) : t.dt.noL = true := by simp [Term.dt, Dt.noL, Dt.noLs, parts_noL]
theorem Say.noL (s : Say) : s.dt.noL = true := by
  induction s <;> simp [Say.dt, Dt.noL, Dt.noLs, Term.noL, *]
theorem parts_dep : ∀ ps : List (Str × Int), Dt.deps (ps.map partDt) ≤ 1
  | [] => by simp [Dt.deps]
  | p :: ps => by
    have := parts_dep ps
    rw [List.map_cons, Dt.deps]
    simp [partDt, Dt.dep, Dt.deps]
    omega
theorem Term.dep (t : Term) : t.dt.dep ≤ 3 := by
  have := parts_dep t.parts
  simp [Term.dt, Dt.dep, Dt.deps]
  omega
theorem Say.dep (s : Say) : s.dt.dep ≤ s.deep + 4 := by
  induction s with
  | same t u => have := t.dep; have := u.dep; simp [Say.dt, Dt.dep, Dt.deps, Say.deep]; omega
  | less t u => have := t.dep; have := u.dep; simp [Say.dt, Dt.dep, Dt.deps, Say.deep]; omega
  | sign a t s => have := t.dep; simp [Say.dt, Dt.dep, Dt.deps, Say.deep]; omega
  | alike a t b u => have := t.dep; have := u.dep; simp [Say.dt, Dt.dep, Dt.deps, Say.deep]; omega
  | no f ih => simp [Say.dt, Dt.dep, Dt.deps, Say.deep]; omega
  | and f g ih1 ih2 => simp [Say.dt, Dt.dep, Dt.deps, Say.deep]; omega
  | or f g ih1 ih2 => simp [Say.dt, Dt.dep, Dt.deps, Say.deep]; omega
  | some n f ih => simp [Say.dt, Dt.dep, Dt.deps, Say.deep]; omega
  | each n f ih => simp [Say.dt, Dt.dep, Dt.deps, Say.deep]; omega
def TOver (ss : List Str) (t : Term) : Prop := t.parts.length ≤ 3 ∧ ∀ q ∈ t.parts, q.1 ∈ ss
def Say.Over (ss : List Str) : Say → Prop
  | .same t u => TOver ss t ∧ TOver ss u
  | .less t u => TOver ss t ∧ TOver ss u
  | .sign _ t _ => TOver ss t
  | .alike _ t _ u => TOver ss t ∧ TOver ss u
  | .no f => f.Over ss
  | .and f g => f.Over ss ∧ g.Over ss
  | .or f g => f.Over ss ∧ g.Over ss
  | .some _ f => f.Over ss
  | .each _ f => f.Over ss
def Deck2 (H : Hp) (d : Addr) : Prop := ∃ ms : List Int, H d = some (.lst (ms.map V.int))
theorem Deck2.same {H H' : Hp} {d : Addr} (h : Deck2 H d) (s : Same H H') : Deck2 H' d := let ⟨ms, a⟩ := h; ⟨ms, s _ _ a⟩
theorem Deck2.kb {H H' : Hp} {d e : Addr} (h : Deck2 H d) (s : KB e H H') (n : d ≠ e) : Deck2 H' d := let ⟨ms, a⟩ := h; ⟨ms, s _ _ a n⟩
theorem Deck2.is {H : Hp} {d : Addr} (h : Deck2 H d) : ∃ xs, H d = some (.lst xs) := let ⟨ms, a⟩ := h; ⟨_, a⟩
theorem Deck2.ne {H : Hp} {d e : Addr} (h : Deck2 H d) (n : H e = none) : d ≠ e := let ⟨ms, a⟩ := h; ne_of_none a n
theorem Deck2.kts {K : PySem.W.Frag} {H H' : Hp} {d : Addr} (h : Deck2 H d) (s : KB d H H') : KTs K H H' := let ⟨ms, a⟩ := h; KB.kts a s
def spDeck2 (K : PySem.W.Frag) : Sp := fun vs H Q _ => ∃ (a : Addr) (ns : List Int), vs = [.ref a, .int 700] ∧ SqL K H a (ns.map V.int) ∧ ns.length ≤ 63 ∧
  ∀ (D : Addr) (H' : Hp), H D = none → Same H H' → Deck2 H' D → Q (.ref D) H'
def spNext2 : Sp := fun vs H Q _ => ∃ (d : Addr) (m : Int), vs = [.ref d, .int m] ∧ Deck2 H d ∧ 0 < m ∧ ∀ (r : Int) (H' : Hp), 0 ≤ r → r < m → KB d H H' → Deck2 H' d → Q (.int r) H'
section
variable {P : Program} {w : World} {K : PySem.W.Frag} {mg : Str → Option Value} {base : Heap}
theorem sc_l_next : FnScope ["_law_deck_here", "_law_many"] ["_law_deck_here", "_law_many"] (defScope s_l_next) := ⟨rfl, rfl, rfl, by decide +kernel, rfl, by decide +kernel, by decide +kernel⟩
theorem ok_l_next {a : Adr} (T : Txt K mg a) : FnOk P w K mg base CX0 1 a.f_l_next a.fd_l_next ["_law_deck_here", "_law_many"] spNext2 := by
  refine T.F_l_next.ok sc_l_next (fun vs H Q E h => ?_) (fun cdv A outer s H vs Q E hr h => ?_)
  · obtain ⟨d, m, rfl, _⟩ := h
    rfl
  · obtain ⟨d, m, rfl, ⟨ms, hd⟩, hm, k⟩ := h
    refine ⟨_, (pss_cons (ps_if (pt_cmpR op_eq (pe_callB (call_lenK K) (by rfl) T.z_len bt_len (pa_cons (pv 0) pa_nil)) pe_int (nomark _))
      (pss_one (ps_ret pe_int))
      pss_nil)
    (pss_one (ps_ret (pe_op op_modP (pe_bm0 PySem.F.plainAttrs_list PySem.F.slot_list_pop PySem.F.type_list_pop mt_pop (pv 0)) (pv 1))))), ?_⟩
    refine ⟨_, rfl, _, ms.length, rfl, .inl ⟨_, .of hd, by rw [List.length_map]⟩, rfl, _, rfl, ?_⟩
    refine ite2 (fun hl => ?_) (fun hl => ?_)
    · exact k 0 H (Int.le_refl _) hm (KB.refl d H) ⟨ms, hd⟩
    · have hl' : 0 < ms.length := by
        by_cases z : ms.length = 0
        · exact absurd (dI (show ((ms.length : Nat) : Int) = 0 by omega)) hl
        · omega
      obtain ⟨x, hx⟩ : ∃ x, ms[ms.length - 1]? = some x := ⟨_, List.getElem?_eq_getElem (by omega)⟩
      refine ⟨_, rfl, .inl ⟨rfl, _, .of hd⟩, d, _, V.int x, rfl, rfl, hd, ?_, _, rfl, _, _, rfl, rfl, cpos hm, ?_⟩
      · rw [List.length_map, List.getElem?_map, hx]; rfl
      · exact k _ _ (Int.emod_nonneg _ (by omega)) (Int.emod_lt_of_pos _ hm) KB.write ⟨ms.dropLast, by rw [upd_same, List.map_dropLast]⟩
theorem sc_l_deck : FnScope ["_law_script", "_law_many", "_law_deck_here", "_law_k", "_law_cell", "_law_j", "_law_number"] ["_law_script", "_law_many"] (defScope s_l_deck) := ⟨rfl, rfl, rfl, by decide +kernel, rfl, by decide +kernel, by decide +kernel⟩
theorem cutTake (ms : List Int) (n : Nat) : cutV (ms.map V.int) none (some (n : Int)) = (ms.take n).map V.int := by
  unfold cutV
  rw [show HT.sIx (ms.map V.int).length 0 none = 0 from rfl, HT.sIx_nat]
  rw [List.drop_zero, List.length_map, Nat.sub_zero, ← List.map_take]
  congr 1
  by_cases h : n ≤ ms.length
  · rw [Nat.min_eq_left h]
  · rw [Nat.min_eq_right (by omega), List.take_of_length_le (Nat.le_refl _), List.take_of_length_le (by omega)]
theorem ok_l_deck {a : Adr} (T : Txt K mg a) : FnOk P w K mg base CX0 1 a.f_l_deck a.fd_l_deck ["_law_script", "_law_many"] (spDeck2 K) := by
  refine T.F_l_deck.ok sc_l_deck (fun vs H Q E h => ?_) (fun cdv A outer s H vs Q E hr h => ?_)
  · obtain ⟨a, ns, rfl, _⟩ := h
    rfl
  · obtain ⟨sa, ns, rfl, hS, hns, k⟩ := h
    refine ⟨_, (pss_cons (ps_set (i := 2) sc_l_deck.nd rfl (Or.inl rfl) (pe_lst pa_nil))
    (pss_cons (ps_for PassesOwn.never rfl (pi_range1 rfl T.z_range (pa_cons (pe_callB (call_min2 rfl) (by rfl) T.z_min bt_min (pa_cons pe_int (pa_cons (pe_callB (call_lenK K) (by rfl) T.z_len bt_len (pa_cons (pv 0) pa_nil)) pa_nil))) pa_nil)) (pg_name (i := 3) sc_l_deck.nd rfl (Or.inl rfl))
      (pss_cons (ps_set (i := 4) sc_l_deck.nd rfl (Or.inl rfl) (pe_ix (ix_listK K) (pv 0) (pv 3) (fun _ _ => rfl)))
      (pss_one (ps_if (pt_cmpR op_ge (pv 4) (pe_op op_pow pe_int pe_int) (nomark _))
        (pss_one (ps_for PassesOwn.never rfl (pi_range1 rfl T.z_range (pa_cons pe_int pa_nil)) (pg_name (i := 5) sc_l_deck.nd rfl (Or.inl rfl))
          (pss_one (ps_if (pt_cmpR op_gt (pv 4) pe_int (nomark _))
            (pss_cons (ps_expr (pe_bm PySem.F.plainAttrs_list PySem.F.slot_list_append PySem.F.type_list_append mt_append (pv 2) (pa_cons (pe_op op_modP (pv 4) pe_int) pa_nil)))
            (pss_one (ps_set (i := 4) sc_l_deck.nd rfl (Or.inl rfl) (pe_op op_fdivB (pv 4) pe_int))))
            pss_nil))))
        (pss_cons (ps_set (i := 6) sc_l_deck.nd rfl (Or.inl rfl) (pe_op op_modP (pe_op op_add (pe_op op_add (pe_op op_mul (pe_op op_modP (pv 4) pe_int) pe_int) (pe_op op_mul pe_int (pv 3))) pe_int) pe_int))
        (pss_cons (ps_set (i := 6) sc_l_deck.nd rfl (Or.inl rfl) (pe_op op_modP (pe_op op_add (pe_op op_mul (pv 6) (pe_op op_add (pe_op op_fdivB (pv 6) pe_int) pe_int)) (pe_op op_mul pe_int (pv 3))) pe_int))
        (pss_one (ps_expr (pe_bm PySem.F.plainAttrs_list PySem.F.slot_list_extend PySem.F.type_list_extend mt_extend (pv 2) (pa_cons (pe_lst (pa_cons (pe_op op_modP (pv 6) pe_int) (pa_cons (pe_op op_modP (pe_op op_modP (pe_op op_mul (pv 6) pe_int) pe_int) pe_int) pa_nil))) pa_nil))))))))))
    (pss_cons (ps_for PassesOwn.never rfl (pi_range2 rfl T.z_range (pa_cons (pe_callB (call_lenK K) (by rfl) T.z_len bt_len (pa_cons (pv 2) pa_nil)) (pa_cons (pv 1) pa_nil))) (pg_name (i := 3) sc_l_deck.nd rfl (Or.inl rfl))
      (pss_cons (ps_set (i := 6) sc_l_deck.nd rfl (Or.inl rfl) pe_int)
      (pss_cons (ps_if (pt_cmpR op_gt (pe_callB (call_lenK K) (by rfl) T.z_len bt_len (pa_cons (pv 0) pa_nil)) pe_int (nomark _))
        (pss_one (ps_set (i := 6) sc_l_deck.nd rfl (Or.inl rfl) (pe_op op_modP (pe_ix (ix_listK K) (pv 0) (pe_op op_modP (pv 3) (pe_callB (call_min2 rfl) (by rfl) T.z_min bt_min (pa_cons pe_int (pa_cons (pe_callB (call_lenK K) (by rfl) T.z_len bt_len (pa_cons (pv 0) pa_nil)) pa_nil)))) (fun _ _ => rfl)) pe_int)))
        pss_nil)
      (pss_cons (ps_set (i := 6) sc_l_deck.nd rfl (Or.inl rfl) (pe_op op_modP (pe_op op_add (pe_op op_add (pe_op op_mul (pv 6) pe_int) (pe_op op_mul pe_int (pv 3))) pe_int) pe_int))
      (pss_cons (ps_set (i := 6) sc_l_deck.nd rfl (Or.inl rfl) (pe_op op_modP (pe_op op_add (pe_op op_mul (pv 6) (pe_op op_add (pe_op op_fdivB (pv 6) pe_int) pe_int)) (pe_op op_mul pe_int (pv 3))) pe_int))
      (pss_one (ps_expr (pe_bm PySem.F.plainAttrs_list PySem.F.slot_list_append PySem.F.type_list_append mt_append (pv 2) (pa_cons (pe_op op_modP (pe_op op_modP (pe_op op_mul (pv 6) pe_int) pe_int) pe_int) pa_nil)))))))))
    (pss_cons (ps_set (i := 2) sc_l_deck.nd rfl (Or.inl rfl) (pe_slice (sl_listK K) (pv 2) po_none (po_some (pv 1))))
    (pss_cons (ps_expr (pe_bm0 PySem.F.plainAttrs_list PySem.F.slot_list_reverse PySem.F.type_list_reverse mt_reverse (pv 2)))
    (pss_one (ps_ret (pv 2)))))))), ?_⟩
    refine ⟨by decide, fun d hd => ?_⟩
    have s0 : Same H (upd H d (.lst [])) := Same.new hd
    have lenS : ∀ {H' : Hp}, Same H H' → LenV K (.ref sa) H' ns.length := fun s => .inl ⟨_, s.seq hS, by rw [List.length_map]⟩
    have m31 : ∀ x : Int, 0 ≤ x % 2147483629 ∧ x % 2147483629 < 2147483629 := fun x => ⟨Int.emod_nonneg _ (by decide), Int.emod_lt_of_pos _ (by decide)⟩
    have mul1 : ∀ x y : Int, CMul (x % 2147483629) y := fun x y => .inl (by have := m31 x; constructor <;> omega)
    refine ⟨_, rfl, _, ns.length, rfl, lenS s0, 63, (ns.length : Int), rfl, _, rfl, by split <;> omega, by split <;> omega,
      for_range (fun i σ H' => ∃ (ms : List Int) (v3 v4 v5 v6 : Option V), σ = [some (.ref sa), some (.int 700), some (.ref d), v3, v4, v5, v6] ∧ Same H H' ∧ H' d = some (.lst (ms.map V.int)) ∧ ms.length ≤ 60 * i)
        ⟨[], none, none, none, none, rfl, s0, upd_same, by simp⟩ ?_ ?_⟩
    · rintro i σ H1 hi ⟨ms, v3, v4, v5, v6, rfl, s1, e1, hl⟩
      have hi' : i < ns.length := by split at hi <;> omega
      have hi63 : i < 63 := by split at hi <;> omega
      obtain ⟨c, hc⟩ : ∃ c, ns[i]? = some c := ⟨_, List.getElem?_eq_getElem hi'⟩
      refine ⟨_, rfl, _, rfl, sa, _, _, V.int c, rfl, rfl, s1.seq hS, ?_, ?_⟩
      · rw [show (0 : Int) + (i : Int) = (i : Int) by omega]
        exact atI_nat (by rw [List.getElem?_map, hc]; rfl)
      refine ⟨_, rfl, _, _, rfl, rfl, ⟨by decide, by decide, by decide⟩, _, _, rfl, rfl, _, rfl, ?_⟩
      refine ite2 (fun _ => ?_) (fun _ => ?_)
      · refine ⟨(60 : Int), rfl, by decide, by decide, for_range (fun j σ H2 => ∃ (ms : List Int) (c : Int) (v5 v6 : Option V), σ = [some (.ref sa), some (.int 700), some (.ref d), some (.int (0 + (i : Int))), some (.int c), v5, v6] ∧ Same H H2 ∧ H2 d = some (.lst (ms.map V.int)) ∧ ms.length ≤ 60 * i + j)
          ⟨ms, c, v5, v6, rfl, s1, e1, hl⟩ ?_ ?_⟩
        · rintro j σ H2 hj ⟨ms, c, v5, v6, rfl, s2, e2, hl2⟩
          have hj' : j < 60 := hj
          refine ⟨_, rfl, _, _, rfl, rfl, _, rfl, ?_⟩
          refine ite2 (fun _ => ?_) (fun _ => ?_)
          · refine ⟨_, rfl, .inl ⟨rfl, _, .of e2⟩, _, rfl, _, _, rfl, rfl, cpos (by decide), d, _, _, rfl, rfl, e2, ?_, ?_⟩
            · rw [List.length_map]; exact Nat.lt_of_lt_of_le (show ms.length < 10000 by omega) (by decide)
            refine ⟨_, rfl, _, _, rfl, rfl, ⟨by decide, by decide⟩, ms ++ [c % 720720], c / 720720, _, _, rfl, s2.kbn hd KB.write, ?_, ?_⟩
            · rw [upd_same, List.map_append]; rfl
            · rw [List.length_append]; show ms.length + 1 ≤ _; omega
          · exact ⟨ms, c, _, _, rfl, s2, e2, by omega⟩
        · rintro σ H2 ⟨ms, c, v5, v6, rfl, s2, e2, hl2⟩
          have hl2' : ms.length ≤ 60 * i + 60 := hl2
          exact ⟨ms, _, _, _, _, rfl, s2, e2, by omega⟩
      · refine ⟨_, rfl, _, _, rfl, rfl, cpos (by decide), _, _, rfl, rfl, .inr (by decide), _, rfl, _, _, rfl, rfl, .inl (by decide), _, _, rfl, rfl, _, _, rfl, rfl, _, _, rfl, rfl, cpos (by decide), ?_⟩
        refine ⟨_, rfl, _, rfl, _, _, rfl, rfl, ⟨by decide, by decide⟩, _, _, rfl, rfl, _, _, rfl, rfl, mul1 _ _, _, rfl, _, _, rfl, rfl, .inl (by decide), _, _, rfl, rfl, _, _, rfl, rfl, cpos (by decide), ?_⟩
        refine ⟨_, rfl, .inl ⟨rfl, _, .of e1⟩, _, rfl, _, _, rfl, rfl, cpos (by decide), _, rfl, _, _, rfl, rfl, .inr (by decide), _, _, rfl, rfl, cpos (by decide), _, _, rfl, rfl, cpos (by decide), by show 2 ≤ sizeLine; decide, fun L hL => ?_⟩
        have ndL : d ≠ L := ne_of_none e1 hL
        refine ⟨d, L, _, _, rfl, rfl, by rw [upd_ne ndL]; exact e1, upd_same, ?_, ?_⟩
        · rw [List.length_map]; exact Nat.le_trans (show ms.length + 2 ≤ 10000 by omega) (by decide)
        refine ⟨ms ++ [?x1, ?x2], _, _, _, _, rfl, (s1.trans (Same.new hL)).kbn hd KB.write, ?eq, ?len⟩
        case eq => rw [upd_same, List.map_append]; rfl
        case len => rw [List.length_append]; show ms.length + 2 ≤ _; omega
    · rintro σ H1 ⟨ms, v3, v4, v5, v6, rfl, s1, e1, hl⟩
      have hl' : ms.length ≤ 3780 := by split at hl <;> omega
      refine ⟨_, rfl, _, ms.length, rfl, .inl ⟨_, .of e1, by rw [List.length_map]⟩, _, rfl, (ms.length : Int), 700, rfl, by omega, for_range (fun j σ H' => ∃ (ms' : List Int) (v3 v4 v5 v6 : Option V), σ = [some (.ref sa), some (.int 700), some (.ref d), v3, v4, v5, v6] ∧ Same H H' ∧ H' d = some (.lst (ms'.map V.int)) ∧ ms'.length = ms.length + j)
        ⟨ms, v3, v4, v5, v6, rfl, s1, e1, rfl⟩ ?_ ?_⟩
      · rintro j σ H2 hj ⟨ms', v3, v4, v5, v6, rfl, s2, e2, hl2⟩
        dsimp only [gName]
        refine seq_const ?_
        refine seq_rest (t := tIfS _ _ _) (u := tSeq _ _) (fun σ H' => ∃ (x : Int), σ = [some (.ref sa), some (.int 700), some (.ref d), some (.int ((ms.length : Int) + (j : Int))), v4, v5, some (.int x)] ∧ H' = H2) ?_ (fun rest => ?_)
        · rintro σ H3 ⟨x, rfl, rfl⟩
          refine ⟨_, rfl, _, _, rfl, rfl, .inr (by decide), _, rfl, _, _, rfl, rfl, .inl (by decide), _, _, rfl, rfl, _, _, rfl, rfl, _, _, rfl, rfl, cpos (by decide), ?_⟩
          refine ⟨_, rfl, _, rfl, _, _, rfl, rfl, ⟨by decide, by decide⟩, _, _, rfl, rfl, _, _, rfl, rfl, mul1 _ _, _, rfl, _, _, rfl, rfl, .inl (by decide), _, _, rfl, rfl, _, _, rfl, rfl, cpos (by decide), ?_⟩
          refine ⟨_, rfl, .inl ⟨rfl, _, .of e2⟩, _, rfl, _, _, rfl, rfl, .inr (by decide), _, _, rfl, rfl, cpos (by decide), _, _, rfl, rfl, cpos (by decide), d, _, _, rfl, rfl, e2, ?_, ?_⟩
          · rw [List.length_map]; exact Nat.lt_of_lt_of_le (show ms'.length < 10000 by omega) (by decide)
          refine ⟨ms' ++ [?y1], _, _, _, _, rfl, s2.kbn hd KB.write, ?eq2, ?len2⟩
          case eq2 => rw [upd_same, List.map_append]; rfl
          case len2 => rw [List.length_append, hl2]; rfl
        · refine ⟨_, rfl, _, ns.length, rfl, lenS s2, _, _, rfl, rfl, _, rfl, ?_⟩
          refine ite2 (fun hp => ?_) (fun _ => rest _ _ ⟨11, rfl, rfl⟩)
          have hp' : 0 < ns.length := by have := of_decide_eq_true hp; omega
          refine ⟨_, rfl, _, rfl, _, rfl, _, ns.length, rfl, lenS s2, 63, (ns.length : Int), rfl, _, _, rfl, rfl, cpos (by split <;> omega), ?_⟩
          obtain ⟨q, hq1, hq2⟩ : ∃ q : Nat, ((ms.length : Int) + (j : Int)) % (if (ns.length : Int) < 63 then (ns.length : Int) else 63) = (q : Int) ∧ q < ns.length := by
            refine ⟨(((ms.length : Int) + (j : Int)) % (if (ns.length : Int) < 63 then (ns.length : Int) else 63)).toNat, ?_, ?_⟩
            · have := Int.emod_nonneg ((ms.length : Int) + (j : Int)) (show (if (ns.length : Int) < 63 then (ns.length : Int) else 63) ≠ 0 by split <;> omega)
              omega
            · have := Int.emod_nonneg ((ms.length : Int) + (j : Int)) (show (if (ns.length : Int) < 63 then (ns.length : Int) else 63) ≠ 0 by split <;> omega)
              have h2 := Int.emod_lt_of_pos ((ms.length : Int) + (j : Int)) (show (0 : Int) < (if (ns.length : Int) < 63 then (ns.length : Int) else 63) by split <;> omega)
              split at h2 <;> split <;> omega
          obtain ⟨c, hc⟩ : ∃ c, ns[q]? = some c := ⟨_, List.getElem?_eq_getElem hq2⟩
          refine ⟨sa, _, _, V.int c, rfl, rfl, s2.seq hS, ?_, _, _, rfl, rfl, cpos (by decide), rest _ _ ⟨_, rfl, rfl⟩⟩
          rw [hq1]
          exact atI_nat (by rw [List.getElem?_map, hc]; rfl)
      · rintro σ H2 ⟨ms', v3, v4, v5, v6, rfl, s2, e2, hl2⟩
        refine ⟨_, rfl, _, rfl, _, rfl, d, _, rfl, .of e2, fun D hD => ?_⟩
        rw [show (some (700 : Int)) = some ((700 : Nat) : Int) from rfl, cutTake]
        refine ⟨_, rfl, .inl ⟨rfl, _, .of upd_same⟩, D, _, rfl, rfl, upd_same, ?_⟩
        exact ⟨_, rfl, k D _ (s2.free hD) ((s2.trans (Same.new hD)).kbn (s2.free hD) KB.write) ⟨(ms'.take 700).reverse, by rw [upd_same, List.map_reverse]⟩⟩
end
end My
set_option Elab.async false
set_option linter.all false
set_option maxRecDepth 100000
set_option maxHeartbeats 4000000
namespace My
open PySem L2
def abc (g : Bool) : Str := if g then "ABCDEFGHIJKLMNOPQRSTUVWXYZ" else "abcdefghijklmnopqrstuvwxyz"
theorem abc_len (g : Bool) : (abc g).cps.toList.length = 26 := by cases g <;> decide +kernel
theorem abc_len' (g : Bool) : (abc g).length ≤ sizeLine := by
  have : (abc g).length = 26 := by cases g <;> decide +kernel
  rw [this]; decide
theorem abc_at (g : Bool) (r : Int) (h0 : 0 ≤ r) (h1 : r < 26) : ∃ c, atI (abc g).cps.toList r = some c := by
  obtain ⟨n, hn⟩ : ∃ n : Nat, r = (n : Int) := ⟨r.toNat, by omega⟩
  subst hn
  exact ⟨_, atI_nat (List.getElem?_eq_getElem (by rw [abc_len]; omega))⟩
def seven : List Str := ["ora", "orb", "ort", "orz", "orr", "oro", "ors"]
theorem drop_one {n : Str} : ∀ (cs : List Str), cs.Nodup → cs.length ≤ (cs.filter fun c => !decide (n = c)).length + 1
  | [], _ => by simp
  | c :: cs, h => by
    rw [List.nodup_cons] at h
    by_cases e : n = c
    · subst e
      have : (cs.filter fun c => !decide (n = c)) = cs := by
        rw [List.filter_eq_self]
        intro x hx
        have : n ≠ x := fun z => h.1 (z ▸ hx)
        simp [this]
      simp [this]
    · have := drop_one (n := n) cs h.2
      simp [e]
      omega
theorem enough : ∀ (ns cs : List Str), cs.Nodup → cs.length ≤ (cs.filter fun c => !(inV (.str c) (ns.map V.str))).length + ns.length
  | [], cs, _ => by
    have : (cs.filter fun c => !(inV (.str c) (([] : List Str).map V.str))) = cs := by
      rw [List.filter_eq_self]; intro x hx; rfl
    rw [this]; simp
  | n :: ns, cs, h => by
    have h1 := enough ns cs h
    have h2 := drop_one (n := n) (cs.filter fun c => !(inV (.str c) (ns.map V.str))) (h.sublist List.filter_sublist)
    have e : (cs.filter fun c => !(inV (.str c) ((n :: ns).map V.str))) = (cs.filter fun c => !(inV (.str c) (ns.map V.str))).filter fun c => !decide (n = c) := by
      rw [List.filter_filter]
      congr 1
      funext c
      unfold inV
      rw [List.map_cons, List.any_cons]
      show (!((n == c) || _)) = _
      rw [Bool.not_or]
      congr 1
      first | done | (by_cases z : n = c <;> simp [z])
    rw [e, List.length_cons]
    omega
def spNames : Sp := fun vs H Q _ => ∃ (d : Addr) (m : Nat) (g : Bool), vs = [.ref d, .int m, .bl g] ∧ Deck2 H d ∧ m ≤ 6 ∧
  ∀ (N : Addr) (ss : List Str) (H' : Hp), H N = none → KB d H H' → Deck2 H' d → H' N = some (.lst (ss.map V.str)) → ss.length = m → Q (.ref N) H'
section
variable {P : Program} {w : World} {K : PySem.W.Frag} {mg : Str → Option Value} {base : Heap}
theorem sc_l_names : FnScope ["_law_deck_here", "_law_many", "_law_great", "_law_letters", "_law_base", "_law_place", "_law_longer", "_law_names_here", "_law_k", "_law_word", "_law_some"] ["_law_deck_here", "_law_many", "_law_great"] (defScope s_l_names) := ⟨rfl, rfl, rfl, by decide +kernel, rfl, by decide +kernel, by decide +kernel⟩
theorem ok_l_names {a : Adr} (T : Txt K mg a) : FnOk P w K mg base CX0 2 a.f_l_names a.fd_l_names ["_law_deck_here", "_law_many", "_law_great"] spNames := by
  have G_l_next : FnOk P w K mg base CX0 1 a.f_l_next a.fd_l_next ["_law_deck_here", "_law_many"] spNext2 := ok_l_next T
  refine T.F_l_names.ok sc_l_names (fun vs H Q E h => ?_) (fun cdv A outer s H vs Q E hr h => ?_)
  · obtain ⟨d, m, g, rfl, _⟩ := h
    rfl
  · obtain ⟨d, m, g, rfl, hd, hm, k⟩ := h
    have hr_l_next : Room 1 _ := hr
    refine ⟨_, (pss_cons (ps_set (i := 3) sc_l_names.nd rfl (Or.inr rfl) (pe_ix (ix_listK K) (pe_lst (pa_cons pe_str (pa_cons pe_str pa_nil))) (pe_callTy call_int1 (by rfl) T.z_int bt_int (pa_cons (pv 2) pa_nil)) (fun _ _ => rfl)))
    (pss_cons (ps_set (i := 4) sc_l_names.nd rfl (Or.inr rfl) (pe_comp (CompScope.mk' (esc := defScope s_l_names) (N := ["_law_deck_here", "_law_many", "_law_great", "_law_letters", "_law_base", "_law_place", "_law_longer", "_law_names_here", "_law_k", "_law_word", "_law_some"]) (own := ["_law_k"]) (frn := ["_law_deck_here"]) (frj := [0]) rfl rfl (by decide +kernel)) rfl (pi_range1 rfl T.z_range (pa_cons (pe_op op_add pe_int (pe_call G_l_next hr_l_next rfl T.m_l_next T.k_l_next T.b_l_next .nil pass0 (pa_cons (pv 0) (pa_cons pe_int pa_nil)))) pa_nil)) (fun _ _ _ _ => (pg_name (i := 0) (show List.Nodup (["_law_k", "_law_deck_here"] : List Str) by decide +kernel) rfl (Or.inl rfl))) (fun _ _ _ _ => pifs_nil) (fun _ _ _ _ => (pe_call G_l_next hr_l_next rfl T.m_l_next T.k_l_next T.b_l_next .nil pass0 (pa_cons (pv 1) (pa_cons pe_int pa_nil))))))
    (pss_cons (ps_set (i := 5) sc_l_names.nd rfl (Or.inr rfl) (pe_call G_l_next hr_l_next rfl T.m_l_next T.k_l_next T.b_l_next .nil pass0 (pa_cons (pv 0) (pa_cons (pe_callB (call_lenK K) (by rfl) T.z_len bt_len (pa_cons (pv 4) pa_nil)) pa_nil))))
    (pss_cons (ps_set (i := 6) sc_l_names.nd rfl (Or.inl rfl) (pe_call G_l_next hr_l_next rfl T.m_l_next T.k_l_next T.b_l_next .nil pass0 (pa_cons (pv 0) (pa_cons pe_int pa_nil))))
    (pss_cons (ps_set (i := 7) sc_l_names.nd rfl (Or.inr rfl) (pe_lst pa_nil))
    (pss_cons (ps_for PassesOwn.never rfl (pi_range1 rfl T.z_range (pa_cons (pv 1) pa_nil)) (pg_name (i := 8) sc_l_names.nd rfl (Or.inr rfl))
      (pss_cons (ps_set (i := 9) sc_l_names.nd rfl (Or.inl rfl) (pe_bm PySem.F.plainAttrs_str PySem.F.slot_str_join PySem.F.type_str_join (mt_joinK K) pe_str (pa_cons (pe_comp (CompScope.mk' (esc := defScope s_l_names) (N := ["_law_deck_here", "_law_many", "_law_great", "_law_letters", "_law_base", "_law_place", "_law_longer", "_law_names_here", "_law_k", "_law_word", "_law_some"]) (own := ["_law_j"]) (frn := ["_law_letters", "_law_base", "_law_k", "_law_place"]) (frj := [3, 4, 8, 5]) rfl rfl (by decide +kernel)) rfl (pi_range1 rfl T.z_range (pa_cons (pe_callB (call_lenK K) (by rfl) T.z_len bt_len (pa_cons (pv 4) pa_nil)) pa_nil)) (fun _ _ _ _ => (pg_name (i := 0) (show List.Nodup (["_law_j", "_law_letters", "_law_base", "_law_k", "_law_place"] : List Str) by decide +kernel) rfl (Or.inl rfl))) (fun _ _ _ _ => pifs_nil) (fun _ _ _ _ => (pe_ix ix_str (pv 1) (pe_op op_modP (pe_op op_add (pe_ix (ix_listK K) (pv 2) (pv 0) (fun _ _ => rfl)) (pe_op op_mul (pv 3) (pe_callTy call_int1 (by rfl) T.z_int bt_int (pa_cons (pe_cmpR op_eq (pv 0) (pv 4) (nomark _)) pa_nil)))) pe_int) (fun _ _ => rfl)))) pa_nil)))
      (pss_cons (ps_if (pt_cmpR (op_inK K) (pv 9) (pe_lst (pa_cons pe_str (pa_cons pe_str (pa_cons pe_str pa_nil)))) (by with_unfolding_all rfl))
        (pss_one (ps_set (i := 9) sc_l_names.nd rfl (Or.inl rfl) (pe_slice sl_str (pv 9) po_none (po_some (pe_un un_neg pe_int)))))
        (pss_one (ps_if (PW.pt (pw_and (pt_cmpR op_eq (pv 6) pe_int (nomark _)) (pw_and (pt_cmpR op_eq (pe_op op_modP (pv 8) pe_int) pe_int (nomark _)) (pw_and1 (pt_cmpR op_lt (pe_callB (call_lenK K) (by rfl) T.z_len bt_len (pa_cons (pv 9) pa_nil)) pe_int (nomark _))))))
          (pss_one (ps_set (i := 9) sc_l_names.nd rfl (Or.inl rfl) (pe_op op_add_str (pv 9) (pe_ix ix_str (pv 3) pe_int (fun _ _ => rfl)))))
          pss_nil)))
      (pss_one (ps_expr (pe_bm PySem.F.plainAttrs_list PySem.F.slot_list_append PySem.F.type_list_append mt_append (pv 7) (pa_cons (pv 9) pa_nil)))))))
    (pss_cons (ps_if (PW.pt (pw_and (pt_cmpR op_gt (pv 1) pe_int (nomark _)) (pw_and (pt_not (pt_truth (pv 2) (fun _ => rfl))) (pw_and1 (pt_cmpR op_eq (pe_call G_l_next hr_l_next rfl T.m_l_next T.k_l_next T.b_l_next .nil pass0 (pa_cons (pv 0) (pa_cons pe_int pa_nil))) pe_int (nomark _))))))
      (pss_cons (ps_setComp (i := 10) (CompScope.mk' (esc := defScope s_l_names) (N := ["_law_deck_here", "_law_many", "_law_great", "_law_letters", "_law_base", "_law_place", "_law_longer", "_law_names_here", "_law_k", "_law_word", "_law_some"]) (own := ["_law_word"]) (frn := ["_law_names_here"]) (frj := [7]) rfl rfl (by decide +kernel)) rfl (pi_list (pe_lst (pa_cons pe_str (pa_cons pe_str (pa_cons pe_str (pa_cons pe_str (pa_cons pe_str (pa_cons pe_str (pa_cons pe_str pa_nil))))))))) (fun _ _ _ _ => (pg_name (i := 0) (show List.Nodup (["_law_word", "_law_names_here"] : List Str) by decide +kernel) rfl (Or.inl rfl))) (fun _ _ _ _ => (pifs_one (pt_cmpR (op_notInK K) (pv 0) (pv 1) (by with_unfolding_all rfl)))) (fun _ _ _ _ => (pv 0)) sc_l_names.nd rfl rfl)
      (pss_one (ps_asg (pe_ix (ix_listK K) (pv 10) pe_int (fun _ _ => rfl)) (pg_sub (pv 7) (pe_call G_l_next hr_l_next rfl T.m_l_next T.k_l_next T.b_l_next .nil pass0 (pa_cons (pv 0) (pa_cons (pv 1) pa_nil))) set_list))))
      pss_nil)
    (pss_one (ps_ret (pv 7)))))))))), ?_⟩
    refine ⟨by show 2 ≤ sizeLine; decide, fun L hL => ⟨_, rfl, .inr ⟨g, rfl, L, _, _, .str (abc g), rfl, rfl, .of upd_same, by cases g <;> rfl, ?_⟩⟩⟩
    have s1 := Same.new (o := .lst [.str "abcdefghijklmnopqrstuvwxyz", .str "ABCDEFGHIJKLMNOPQRSTUVWXYZ"]) hL
    have d1 := hd.same s1
    refine ⟨_, rfl, d, 3, rfl, d1, by decide, fun t H2 t0 t1 k2 d2 => ⟨_, _, rfl, rfl, _, rfl, by omega, by omega, fun B hB => ?_⟩⟩
    have nBd : B ≠ d := (d2.ne hB).symm
    refine comp_range (fun i σ H' => ∃ (rs : List Int) (v : Option V), σ = [v, some (.ref d)] ∧ KB d H2 H' ∧ Deck2 H' d ∧ H' B = some (.lst (rs.map V.int)) ∧ rs.length = i)
      ⟨[], none, rfl, (Same.new hB).kb, d2.same (Same.new hB), upd_same, rfl⟩ ?_ ?_
    · rintro i σ H3 hi ⟨rs, v, rfl, k3, d3, e3, lr⟩
      refine ⟨_, rfl, d, 26, rfl, d3, by decide, fun r H4 r0 r1 k4 d4 => ?_⟩
      refine ⟨rs.map V.int, k4 _ _ e3 nBd, ?_, rs ++ [r], _, rfl, ?_, d4.kb KB.write nBd.symm, ?_, ?_⟩
      · rw [List.length_map]; exact Nat.lt_of_lt_of_le (show rs.length < 100 by omega) (by decide)
      · intro b o e n
        rw [upd_ne (ne_of_none e hB)]
        exact k4 b o (k3 b o e n) n
      · rw [upd_same, List.map_append]; rfl
      · rw [List.length_append, lr]; rfl
    rintro σ H3 ⟨rs, v, rfl, k3, d3, e3, lr⟩
    have lr' : 0 < rs.length ∧ rs.length ≤ 3 := by omega
    refine ⟨_, rfl, _, rfl, _, rs.length, rfl, .inl ⟨_, .of e3, by rw [List.length_map]⟩, d, (rs.length : Int), rfl, d3, by omega, fun pl H4 p0 p1 k4 d4 => ?_⟩
    have e4 := k4 _ _ e3 nBd
    refine ⟨_, rfl, d, 2, rfl, d4, by decide, fun lo H5 l0 l1 k5 d5 => ?_⟩
    have e5 := k5 _ _ e4 nBd
    refine ⟨by decide, fun N hN => ?_⟩
    have nNd : N ≠ d := (d5.ne hN).symm
    have nBN : B ≠ N := ne_of_none e5 hN
    have kAll : KB d H H5 := (((s1.kb).trans k2).trans k3).trans (k4.trans k5)
    have hN0 : H N = none := by
      cases z : H N with
      | none => rfl
      | some o =>
        have := kAll N o z nNd
        rw [hN] at this; cases this
    refine ⟨_, rfl, m, rfl, by omega, by omega, for_range (n := (m : Int).toNat) (fun i σ H' => ∃ (ss : List Str) (v8 v9 : Option V), σ = [some (.ref d), some (.int m), some (.bl g), some (.str (abc g)), some (.ref B), some (.int pl), some (.int lo), some (.ref N), v8, v9, none] ∧ KB d H H' ∧ Deck2 H' d ∧ H' B = some (.lst (rs.map V.int)) ∧ H' N = some (.lst (ss.map V.str)) ∧ ss.length = i)
      ⟨[], none, none, rfl, kAll.trans (Same.new hN).kb, d5.same (Same.new hN), by rw [upd_ne nBN]; exact e5, upd_same, rfl⟩ ?_ ?_⟩
    · rintro i σ H6 hi ⟨ss, v8, v9, rfl, k6, d6, e6, n6, ls⟩
      rw [Int.toNat_natCast] at hi
      refine ⟨rfl, _, rfl, _, rs.length, rfl, .inl ⟨_, .of e6, by rw [List.length_map]⟩, _, rfl, by omega, by omega, fun C hC => ?_⟩
      refine comp_range (fun j σ H' => ∃ (ys : List Str) (v : Option V), σ = [v, some (.str (abc g)), some (.ref B), some (.int (0 + (i : Int))), some (.int pl)] ∧ Same H6 H' ∧ H' C = some (.lst (ys.map V.str)) ∧ ys.length = j ∧ (ys.map (·.length)).sum = j)
        ⟨[], none, rfl, Same.new hC, upd_same, rfl, rfl⟩ ?_ ?_
      · rintro j σ H7 hj ⟨ys, v, rfl, s7, e7, ly, ly2⟩
        rw [Int.toNat_natCast] at hj
        obtain ⟨q, hq⟩ : ∃ q, rs[j]? = some q := ⟨_, List.getElem?_eq_getElem hj⟩
        refine ⟨_, rfl, _, rfl, _, rfl, B, _, _, V.int q, rfl, rfl, .of (s7 _ _ e6), ?_, _, rfl, _, rfl, _, rfl, rfl, .inr ⟨_, rfl, _, _, rfl, rfl, .inl (by constructor <;> omega), _, _, rfl, rfl, _, _, rfl, rfl, cpos (by decide), ?_⟩⟩
        · rw [show (0 : Int) + (j : Int) = (j : Int) by omega]
          exact atI_nat (by rw [List.getElem?_map, hq]; rfl)
        generalize hx : (q + (0 + (i : Int)) * (if decide (V.int (0 + (j : Int)) = V.int pl) then 1 else 0)) % 26 = x
        have x0 : 0 ≤ x := by rw [← hx]; exact Int.emod_nonneg _ (by decide)
        have x1 : x < 26 := by rw [← hx]; exact Int.emod_lt_of_pos _ (by decide)
        obtain ⟨c, hc⟩ := abc_at g x x0 x1
        refine ⟨abc g, x, c, rfl, by rw [← hx], abc_len' g, hc, ys.map V.str, e7, ?_, ys ++ [⟨#[c]⟩], _, rfl, s7.kbn hC KB.write, ?_, ?_, ?_⟩
        · rw [List.length_map]; exact Nat.lt_of_lt_of_le (show ys.length < 100 by omega) (by decide)
        · rw [upd_same, List.map_append]; rfl
        · rw [List.length_append, ly]; rfl
        · rw [List.map_append, List.sum_append, ly2]; rfl
      rintro σ H7 ⟨ys, v, rfl, s7, e7, ly, ly2⟩
      rw [Int.toNat_natCast] at ly ly2
      refine ⟨"", C, ys, rfl, rfl, .of e7, ?_, fun z hz hze => ?_⟩
      · rw [ly2, ly]
        have : (Str.length ("" : Str)) = 0 := rfl
        rw [this]; omega
      have zlen : z.length ≤ sizeLine := hz
      dsimp only [gName]
      have k7 : KB d H H7 := k6.trans s7.kb
      refine seq_rest (t := tIfS _ _ _) (u := tDrop _) (fun σ H' => ∃ z : Str, σ = [some (.ref d), some (.int m), some (.bl g), some (.str (abc g)), some (.ref B), some (.int pl), some (.int lo), some (.ref N), some (.int (0 + (i : Int))), some (.str z), none] ∧ Same H7 H') ?_ (fun rest => ?_)
      · rintro σ H8 ⟨z, rfl, s8⟩
        have n8 := s8 _ _ (s7 _ _ n6)
        refine ⟨_, rfl, .inl ⟨rfl, _, .of n8⟩, _, rfl, N, _, _, rfl, rfl, n8, ?_, ?_⟩
        · rw [List.length_map]; exact Nat.lt_of_lt_of_le (show ss.length < 100 by omega) (by decide)
        refine ⟨ss ++ [z], _, _, rfl, ?_, ((d6.same s7).same s8).kb KB.write nNd.symm, ?_, ?_, ?_⟩
        · intro b o e n
          rw [upd_ne (ne_of_none e hN0)]
          exact s8 _ _ (k7 b o e n)
        · rw [upd_ne nBN]; exact s8 _ _ (s7 _ _ e6)
        · rw [upd_same, List.map_append]; rfl
        · rw [List.length_append, ls]; rfl
      · refine ⟨_, rfl, by show 3 ≤ sizeLine; decide, fun W hW => ⟨W, _, rfl, .inl (.of upd_same), rfl, rfl, _, rfl, ?_⟩⟩
        have sW := Same.new (o := .lst [.str "not", .str "and", .str "or"]) hW
        refine ite2 (fun _ => ?_) (fun _ => ?_)
        · exact ⟨_, rfl, _, rfl, _, rfl, z, rfl, hz, rest _ _ ⟨_, rfl, sW⟩⟩
        · refine ⟨_, rfl, rfl, _, rfl, ?_⟩
          refine ite2 (fun _ => ?_) (fun _ => iteF (rest _ _ ⟨z, rfl, sW⟩))
          refine ⟨_, rfl, _, _, rfl, rfl, cpos (by decide), rfl, _, rfl, ?_⟩
          refine ite2 (fun _ => ?_) (fun _ => iteF (rest _ _ ⟨z, rfl, sW⟩))
          refine ⟨_, rfl, _, z.length, rfl, ⟨hz, rfl⟩, _, _, rfl, rfl, _, rfl, ?_⟩
          refine ite2 (fun hl => ?_) (fun _ => rest _ _ ⟨z, rfl, sW⟩)
          have hl' : z.length < 3 := by have := of_decide_eq_true hl; omega
          obtain ⟨c, hc⟩ := abc_at g 16 (by decide) (by decide)
          refine ⟨_, rfl, _, rfl, abc g, 16, c, rfl, rfl, abc_len' g, hc, z, ⟨#[c]⟩, rfl, rfl, ?_, rest _ _ ⟨_, rfl, sW⟩⟩
          show z.length + 1 ≤ sizeLine
          exact Nat.le_trans (show z.length + 1 ≤ 10 by omega) (by decide)
    · rintro σ H6 ⟨ss, v8, v9, rfl, k6, d6, e6, n6, ls⟩
      rw [Int.toNat_natCast] at ls
      have fin : ∀ (σ : St) (H' : Hp), (∃ (ss : List Str) (v8 v9 v10 : Option V), σ = [some (.ref d), some (.int m), some (.bl g), some (.str (abc g)), some (.ref B), some (.int pl), some (.int lo), some (.ref N), v8, v9, v10] ∧ KB d H H' ∧ Deck2 H' d ∧ H' N = some (.lst (ss.map V.str)) ∧ ss.length = m) →
          ∃ v, σ[7]? = some (some v) ∧ Q v H' := by
        rintro σ H' ⟨ss, v8, v9, v10, rfl, k7, d7, n7, l7⟩
        exact ⟨_, rfl, k N ss H' hN0 k7 d7 n7 l7⟩
      refine ⟨_, rfl, _, _, rfl, rfl, _, rfl, ?_⟩
      refine ite2 (fun hm0 => ?_) (fun _ => iteF (fin _ _ ⟨ss, _, _, _, rfl, k6, d6, n6, ls⟩))
      have hm0' : 0 < m := by have := of_decide_eq_true hm0; omega
      refine ⟨_, rfl, g, rfl, ?_⟩
      refine ite2 (fun _ => ?_) (fun _ => iteF (fin _ _ ⟨ss, _, _, _, rfl, k6, d6, n6, ls⟩))
      refine ⟨_, rfl, d, 6, rfl, d6, by decide, fun r H7 r0 r1 k7 d7 => ⟨rfl, _, rfl, ?_⟩⟩
      have n7 := k7 _ _ n6 nNd
      have k67 := k6.trans k7
      refine ite2 (fun _ => ?_) (fun _ => fin _ _ ⟨ss, _, _, _, rfl, k67, d7, n7, ls⟩)
      refine ⟨by show 7 ≤ sizeLine; decide, fun S hS => ⟨S, rfl, ⟨_, .of upd_same⟩, fun C hC => ?_⟩⟩
      have nNS : N ≠ S := ne_of_none n7 hS
      have n7S := (Same.new (o := .lst [.str "ora", .str "orb", .str "ort", .str "orz", .str "orr", .str "oro", .str "ors"]) hS) _ _ n7
      have nSC : S ≠ C := ne_of_none upd_same hC
      refine comp_list (xs := seven.map V.str) (fun i σ H' => ∃ v : Option V, σ = [v, some (.ref N)] ∧ KB C (upd H7 S (.lst [.str "ora", .str "orb", .str "ort", .str "orz", .str "orr", .str "oro", .str "ors"])) H' ∧ H' C = some (.lst (((seven.take i).filter fun c => !(inV (.str c) (ss.map V.str))).map V.str)))
        ⟨none, rfl, (Same.new hC).kb, upd_same⟩ (fun i σ H' _ ⟨_, _, h, _⟩ => .of (h _ _ upd_same nSC)) ?_ ?_
      · rintro i x σ H8 hx ⟨v, rfl, k8, e8⟩
        obtain ⟨c, rfl, hc⟩ := strItem hx
        have nNC : N ≠ C := ne_of_none n7S hC
        refine ⟨_, rfl, _, rfl, N, _, rfl, .inl (.of (k8 _ _ n7S nNC)), rfl, ?_, _, rfl, ?_⟩
        · rw [List.all_map]; exact List.all_eq_true.mpr fun _ _ => rfl
        have et : seven.take (i + 1) = seven.take i ++ [c] := by rw [List.take_add_one, hc]; rfl
        refine ite2 (fun hin => ?_) (fun hin => ?_)
        · refine ⟨_, rfl, _, e8, ?_, _, rfl, k8.trans KB.write, ?_⟩
          · rw [List.length_map]
            refine Nat.lt_of_le_of_lt (List.length_filter_le _ _) ?_
            rw [List.length_take]
            exact Nat.lt_of_le_of_lt (Nat.min_le_right _ _) (by decide)
          · rw [upd_same, et, List.filter_append, List.map_append]
            have hin' : (!(inV (.str c) (ss.map V.str))) = true := hin
            simp [hin']
        · refine ⟨_, rfl, k8, ?_⟩
          have hin' : (!(inV (.str c) (ss.map V.str))) = false := by
            cases z : (!(inV (.str c) (ss.map V.str))) with
            | false => rfl
            | true => exact absurd z hin
          rw [e8, et, List.filter_append]
          simp [hin']
      rintro σ H8 ⟨v, rfl, k8, e8⟩
      have nNC : N ≠ C := ne_of_none n7S hC
      have n8 := k8 _ _ n7S nNC
      have hlen := enough ss seven (by decide +kernel)
      have h7 : seven.length = 7 := rfl
      rw [show seven.take (seven.map V.str).length = seven from rfl] at e8
      obtain ⟨y, ys, hy⟩ : ∃ y ys, (seven.filter fun c => !(inV (.str c) (ss.map V.str))) = y :: ys := by
        cases z : (seven.filter fun c => !(inV (.str c) (ss.map V.str))) with
        | nil => rw [z] at hlen; simp at hlen; omega
        | cons y ys => exact ⟨y, ys, rfl⟩
      rw [hy] at e8
      refine ⟨_, rfl, C, _, 0, .str y, rfl, rfl, .of e8, atI_nat (j := 0) rfl, ?_⟩
      have nCd : C ≠ d := by
        obtain ⟨xd, exd⟩ := (d7.same (Same.new (o := .lst [.str "ora", .str "orb", .str "ort", .str "orz", .str "orr", .str "oro", .str "ors"]) hS)).is
        exact (ne_of_none exd hC).symm
      have d8 : Deck2 H8 d := (d7.same (Same.new (o := .lst [.str "ora", .str "orb", .str "ort", .str "orz", .str "orr", .str "oro", .str "ors"]) hS)).kb k8 nCd.symm
      refine ⟨_, rfl, _, rfl, _, rfl, d, m, rfl, d8, by omega, fun r' H9 r0' r1' k9 d9 => ?_⟩
      have n9 := k9 _ _ n8 nNd
      obtain ⟨q, hq⟩ : ∃ q : Nat, r' = (q : Int) := ⟨r'.toNat, by omega⟩
      subst hq
      refine ⟨N, _, _, q, rfl, rfl, n9, ?_, ?_⟩
      · unfold ixN; rw [if_pos (by omega), List.length_map, if_pos (by omega)]; rfl
      refine fin _ _ ⟨ss.set q y, _, _, _, rfl, ?_, d9.kb KB.write nNd.symm, ?_, ?_⟩
      · intro b o e n
        have n1 : b ≠ N := ne_of_none e hN0
        rw [upd_ne n1]
        have e7 := k67 b o e n
        have n2 : b ≠ S := ne_of_none e7 hS
        have e7' := (Same.new (o := .lst [.str "ora", .str "orb", .str "ort", .str "orz", .str "orr", .str "oro", .str "ors"]) hS) _ _ e7
        exact k9 _ _ (k8 _ _ e7' (ne_of_none e7' hC)) n
      · rw [upd_same, List.map_set]
      · rw [List.length_set, ls]
end
end My
set_option Elab.async false
set_option linter.all false
set_option maxRecDepth 100000
set_option maxHeartbeats 4000000
namespace My
open PySem L2
def spTerm (K : PySem.W.Frag) : Sp := fun vs H Q _ => ∃ (d nm : Addr) (ss : List Str), vs = [.ref d, .ref nm] ∧ Deck2 H d ∧ SqL K H nm (ss.map V.str) ∧ nm ≠ d ∧ ss.length ≤ 10 ∧
  ∀ (p : Addr) (t : Term) (H' : Hp), DatAt K H' (.ref p) t.dt → t.parts.length ≤ 3 → (∀ q ∈ t.parts, q.1 ∈ ss) → KB d H H' → Deck2 H' d → Q (.ref p) H'
def spPlain (K : PySem.W.Frag) : Sp := fun vs H Q _ => ∃ (d nm rw : Addr) (ss rs : List Str), vs = [.ref d, .ref nm, .ref rw] ∧ Deck2 H d ∧ SqL K H nm (ss.map V.str) ∧ nm ≠ d ∧ ss.length ≤ 10 ∧ SqL K H rw (rs.map V.str) ∧ rw ≠ d ∧ rs.length ≤ 10 ∧
  ∀ (p : Addr) (f : Say) (H' : Hp), DatAt K H' (.ref p) f.dt → f.deep = 0 ∧ f.Over ss → KB d H H' → Deck2 H' d → Q (.ref p) H'
section
variable {P : Program} {w : World} {K : PySem.W.Frag} {mg : Str → Option Value} {base : Heap}
theorem pick3 (a b c : Int) (r : Int) (h0 : 0 ≤ r) (h1 : r < 3) : ∃ x, atI ([.int a, .int b, .int c] : List V) r = some (.int x) ∧ (x = a ∨ x = b ∨ x = c) := by
  have : r = 0 ∨ r = 1 ∨ r = 2 := by omega
  rcases this with rfl | rfl | rfl
  · exact ⟨a, rfl, .inl rfl⟩
  · exact ⟨b, rfl, .inr (.inl rfl)⟩
  · exact ⟨c, rfl, .inr (.inr rfl)⟩
theorem pick2 {α : Type} (a b : α) (r : Int) (h0 : 0 ≤ r) (h1 : r < 2) : ∃ x, atI [a, b] r = some x ∧ (x = a ∨ x = b) := by
  have : r = 0 ∨ r = 1 := by omega
  rcases this with rfl | rfl
  · exact ⟨a, rfl, .inl rfl⟩
  · exact ⟨b, rfl, .inr rfl⟩
theorem pickS (ss : List Str) (r : Int) (h0 : 0 ≤ r) (h1 : r < ss.length) : ∃ x, atI (ss.map V.str) r = some (.str x) ∧ x ∈ ss := by
  obtain ⟨n, rfl⟩ : ∃ n : Nat, r = (n : Int) := ⟨r.toNat, by omega⟩
  have hn : n < ss.length := by omega
  exact ⟨ss[n], atI_nat (by rw [List.getElem?_map, List.getElem?_eq_getElem hn]; rfl), List.getElem_mem hn⟩
theorem sc_l_term : FnScope ["_law_deck_here", "_law_names_here", "_law_parts", "_law_name"] ["_law_deck_here", "_law_names_here"] (defScope s_l_term) := ⟨rfl, rfl, rfl, by decide +kernel, rfl, by decide +kernel, by decide +kernel⟩
theorem ok_l_term {a : Adr} (T : Txt K mg a) : FnOk P w K mg base CX0 2 a.f_l_term a.fd_l_term ["_law_deck_here", "_law_names_here"] (spTerm K) := by
  have G_l_next : FnOk P w K mg base CX0 1 a.f_l_next a.fd_l_next ["_law_deck_here", "_law_many"] spNext2 := ok_l_next T
  refine T.F_l_term.ok sc_l_term (fun vs H Q E h => ?_) (fun cdv A outer s H vs Q E hr h => ?_)
  · obtain ⟨d, nm, ss, rfl, _⟩ := h
    rfl
  · obtain ⟨d, nm, ss, rfl, hd, hS, hne, hss, k⟩ := h
    have hr_l_next : Room 1 _ := hr
    refine ⟨_, (pss_cons (ps_set (i := 2) sc_l_term.nd rfl (Or.inl rfl) (pe_lst pa_nil))
    (pss_cons (ps_for PassesOwn.never rfl (pi_list (pe_callB (call_sortSK K) (by rfl) T.z_sorted bt_sorted (pa_cons (pv 1) pa_nil))) (pg_name (i := 3) sc_l_term.nd rfl (Or.inl rfl))
      (pss_one (ps_if (PW.pt (pw_and (pt_cmpR op_eq (pe_call G_l_next hr_l_next rfl T.m_l_next T.k_l_next T.b_l_next .nil pass0 (pa_cons (pv 0) (pa_cons pe_int pa_nil))) pe_int (nomark _)) (pw_and1 (pt_cmpR op_lt (pe_callB (call_lenK K) (by rfl) T.z_len bt_len (pa_cons (pv 2) pa_nil)) pe_int (nomark _)))))
        (pss_one (ps_expr (pe_bm PySem.F.plainAttrs_list PySem.F.slot_list_append PySem.F.type_list_append mt_append (pv 2) (pa_cons (pe_tup (pa_cons (pv 3) (pa_cons (pe_op op_add pe_int (pe_call G_l_next hr_l_next rfl T.m_l_next T.k_l_next T.b_l_next .nil pass0 (pa_cons (pv 0) (pa_cons (pe_ix (ix_listK K) (pe_lst (pa_cons pe_int (pa_cons pe_int (pa_cons pe_int pa_nil)))) (pe_call G_l_next hr_l_next rfl T.m_l_next T.k_l_next T.b_l_next .nil pass0 (pa_cons (pv 0) (pa_cons pe_int pa_nil))) (fun _ _ => rfl)) pa_nil)))) pa_nil))) pa_nil))))
        pss_nil)))
    (pss_one (ps_ret (pe_tup (pa_cons (pe_ix (ix_listK K) (pe_lst (pa_cons pe_int (pa_cons (pe_call G_l_next hr_l_next rfl T.m_l_next T.k_l_next T.b_l_next .nil pass0 (pa_cons (pv 0) (pa_cons pe_int pa_nil))) (pa_cons (pe_call G_l_next hr_l_next rfl T.m_l_next T.k_l_next T.b_l_next .nil pass0 (pa_cons (pv 0) (pa_cons pe_int pa_nil))) pa_nil)))) (pe_call G_l_next hr_l_next rfl T.m_l_next T.k_l_next T.b_l_next .nil pass0 (pa_cons (pv 0) (pa_cons pe_int pa_nil))) (fun _ _ => rfl)) (pa_cons (pe_callTy (call_tupleK K) (by rfl) T.z_tuple bt_tuple (pa_cons (pv 2) pa_nil)) pa_nil))))))), ?_⟩
    refine ⟨by decide, fun L hL => ?_⟩
    have s1 := Same.new (o := .lst []) hL
    have nLd : L ≠ d := (hd.ne hL).symm
    refine ⟨_, rfl, nm, ss, rfl, s1.seq hS, by omega, fun Z zs hZ hperm _ => ⟨Z, rfl, ⟨_, .of upd_same⟩, ?_⟩⟩
    have nLZ : L ≠ Z := ne_of_none upd_same hZ
    have nZd : Z ≠ d := (((hd.same s1).ne hZ)).symm
    refine for_list (xs := zs.map V.str) (fun i σ H' => ∃ (xs : List V) (ps : List (Str × Int)) (v3 : Option V), σ = [some (.ref d), some (.ref nm), some (.ref L), v3] ∧ KB d H H' ∧ Deck2 H' d ∧ H' Z = some (.lst (zs.map V.str)) ∧ H' L = some (.lst xs) ∧ DatsAt K H' xs (ps.map partDt) ∧ ps.length ≤ 3 ∧ ∀ q ∈ ps, q.1 ∈ ss)
      ⟨[], [], none, rfl, (s1.trans (Same.new hZ)).kb, (hd.same s1).same (Same.new hZ), upd_same, by rw [upd_ne nLZ]; exact upd_same, dats_nil, by simp, fun q h => (nomatch h)⟩ (fun i σ H' _ ⟨_, _, _, _, _, _, h, _⟩ => .of h) ?_ ?_
    · rintro i x σ H1 hx ⟨xs, ps, v3, rfl, k1, d1, z1, l1, dt1, lp, mp⟩
      obtain ⟨z, rfl, hz⟩ := strItem hx
      have zin : z ∈ ss := hperm.mem_iff.mp (List.mem_of_getElem? hz)
      have lx : xs.length = ps.length := by rw [dt1.length, List.length_map]
      refine ⟨_, rfl, d, 2, rfl, d1, by decide, fun r H2 r0 r1 k2 d2 => ⟨rfl, _, rfl, ?_⟩⟩
      have z2 := k2 _ _ z1 nZd
      have l2 := k2 _ _ l1 nLd
      have dt2 := dats_stay (d1.kts k2) _ _ (parts_noL ps) dt1
      refine ite2 (fun _ => ?_) (fun _ => iteF ⟨xs, ps, _, rfl, k1.trans k2, d2, z2, l2, dt2, lp, mp⟩)
      refine ⟨_, rfl, _, xs.length, rfl, .inl ⟨_, .of l2, rfl⟩, _, _, rfl, rfl, _, rfl, ?_⟩
      refine ite2 (fun hlt => ?_) (fun _ => ⟨xs, ps, _, rfl, k1.trans k2, d2, z2, l2, dt2, lp, mp⟩)
      have hlt' : xs.length < 3 := by have := of_decide_eq_true hlt; omega
      refine ⟨_, rfl, .inl ⟨rfl, _, .of l2⟩, _, rfl, _, rfl, by show 3 ≤ sizeLine; decide, fun O hO => ?_⟩
      have sO := Same.new (o := .lst [.int 1, .int 2, .int 9]) hO
      refine ⟨_, rfl, d, 3, rfl, d2.same sO, by decide, fun r' H3 r0' r1' k3 d3 => ?_⟩
      obtain ⟨m, hm, hmv⟩ := pick3 1 2 9 r' r0' r1'
      have nOd : O ≠ d := (d2.ne hO).symm
      refine ⟨O, _, _, .int m, rfl, rfl, .of (k3 _ _ upd_same nOd), hm, d, m, rfl, d3, by omega, fun q H4 q0 q1 k4 d4 => ⟨_, _, rfl, rfl, by show 2 ≤ sizeLine; decide, fun p hp => ?_⟩⟩
      have l4 := k4 _ _ (k3 _ _ (sO _ _ l2) nLd) nLd
      have z4 := k4 _ _ (k3 _ _ (sO _ _ z2) nZd) nZd
      have dt4 := dats_stay (d3.kts k4) _ _ (parts_noL ps) (dats_stay ((d2.same sO).kts k3) _ _ (parts_noL ps) (dats_stay sO.kts _ _ (parts_noL ps) dt2))
      have sp := Same.new (o := .tup [.str z, .int (1 + q)]) hp
      have l5 := sp _ _ l4
      refine ⟨L, _, _, rfl, rfl, l5, Nat.lt_of_lt_of_le (show xs.length < 10 by omega) (by decide), xs ++ [.ref p], ps ++ [(z, 1 + q)], _, rfl, ?_, ?_, ?_, upd_same, ?_, ?_, ?_⟩
      · intro b o e n
        have n1 : b ≠ L := ne_of_none e hL
        rw [upd_ne n1]
        exact sp _ _ (k4 _ _ (k3 _ _ (sO _ _ (k2 _ _ (k1 _ _ e n) n)) n) n)
      · exact (d4.same sp).kb KB.write nLd.symm
      · rw [upd_ne nLZ.symm]; exact sp _ _ z4
      · rw [List.map_append]
        have kk : KTs K (upd H4 p (.tup [.str z, .int (1 + q)])) (upd (upd H4 p (.tup [.str z, .int (1 + q)])) L (.lst (xs ++ [.ref p]))) := KB.kts l5 KB.write
        refine dats_stay kk _ _ ?_ (dats_app (dats_stay sp.kts _ _ (parts_noL ps) dt4) (dats_cons (dat_tup (.of upd_same) (dats_cons dat_str (dats_cons dat_int dats_nil))) dats_nil))
        rw [noLs_app, parts_noL]
        simp [partDt, Dt.noL, Dt.noLs]
      · rw [List.length_append]; show ps.length + 1 ≤ 3; omega
      · intro y hy
        rcases List.mem_append.mp hy with e | e
        · exact mp y e
        · have : y = (z, 1 + q) := by simpa using e
          subst this; exact zin
    · rintro σ H1 ⟨xs, ps, v3, rfl, k1, d1, z1, l1, dt1, lp, mp⟩
      have lx : xs.length = ps.length := by rw [dt1.length, List.length_map]
      refine ⟨_, rfl, d, 5, rfl, d1, by decide, fun r1 H2 _ _ k2 d2 => ?_⟩
      refine ⟨_, rfl, d, 100, rfl, d2, by decide, fun r2 H3 _ _ k3 d3 => ⟨by show 3 ≤ sizeLine; decide, fun O hO => ?_⟩⟩
      have sO := Same.new (o := .lst [.int 0, .int r1, .int r2]) hO
      have nOd : O ≠ d := (d3.ne hO).symm
      refine ⟨_, rfl, d, 3, rfl, d3.same sO, by decide, fun r H4 r0 r1' k4 d4 => ?_⟩
      obtain ⟨m, hm, hmv⟩ := pick3 0 r1 r2 r r0 r1'
      have l4 := k4 _ _ (sO _ _ (k3 _ _ (k2 _ _ l1 nLd) nLd)) nLd
      have dt4 := dats_stay ((d3.same sO).kts k4) _ _ (parts_noL ps) (dats_stay sO.kts _ _ (parts_noL ps) (dats_stay (d2.kts k3) _ _ (parts_noL ps) (dats_stay (d1.kts k2) _ _ (parts_noL ps) dt1)))
      refine ⟨O, _, _, .int m, rfl, rfl, .of (k4 _ _ upd_same nOd), hm, _, rfl, L, xs, rfl, .inl ⟨.of l4, fun t ht => ⟨by show 2 ≤ sizeLine; decide, fun p hp => ?_⟩⟩⟩
      have st := Same.new (o := .tup xs) ht
      have sp := Same.new (o := .tup [.int m, .ref t]) hp
      refine k p ⟨m, ps⟩ _ (dat_tup (.of upd_same) (dats_cons dat_int (dats_cons (dat_tup (sp.seqT (.of upd_same)) (dats_stay (st.trans sp).kts _ _ (parts_noL ps) dt4)) dats_nil))) lp mp ?_ ((d4.same st).same sp)
      exact ((((k1.trans k2).trans k3).trans sO.kb).trans k4).trans (st.trans sp).kb
theorem sc_l_plain : FnScope ["_law_deck_here", "_law_names_here", "_law_rows", "_law_goes", "_law_one", "_law_other"] ["_law_deck_here", "_law_names_here", "_law_rows"] (defScope s_l_plain) := ⟨rfl, rfl, rfl, by decide +kernel, rfl, by decide +kernel, by decide +kernel⟩
theorem ok_l_plain {a : Adr} (T : Txt K mg a) : FnOk P w K mg base CX0 3 a.f_l_plain a.fd_l_plain ["_law_deck_here", "_law_names_here", "_law_rows"] (spPlain K) := by
  have G_l_next : FnOk P w K mg base CX0 1 a.f_l_next a.fd_l_next ["_law_deck_here", "_law_many"] spNext2 := ok_l_next T
  have G_l_term : FnOk P w K mg base CX0 2 a.f_l_term a.fd_l_term ["_law_deck_here", "_law_names_here"] (spTerm K) := ok_l_term T
  refine T.F_l_plain.ok sc_l_plain (fun vs H Q E h => ?_) (fun cdv A outer s H vs Q E hr h => ?_)
  · obtain ⟨d, nm, rw, ss, rs, rfl, _⟩ := h
    rfl
  · obtain ⟨d, nm, rw, ss, rs, rfl, hd, hS, hne, hss, hR, hnr, hrs, k⟩ := h
    have hr_l_next : Room 1 _ := hr.mono (by decide)
    have hr_l_term : Room 2 _ := hr
    refine ⟨_, (pss_cons (ps_set (i := 3) sc_l_plain.nd rfl (Or.inl rfl) (pe_call G_l_next hr_l_next rfl T.m_l_next T.k_l_next T.b_l_next .nil pass0 (pa_cons (pv 0) (pa_cons pe_int pa_nil))))
    (pss_cons (ps_set (i := 4) sc_l_plain.nd rfl (Or.inl rfl) (pe_call G_l_term hr_l_term rfl T.m_l_term T.k_l_term T.b_l_term .nil pass0 (pa_cons (pv 0) (pa_cons (pv 1) pa_nil))))
    (pss_cons (ps_set (i := 5) sc_l_plain.nd rfl (Or.inl rfl) (pe_call G_l_term hr_l_term rfl T.m_l_term T.k_l_term T.b_l_term .nil pass0 (pa_cons (pv 0) (pa_cons (pv 1) pa_nil))))
    (pss_cons (ps_if (PW.pt (pw_or (pt_cmpR op_eq (pv 3) pe_int (nomark _)) (pw_or1 (pt_cmpR (op_eqD K hr.units) (pv 2) (pe_lst pa_nil) (nomark _)))))
      (pss_one (ps_ret (pe_tup (pa_cons (pe_ix (ix_listK K) (pe_lst (pa_cons pe_str (pa_cons pe_str pa_nil))) (pe_call G_l_next hr_l_next rfl T.m_l_next T.k_l_next T.b_l_next .nil pass0 (pa_cons (pv 0) (pa_cons pe_int pa_nil))) (fun _ _ => rfl)) (pa_cons (pv 4) (pa_cons (pv 5) pa_nil))))))
      pss_nil)
    (pss_cons (ps_if (pt_cmpR op_eq (pv 3) pe_int (nomark _))
      (pss_one (ps_ret (pe_tup (pa_cons pe_str (pa_cons (pv 4) (pa_cons (pv 5) pa_nil))))))
      pss_nil)
    (pss_cons (ps_if (pt_cmpR op_eq (pv 3) pe_int (nomark _))
      (pss_one (ps_ret (pe_tup (pa_cons pe_str (pa_cons (pe_ix (ix_listK K) (pv 2) (pe_call G_l_next hr_l_next rfl T.m_l_next T.k_l_next T.b_l_next .nil pass0 (pa_cons (pv 0) (pa_cons (pe_callB (call_lenK K) (by rfl) T.z_len bt_len (pa_cons (pv 2) pa_nil)) pa_nil))) (fun _ _ => rfl)) (pa_cons (pv 4) (pa_cons (pe_call G_l_next hr_l_next rfl T.m_l_next T.k_l_next T.b_l_next .nil pass0 (pa_cons (pv 0) (pa_cons (pe_ix (ix_listK K) (pe_lst (pa_cons pe_int (pa_cons pe_int pa_nil))) (pe_call G_l_next hr_l_next rfl T.m_l_next T.k_l_next T.b_l_next .nil pass0 (pa_cons (pv 0) (pa_cons pe_int pa_nil))) (fun _ _ => rfl)) pa_nil))) pa_nil)))))))
      pss_nil)
    (pss_one (ps_ret (pe_tup (pa_cons pe_str (pa_cons (pe_ix (ix_listK K) (pv 2) (pe_call G_l_next hr_l_next rfl T.m_l_next T.k_l_next T.b_l_next .nil pass0 (pa_cons (pv 0) (pa_cons (pe_callB (call_lenK K) (by rfl) T.z_len bt_len (pa_cons (pv 2) pa_nil)) pa_nil))) (fun _ _ => rfl)) (pa_cons (pv 4) (pa_cons (pe_ix (ix_listK K) (pv 2) (pe_call G_l_next hr_l_next rfl T.m_l_next T.k_l_next T.b_l_next .nil pass0 (pa_cons (pv 0) (pa_cons (pe_callB (call_lenK K) (by rfl) T.z_len bt_len (pa_cons (pv 2) pa_nil)) pa_nil))) (fun _ _ => rfl)) (pa_cons (pv 5) pa_nil)))))))))))))), ?_⟩
    refine ⟨_, rfl, d, 4, rfl, hd, by decide, fun go H1 g0 g1 k1 d1 => ?_⟩
    refine ⟨_, rfl, _, rfl, d, nm, ss, rfl, d1, k1.seq hne hS, hne, hss, fun p1 t1 H2 dt1 o1 o1' k2 d2 => ?_⟩
    have k12 := k1.trans k2
    refine ⟨_, rfl, _, rfl, d, nm, ss, rfl, d2, k12.seq hne hS, hne, hss, fun p2 t2 H3 dt2 o2 o2' k3 d3 => ?_⟩
    have k13 := k12.trans k3
    have dt1' := dat_stay (d2.kts k3) _ _ t1.noL dt1
    have hR3 := k13.seq hnr hR
    have case1 : ∀ H4, Same H3 H4 → ∀ (Q' : VK), (∀ (p : Addr) (f : Say) (H' : Hp), DatAt K H' (.ref p) f.dt → f.deep = 0 ∧ f.Over ss → KB d H H' → Deck2 H' d → Q' (.ref p) H') →
        tTup (tCons (tOp (rIxL K) (tLst (tCons (tC (.str "same")) (tCons (tC (.str "less")) tNil))) (tCall spNext2 [] E0 (tCons (tVar 0) (tCons (tC (.int 2)) tNil)))) (tCons (tVar 4) (tCons (tVar 5) tNil)))
          [some (.ref d), some (.ref nm), some (.ref rw), some (.int go), some (.ref p1), some (.ref p2)] H4 Q' := by
      intro H4 s4 Q' k'
      have d4 := d3.same s4
      refine ⟨by show 2 ≤ sizeLine; decide, fun O hO => ?_⟩
      have sO := Same.new (o := .lst [.str "same", .str "less"]) hO
      have nOd : O ≠ d := (d4.ne hO).symm
      refine ⟨_, rfl, d, 2, rfl, d4.same sO, by decide, fun r H5 r0 r1 k5 d5 => ?_⟩
      obtain ⟨x, hx, hv⟩ := pick2 (V.str "same") (V.str "less") r r0 r1
      refine ⟨O, _, _, x, rfl, rfl, .of (k5 _ _ upd_same nOd), hx, _, rfl, _, rfl, by show 3 ≤ sizeLine; decide, fun p hp => ?_⟩
      have kk : KTs K H3 H5 := (s4.trans sO).kts.trans ((d4.same sO).kts k5)
      have a1 := dat_stay kk _ _ t1.noL dt1'
      have a2 := dat_stay kk _ _ t2.noL dt2
      have kf : KB d H (upd H5 p (.tup [x, .ref p1, .ref p2])) := ((k13.trans (s4.trans sO).kb).trans k5).trans (Same.new hp).kb
      have b1 := dat_stay (Same.new (o := .tup [x, .ref p1, .ref p2]) hp).kts _ _ t1.noL a1
      have b2 := dat_stay (Same.new (o := .tup [x, .ref p1, .ref p2]) hp).kts _ _ t2.noL a2
      rcases hv with rfl | rfl
      · exact k' p (.same t1 t2) _ (dat_tup (.of upd_same) (dats_cons dat_str (dats_cons b1 (dats_cons b2 dats_nil)))) ⟨rfl, ⟨o1, o1'⟩, ⟨o2, o2'⟩⟩ kf (d5.same (Same.new hp))
      · exact k' p (.less t1 t2) _ (dat_tup (.of upd_same) (dats_cons dat_str (dats_cons b1 (dats_cons b2 dats_nil)))) ⟨rfl, ⟨o1, o1'⟩, ⟨o2, o2'⟩⟩ kf (d5.same (Same.new hp))
    refine ⟨_, rfl, rfl, _, rfl, ?_⟩
    refine ite2 (fun _ => iteT (case1 H3 (Same.refl _) _ k)) (fun _ => ?_)
    refine ⟨_, rfl, by decide, fun O hO => ?_⟩
    have sO := Same.new (o := .lst []) hO
    refine ⟨.lst (rs.map .str), .lst [], dat_lst (sO.seq hR3) (dats_strs rs), dat_lst (.of upd_same) dats_nil, rfl, rfl, ?_, _, rfl, ?_⟩
    · have : ∀ l : List Str, Dt.deps (l.map Dt.str) = 0 := fun l => by
        induction l with
        | nil => simp [Dt.deps]
        | cons y ys ih => rw [List.map_cons, Dt.deps, ih]; simp [Dt.dep]
      rw [Dt.dep, this]; decide
    have eb : (if false = true then !(Dt.lst (rs.map .str)).beq (.lst []) else (Dt.lst (rs.map .str)).beq (.lst [])) = decide (rs = []) := by
      rw [if_neg (by decide), Dt.beq]
      cases rs with
      | nil => simp [Dt.beqs]
      | cons y ys => simp [Dt.beqs]
    rw [eb]
    refine ite2 (fun _ => case1 _ sO _ k) (fun hrs0 => ?_)
    have hrs0' : 0 < rs.length := by
      cases rs with
      | nil => exact absurd (by simp) hrs0
      | cons y ys => simp
    have d4 := d3.same sO
    have k14 := k13.trans (sO.kb (d := d))
    have c1 := dat_stay sO.kts _ _ t1.noL dt1'
    have c2 := dat_stay sO.kts _ _ t2.noL dt2
    have hR4 := sO.seq hR3
    generalize upd H3 O (.lst []) = H4 at d4 k14 c1 c2 hR4
    refine ⟨_, rfl, rfl, _, rfl, ?_⟩
    refine ite2 (fun _ => ?_) (fun _ => ?_)
    · refine ⟨_, rfl, _, rfl, by show 3 ≤ sizeLine; decide, fun p hp => ?_⟩
      have sp := Same.new (o := .tup [.str "less", .ref p1, .ref p2]) hp
      exact k p (.less t1 t2) _ (dat_tup (.of upd_same) (dats_cons dat_str (dats_cons (dat_stay sp.kts _ _ t1.noL c1) (dats_cons (dat_stay sp.kts _ _ t2.noL c2) dats_nil)))) ⟨rfl, ⟨o1, o1'⟩, ⟨o2, o2'⟩⟩ (k14.trans sp.kb) (d4.same sp)
    refine ⟨_, rfl, rfl, _, rfl, ?_⟩
    refine ite2 (fun _ => ?_) (fun _ => ?_)
    · refine ⟨_, rfl, _, rfl, _, rfl, _, rs.length, rfl, .inl ⟨_, hR4, by rw [List.length_map]⟩, d, (rs.length : Int), rfl, d4, by omega, fun r H5 r0 r1 k5 d5 => ?_⟩
      obtain ⟨x, hx, _⟩ := pickS rs r r0 r1
      have hR5 := k5.seq hnr hR4
      refine ⟨rw, _, _, .str x, rfl, rfl, hR5, hx, _, rfl, _, rfl, by show 2 ≤ sizeLine; decide, fun O2 hO2 => ?_⟩
      have sO2 := Same.new (o := .lst [.int 2, .int 10]) hO2
      have nO2d : O2 ≠ d := (d5.ne hO2).symm
      refine ⟨_, rfl, d, 2, rfl, d5.same sO2, by decide, fun r' H6 r0' r1' k6 d6 => ?_⟩
      obtain ⟨m, hm, hv⟩ := pick2 (V.int 2) (V.int 10) r' r0' r1'
      obtain ⟨mi, rfl, hmi⟩ : ∃ mi : Int, m = .int mi ∧ 0 < mi := by
        rcases hv with rfl | rfl
        · exact ⟨2, rfl, by decide⟩
        · exact ⟨10, rfl, by decide⟩
      refine ⟨O2, _, _, .int mi, rfl, rfl, .of (k6 _ _ upd_same nO2d), hm, d, mi, rfl, d6, hmi, fun sg H7 s0 s1 k7 d7 => ⟨by show 4 ≤ sizeLine; decide, fun p hp => ?_⟩⟩
      have sp := Same.new (o := .tup [.str "sign", .str x, .ref p1, .int sg]) hp
      have kk : KTs K H4 (upd H7 p (.tup [.str "sign", .str x, .ref p1, .int sg])) := ((d4.kts k5).trans sO2.kts).trans ((((d5.same sO2).kts k6).trans (d6.kts k7)).trans sp.kts)
      refine k p (.sign x t1 sg) _ (dat_tup (.of upd_same) (dats_cons dat_str (dats_cons dat_str (dats_cons (dat_stay kk _ _ t1.noL c1) (dats_cons dat_int dats_nil))))) ⟨rfl, ⟨o1, o1'⟩⟩ ?_ (d7.same sp)
      exact ((((k14.trans k5).trans sO2.kb).trans k6).trans k7).trans sp.kb
    · refine ⟨_, rfl, _, rfl, _, rfl, _, rs.length, rfl, .inl ⟨_, hR4, by rw [List.length_map]⟩, d, (rs.length : Int), rfl, d4, by omega, fun r H5 r0 r1 k5 d5 => ?_⟩
      obtain ⟨x, hx, _⟩ := pickS rs r r0 r1
      have hR5 := k5.seq hnr hR4
      refine ⟨rw, _, _, .str x, rfl, rfl, hR5, hx, _, rfl, _, rfl, _, rfl, _, rfl, _, rs.length, rfl, .inl ⟨_, hR5, by rw [List.length_map]⟩, d, (rs.length : Int), rfl, d5, by omega, fun r' H6 r0' r1' k6 d6 => ?_⟩
      obtain ⟨y, hy, _⟩ := pickS rs r' r0' r1'
      refine ⟨rw, _, _, .str y, rfl, rfl, k6.seq hnr hR5, hy, _, rfl, by show 5 ≤ sizeLine; decide, fun p hp => ?_⟩
      have sp := Same.new (o := .tup [.str "alike", .str x, .ref p1, .str y, .ref p2]) hp
      have kk : KTs K H4 (upd H6 p (.tup [.str "alike", .str x, .ref p1, .str y, .ref p2])) := (d4.kts k5).trans ((d5.kts k6).trans sp.kts)
      refine k p (.alike x t1 y t2) _ (dat_tup (.of upd_same) (dats_cons dat_str (dats_cons dat_str (dats_cons (dat_stay kk _ _ t1.noL c1) (dats_cons dat_str (dats_cons (dat_stay kk _ _ t2.noL c2) dats_nil)))))) ⟨rfl, ⟨o1, o1'⟩, ⟨o2, o2'⟩⟩ ?_ (d6.same sp)
      exact ((k14.trans k5).trans k6).trans sp.kb
end
end My
set_option Elab.async false
set_option linter.all false
set_option maxRecDepth 100000
set_option maxHeartbeats 4000000
namespace My
open PySem L2
def spSaying (K : PySem.W.Frag) (n : Nat) : Sp := fun vs H Q _ => ∃ (d nm rw bx : Addr) (ss rs : List Str) (bk : Int) (deep : Nat), vs = [.ref d, .ref nm, .ref rw, .ref bx, .int deep] ∧ Deck2 H d ∧ (SqL K H nm (ss.map V.str) ∧ nm ≠ d ∧ nm ≠ bx ∧ 0 < ss.length ∧ ss.length ≤ 10) ∧ (SqL K H rw (rs.map V.str) ∧ rw ≠ d ∧ rw ≠ bx ∧ rs.length ≤ 10) ∧
  H bx = some (.lst [.int bk]) ∧ bx ≠ d ∧ deep < n ∧
  ∀ (p : Addr) (f : Say) (H' : Hp) (bk' : Int), DatAt K H' (.ref p) f.dt → f.deep ≤ deep ∧ f.Over ss → KB2 d bx H H' → Deck2 H' d → H' bx = some (.lst [.int bk']) → Q (.ref p) H'
section
variable {P : Program} {w : World} {K : PySem.W.Frag} {mg : Str → Option Value} {base : Heap}
theorem sc_l_saying : FnScope ["_law_deck_here", "_law_names_here", "_law_rows", "_law_box", "_law_deep", "_law_goes", "_law_one", "_law_name"] ["_law_deck_here", "_law_names_here", "_law_rows", "_law_box", "_law_deep"] (defScope s_l_saying) := ⟨rfl, rfl, rfl, by decide +kernel, rfl, by decide +kernel, by decide +kernel⟩
theorem ok_l_saying {a : Adr} (T : Txt K mg a) : ∀ n : Nat, FnOk P w K mg base CX0 (n + 4) a.f_l_saying a.fd_l_saying ["_law_deck_here", "_law_names_here", "_law_rows", "_law_box", "_law_deep"] (spSaying K n)
  | 0 => FnOk.none fun vs H Q E h => by
    obtain ⟨d, nm, rw, bx, ss, rs, bk, deep, _, _, _, _, _, _, hlt, _⟩ := h
    omega
  | n + 1 => by
    have G_l_saying := ok_l_saying T n
    have G_l_next : FnOk P w K mg base CX0 1 a.f_l_next a.fd_l_next ["_law_deck_here", "_law_many"] spNext2 := ok_l_next T
    have G_l_plain : FnOk P w K mg base CX0 3 a.f_l_plain a.fd_l_plain ["_law_deck_here", "_law_names_here", "_law_rows"] (spPlain K) := ok_l_plain T
    refine T.F_l_saying.ok sc_l_saying (fun vs H Q E h => ?_) (fun cdv A outer s H vs Q E hr h => ?_)
    · obtain ⟨d, nm, rw, bx, ss, rs, bk, deep, rfl, _⟩ := h
      rfl
    · obtain ⟨d, nm, rw, bx, ss, rs, bk, deep, rfl, hd, ⟨hS, hne, hnb, hs0, hss⟩, ⟨hR, hnr, hrb, hrs⟩, hb, hbd, hlt, k⟩ := h
      have hr_l_next : Room 1 _ := hr.mono (by omega)
      have hr_l_plain : Room 3 _ := hr.mono (by omega)
      have hr_l_saying : Room (n + 4) _ := hr
      refine ⟨_, (pss_cons (ps_asg (pe_op op_sub (pe_ix (ix_listK K) (pv 3) pe_int (fun _ _ => rfl)) pe_int) (pg_sub (pv 3) pe_int set_list))
      (pss_cons (ps_set (i := 5) sc_l_saying.nd rfl (Or.inl rfl) (pe_call G_l_next hr_l_next rfl T.m_l_next T.k_l_next T.b_l_next .nil pass0 (pa_cons (pv 0) (pa_cons pe_int pa_nil))))
      (pss_cons (ps_if (PW.pt (pw_or (pt_cmpR op_eq (pv 4) pe_int (nomark _)) (pw_or (pt_cmpR op_lt (pe_ix (ix_listK K) (pv 3) pe_int (fun _ _ => rfl)) pe_int (nomark _)) (pw_or1 (pt_cmpR op_lt (pv 5) pe_int (nomark _))))))
        (pss_one (ps_ret (pe_call G_l_plain hr_l_plain rfl T.m_l_plain T.k_l_plain T.b_l_plain .nil pass0 (pa_cons (pv 0) (pa_cons (pv 1) (pa_cons (pv 2) pa_nil))))))
        pss_nil)
      (pss_cons (ps_if (pt_cmpR op_eq (pv 5) pe_int (nomark _))
        (pss_one (ps_ret (pe_tup (pa_cons pe_str (pa_cons (pe_call G_l_saying hr_l_saying rfl T.m_l_saying T.k_l_saying T.b_l_saying .nil pass0 (pa_cons (pv 0) (pa_cons (pv 1) (pa_cons (pv 2) (pa_cons (pv 3) (pa_cons (pe_op op_sub (pv 4) pe_int) pa_nil)))))) pa_nil)))))
        pss_nil)
      (pss_cons (ps_if (pt_cmpR op_lt (pv 5) pe_int (nomark _))
        (pss_cons (ps_set (i := 6) sc_l_saying.nd rfl (Or.inl rfl) (pe_call G_l_saying hr_l_saying rfl T.m_l_saying T.k_l_saying T.b_l_saying .nil pass0 (pa_cons (pv 0) (pa_cons (pv 1) (pa_cons (pv 2) (pa_cons (pv 3) (pa_cons (pe_op op_sub (pv 4) pe_int) pa_nil)))))))
        (pss_one (ps_ret (pe_tup (pa_cons (pe_ix (ix_listK K) (pe_lst (pa_cons pe_str (pa_cons pe_str pa_nil))) (pe_op op_modP (pv 5) pe_int) (fun _ _ => rfl)) (pa_cons (pv 6) (pa_cons (pe_call G_l_saying hr_l_saying rfl T.m_l_saying T.k_l_saying T.b_l_saying .nil pass0 (pa_cons (pv 0) (pa_cons (pv 1) (pa_cons (pv 2) (pa_cons (pv 3) (pa_cons (pe_op op_sub (pv 4) pe_int) pa_nil)))))) pa_nil)))))))
        pss_nil)
      (pss_cons (ps_set (i := 7) sc_l_saying.nd rfl (Or.inl rfl) (pe_ix (ix_listK K) (pv 1) (pe_call G_l_next hr_l_next rfl T.m_l_next T.k_l_next T.b_l_next .nil pass0 (pa_cons (pv 0) (pa_cons (pe_callB (call_lenK K) (by rfl) T.z_len bt_len (pa_cons (pv 1) pa_nil)) pa_nil))) (fun _ _ => rfl)))
      (pss_one (ps_ret (pe_tup (pa_cons (pe_ix (ix_listK K) (pe_lst (pa_cons pe_str (pa_cons pe_str pa_nil))) (pe_op op_sub (pv 5) pe_int) (fun _ _ => rfl)) (pa_cons (pv 7) (pa_cons (pe_call G_l_saying hr_l_saying rfl T.m_l_saying T.k_l_saying T.b_l_saying .nil pass0 (pa_cons (pv 0) (pa_cons (pv 1) (pa_cons (pv 2) (pa_cons (pv 3) (pa_cons (pe_op op_sub (pv 4) pe_int) pa_nil)))))) pa_nil)))))))))))), ?_⟩
      refine ⟨_, rfl, bx, _, 0, .int bk, rfl, rfl, .of hb, atI_nat (j := 0) rfl, _, _, rfl, rfl, ?_⟩
      refine ⟨_, rfl, bx, _, 0, 0, rfl, rfl, hb, rfl, ?_⟩
      have b1 : (upd H bx (.lst ([V.int bk].set 0 (V.int (bk - 1))))) bx = some (.lst [.int (bk - 1)]) := upd_same
      have k1 : KB2 d bx H (upd H bx (.lst ([V.int bk].set 0 (V.int (bk - 1))))) := KB.r KB.write
      have d1 : Deck2 (upd H bx (.lst ([V.int bk].set 0 (V.int (bk - 1))))) d := hd.kb KB.write hbd.symm
      generalize upd H bx (.lst ([V.int bk].set 0 (V.int (bk - 1)))) = H1 at b1 k1 d1
      refine ⟨_, rfl, d, 9, rfl, d1, by decide, fun go H2 g0 g1 k2 d2 => ?_⟩
      have b2 := k2 _ _ b1 hbd
      have k12 := k1.trans (k2.l (e := bx))
      have hS2 := k12.seq hne hnb hS
      have hR2 := k12.seq hnr hrb hR
      have plain : ∃ v, ([some (.ref d), some (.ref nm), some (.ref rw), some (.ref bx), some (.int deep), some (.int go), none, none] : St)[0]? = some (some v) ∧ ∃ v', ([some (.ref d), some (.ref nm), some (.ref rw), some (.ref bx), some (.int deep), some (.int go), none, none] : St)[1]? = some (some v') ∧
          ∃ v'', ([some (.ref d), some (.ref nm), some (.ref rw), some (.ref bx), some (.int deep), some (.int go), none, none] : St)[2]? = some (some v'') ∧ spPlain K ([v, v', v''] ++ []) H2 Q E0 := by
        refine ⟨_, rfl, _, rfl, _, rfl, d, nm, rw, ss, rs, rfl, d2, hS2, hne, hss, hR2, hnr, hrs, fun p f H' dt dp kk dd => ?_⟩
        exact k p f H' (bk - 1) dt ⟨by have := dp.1; omega, dp.2⟩ (k12.trans (kk.l (e := bx))) dd (kk _ _ b2 hbd)
      refine ⟨_, rfl, rfl, _, rfl, ?_⟩
      refine ite2 (fun _ => iteT plain) (fun hdeep => ?_)
      refine ⟨_, rfl, bx, _, 0, .int (bk - 1), rfl, rfl, .of b2, atI_nat (j := 0) rfl, _, _, rfl, rfl, _, rfl, ?_⟩
      refine ite2 (fun _ => iteT plain) (fun _ => ?_)
      refine ⟨_, rfl, _, _, rfl, rfl, _, rfl, ?_⟩
      refine ite2 (fun _ => plain) (fun hgo3 => ?_)
      have deep1 : 0 < deep := by
        by_cases z : deep = 0
        · exact absurd (dI (by omega)) hdeep
        · omega
      obtain ⟨e, he⟩ : ∃ e : Nat, (deep : Int) - 1 = (e : Int) := ⟨deep - 1, by omega⟩
      have he' : e = deep - 1 := by omega
      have self : ∀ (H3 : Hp) (b3 : Int) (Q' : VK), Deck2 H3 d → H3 bx = some (.lst [.int b3]) → KB2 d bx H H3 →
          (∀ (p : Addr) (f : Say) (H' : Hp) (bk' : Int), DatAt K H' (.ref p) f.dt → f.deep ≤ deep - 1 ∧ f.Over ss → KB2 d bx H3 H' → Deck2 H' d → H' bx = some (.lst [.int bk']) → Q' (.ref p) H') →
          spSaying K n ([.ref d, .ref nm, .ref rw, .ref bx, .int ((deep : Int) - 1)] ++ []) H3 Q' E0 := by
        intro H3 b3 Q' d3 h3 k3 kq
        refine ⟨d, nm, rw, bx, ss, rs, b3, e, by rw [he]; rfl, d3, ⟨k3.seq hne hnb hS, hne, hnb, hs0, hss⟩, ⟨k3.seq hnr hrb hR, hnr, hrb, hrs⟩, h3, hbd, by omega, fun p f H' bk' dt dp kk dd hb' => ?_⟩
        exact kq p f H' bk' dt ⟨by have := dp.1; omega, dp.2⟩ kk dd hb'
      refine ⟨_, rfl, rfl, _, rfl, ?_⟩
      refine ite2 (fun _ => ?_) (fun _ => ?_)
      · refine ⟨_, rfl, _, rfl, _, rfl, _, rfl, _, rfl, _, _, rfl, rfl, ?_⟩
        dsimp only [tNil]
        refine self H2 _ _ d2 b2 k12 fun p f H3 b3 dt dp kk dd hb3 => ⟨by show 2 ≤ sizeLine; decide, fun q hq => ?_⟩
        have sq := Same.new (o := .tup [.str "not", .ref p]) hq
        exact k q (.no f) _ b3 (dat_tup (.of upd_same) (dats_cons dat_str (dats_cons (dat_stay sq.kts _ _ f.noL dt) dats_nil))) ⟨by have := dp.1; simp only [Say.deep]; omega, dp.2⟩ ((k12.trans kk).trans sq.kb2) (dd.same sq) (sq _ _ hb3)
      refine ⟨_, rfl, _, _, rfl, rfl, _, rfl, ?_⟩
      refine ite2 (fun _ => ?_) (fun hgo7 => ?_)
      · refine ⟨_, rfl, _, rfl, _, rfl, _, rfl, _, rfl, _, _, rfl, rfl, ?_⟩
        dsimp only [tNil]
        refine self H2 _ _ d2 b2 k12 fun p f H3 b3 dt dp kk dd hb3 => ?_
        refine ⟨by show 2 ≤ sizeLine; decide, fun O hO => ?_⟩
        have sO := Same.new (o := .lst [.str "and", .str "or"]) hO
        obtain ⟨x, hx, hv⟩ := pick2 (V.str "and") (V.str "or") (go % 2) (Int.emod_nonneg _ (by decide)) (Int.emod_lt_of_pos _ (by decide))
        refine ⟨_, rfl, _, _, rfl, rfl, cpos (by decide), O, _, _, x, rfl, rfl, .of upd_same, hx, _, rfl, _, rfl, _, rfl, _, rfl, _, rfl, _, rfl, _, _, rfl, rfl, ?_⟩
        dsimp only [tNil]
        refine self _ _ _ (dd.same sO) (sO _ _ hb3) ((k12.trans kk).trans sO.kb2) fun p2 f2 H4 b4 dt2 dp2 kk2 dd2 hb4 => ⟨by show 3 ≤ sizeLine; decide, fun q hq => ?_⟩
        have sq := Same.new (o := .tup [x, .ref p, .ref p2]) hq
        obtain ⟨xd, exd⟩ := (dd.same sO).is
        have kt : KTs K H3 (upd H4 q (.tup [x, .ref p, .ref p2])) := sO.kts.trans ((KB2.kts exd (sO _ _ hb3) kk2).trans sq.kts)
        have m1 := dat_stay kt _ _ f.noL dt
        have m2 := dat_stay sq.kts _ _ f2.noL dt2
        have kf : KB2 d bx H (upd H4 q (.tup [x, .ref p, .ref p2])) := (((k12.trans kk).trans sO.kb2).trans kk2).trans sq.kb2
        rcases hv with rfl | rfl
        · exact k q (.and f f2) _ b4 (dat_tup (.of upd_same) (dats_cons dat_str (dats_cons m1 (dats_cons m2 dats_nil)))) ⟨by have := dp.1; have := dp2.1; simp only [Say.deep]; omega, dp.2, dp2.2⟩ kf (dd2.same sq) (sq _ _ hb4)
        · exact k q (.or f f2) _ b4 (dat_tup (.of upd_same) (dats_cons dat_str (dats_cons m1 (dats_cons m2 dats_nil)))) ⟨by have := dp.1; have := dp2.1; simp only [Say.deep]; omega, dp.2, dp2.2⟩ kf (dd2.same sq) (sq _ _ hb4)
      · refine ⟨_, rfl, _, rfl, _, rfl, _, ss.length, rfl, .inl ⟨_, hS2, by rw [List.length_map]⟩, d, (ss.length : Int), rfl, d2, by omega, fun r H3 r0 r1 k3 d3 => ?_⟩
        obtain ⟨nx, hnx, _⟩ := pickS ss r r0 r1
        have k13 := k12.trans (k3.l (e := bx))
        have b3 := k3 _ _ b2 hbd
        refine ⟨nm, _, _, .str nx, rfl, rfl, k13.seq hne hnb hS, hnx, ?_⟩
        refine ⟨by show 2 ≤ sizeLine; decide, fun O hO => ?_⟩
        have sO := Same.new (o := .lst [.str "some", .str "each"]) hO
        have hgo7' : 7 ≤ go := by
          have : ¬ (go < 7) := fun z => hgo7 (decide_eq_true z)
          omega
        obtain ⟨x, hx, hv⟩ := pick2 (V.str "some") (V.str "each") (go - 7) (by omega) (by omega)
        refine ⟨_, rfl, _, _, rfl, rfl, O, _, _, x, rfl, rfl, .of upd_same, hx, _, rfl, _, rfl, _, rfl, _, rfl, _, rfl, _, rfl, _, _, rfl, rfl, ?_⟩
        dsimp only [tNil]
        refine self _ _ _ (d3.same sO) (sO _ _ b3) (k13.trans sO.kb2) fun p f H4 b4 dt dp kk dd hb4 => ⟨by show 3 ≤ sizeLine; decide, fun q hq => ?_⟩
        have sq := Same.new (o := .tup [x, .str nx, .ref p]) hq
        have m1 := dat_stay sq.kts _ _ f.noL dt
        have kf : KB2 d bx H (upd H4 q (.tup [x, .str nx, .ref p])) := ((k13.trans sO.kb2).trans kk).trans sq.kb2
        rcases hv with rfl | rfl
        · exact k q (.some nx f) _ b4 (dat_tup (.of upd_same) (dats_cons dat_str (dats_cons dat_str (dats_cons m1 dats_nil)))) ⟨by have := dp.1; simp only [Say.deep]; omega, dp.2⟩ kf (dd.same sq) (sq _ _ hb4)
        · exact k q (.each nx f) _ b4 (dat_tup (.of upd_same) (dats_cons dat_str (dats_cons dat_str (dats_cons m1 dats_nil)))) ⟨by have := dp.1; simp only [Say.deep]; omega, dp.2⟩ kf (dd.same sq) (sq _ _ hb4)
end
end My
set_option Elab.async false
set_option linter.all false
set_option maxRecDepth 100000
set_option maxHeartbeats 4000000
namespace My
open PySem L2
def Say.word : Say → Str
  | .same _ _ => "same" | .less _ _ => "less" | .sign _ _ _ => "sign" | .alike _ _ _ _ => "alike" | .no _ => "not" | .and _ _ => "and" | .or _ _ => "or" | .some _ _ => "some" | .each _ _ => "each"
def Say.inner : Say → List Say
  | .no f => [f] | .and f g => [f, g] | .or f g => [f, g] | .some _ f => [f] | .each _ f => [f] | _ => []
def Say.spots : Say → List Nat
  | .no _ => [1] | .and _ _ => [1, 2] | .or _ _ => [1, 2] | .some _ _ => [2] | .each _ _ => [2] | _ => []
structure PAdr where
  d : Addr
  no : Addr
  an : Addr
  or : Addr
  so : Addr
  ea : Addr
def partTab (b : PAdr) : List (Str × Option V) :=
  [("not", some (.ref b.no)), ("and", some (.ref b.an)), ("or", some (.ref b.or)), ("some", some (.ref b.so)), ("each", some (.ref b.ea)), ("same", none), ("less", none), ("sign", none), ("alike", none)]
structure TopsP (K : PySem.W.Frag) (pr : Params) (mg : Str → Option Value) (b : PAdr) : Prop where
  m_PART : mg "PART_SPOTS" = some (.ref b.d)
  D_PART : TopDict K pr b.d (partTab b)
  no : ∀ H, SqT K H b.no [.int 1]
  an : ∀ H, SqT K H b.an [.int 1, .int 2]
  or : ∀ H, SqT K H b.or [.int 1, .int 2]
  so : ∀ H, SqT K H b.so [.int 2]
  ea : ∀ H, SqT K H b.ea [.int 2]
theorem TopsP.spots {K : PySem.W.Frag} {pr : Params} {mg : Str → Option Value} {b : PAdr} (U : TopsP K pr mg b) (f : Say) (H : Hp) (e : Addr) (he : SqT K H e []) :
    ∃ r p, (f.word, r) ∈ partTab b ∧ r.getD (.ref e) = .ref p ∧ SqT K H p (f.spots.map fun (n : Nat) => V.int (n : Int)) := by
  cases f with
  | same t u => exact ⟨none, e, by simp [partTab, Say.word], rfl, he⟩
  | less t u => exact ⟨none, e, by simp [partTab, Say.word], rfl, he⟩
  | sign a t s => exact ⟨none, e, by simp [partTab, Say.word], rfl, he⟩
  | alike a t c u => exact ⟨none, e, by simp [partTab, Say.word], rfl, he⟩
  | no f => exact ⟨some (.ref b.no), b.no, by simp [partTab, Say.word], rfl, U.no H⟩
  | and f g => exact ⟨some (.ref b.an), b.an, by simp [partTab, Say.word], rfl, U.an H⟩
  | or f g => exact ⟨some (.ref b.or), b.or, by simp [partTab, Say.word], rfl, U.or H⟩
  | some n f => exact ⟨some (.ref b.so), b.so, by simp [partTab, Say.word], rfl, U.so H⟩
  | each n f => exact ⟨some (.ref b.ea), b.ea, by simp [partTab, Say.word], rfl, U.ea H⟩
theorem dats_inv {K : PySem.W.Frag} {H : Hp} {xs : List V} {d : Dt} {ds : List Dt} (h : DatsAt K H xs (d :: ds)) : ∃ y ys, xs = y :: ys ∧ DatAt K H y d ∧ DatsAt K H ys ds := by
  cases xs with
  | nil => simp [DatsAt] at h
  | cons y ys => rw [DatsAt] at h; exact ⟨y, ys, rfl, h.1, h.2⟩
theorem dat_tup_inv {K : PySem.W.Frag} {H : Hp} {x : V} {ds : List Dt} (h : DatAt K H x (.tup ds)) : ∃ a xs, x = .ref a ∧ SqT K H a xs ∧ DatsAt K H xs ds := by rw [DatAt] at h; exact h
theorem Say.isTup (f : Say) : ∃ ds, f.dt = .tup (.str f.word :: ds) := by
  cases f <;> exact ⟨_, rfl⟩
theorem say_at {K : PySem.W.Frag} {H : Hp} {x : V} (f : Say) (h : DatAt K H x f.dt) : ∃ a xs, x = .ref a ∧ SqT K H a xs ∧ xs[0]? = some (.str f.word) ∧
    ∀ (i n : Nat), f.spots[i]? = some n → ∃ y g, xs[n]? = some y ∧ f.inner[i]? = some g ∧ DatAt K H y g.dt := by
  obtain ⟨ds, e⟩ := f.isTup
  have h' := h
  rw [e] at h'
  obtain ⟨a, xs, rfl, hq, hd⟩ := dat_tup_inv h'
  obtain ⟨y0, ys, rfl, h0, hd1⟩ := dats_inv hd
  clear hd
  refine ⟨a, _, rfl, hq, by rw [DatAt] at h0; rw [h0]; rfl, ?_⟩
  have one : ∀ {i n m : Nat}, ([m] : List Nat)[i]? = some n → i = 0 ∧ n = m := fun {i n m} z => by
    cases i with
    | zero => simp at z; exact ⟨rfl, z.symm⟩
    | succ i => simp at z
  have two : ∀ {i n m k : Nat}, ([m, k] : List Nat)[i]? = some n → (i = 0 ∧ n = m) ∨ (i = 1 ∧ n = k) := fun {i n m k} z => by
    match i with
    | 0 => simp at z; exact .inl ⟨rfl, z.symm⟩
    | 1 => simp at z; exact .inr ⟨rfl, z.symm⟩
    | i + 2 => simp at z
  cases f with
  | same t u => intro i n z; simp [Say.spots] at z
  | less t u => intro i n z; simp [Say.spots] at z
  | sign b t s => intro i n z; simp [Say.spots] at z
  | alike b t c u => intro i n z; simp [Say.spots] at z
  | no f =>
    cases e
    obtain ⟨y1, ys, rfl, h1, _⟩ := dats_inv hd1
    intro i n z
    obtain ⟨rfl, rfl⟩ := one z
    exact ⟨y1, f, rfl, rfl, h1⟩
  | and f g =>
    cases e
    obtain ⟨y1, ys, rfl, h1, hd2⟩ := dats_inv hd1
    obtain ⟨y2, ys, rfl, h2, _⟩ := dats_inv hd2
    intro i n z
    rcases two z with ⟨rfl, rfl⟩ | ⟨rfl, rfl⟩
    · exact ⟨y1, f, rfl, rfl, h1⟩
    · exact ⟨y2, g, rfl, rfl, h2⟩
  | or f g =>
    cases e
    obtain ⟨y1, ys, rfl, h1, hd2⟩ := dats_inv hd1
    obtain ⟨y2, ys, rfl, h2, _⟩ := dats_inv hd2
    intro i n z
    rcases two z with ⟨rfl, rfl⟩ | ⟨rfl, rfl⟩
    · exact ⟨y1, f, rfl, rfl, h1⟩
    · exact ⟨y2, g, rfl, rfl, h2⟩
  | some m f =>
    cases e
    obtain ⟨y1, ys, rfl, h1, hd2⟩ := dats_inv hd1
    obtain ⟨y2, ys, rfl, h2, _⟩ := dats_inv hd2
    intro i n z
    obtain ⟨rfl, rfl⟩ := one z
    exact ⟨y2, f, rfl, rfl, h2⟩
  | each m f =>
    cases e
    obtain ⟨y1, ys, rfl, h1, hd2⟩ := dats_inv hd1
    obtain ⟨y2, ys, rfl, h2, _⟩ := dats_inv hd2
    intro i n z
    obtain ⟨rfl, rfl⟩ := one z
    exact ⟨y2, f, rfl, rfl, h2⟩
theorem spots_len (f : Say) : f.spots.length = f.inner.length := by cases f <;> rfl
theorem inner_small (f : Say) : f.inner.length ≤ 2 := by cases f <;> simp [Say.inner]
theorem inner_deep (f g : Say) (h : g ∈ f.inner) : g.deep < f.deep := by
  cases f with
  | no f => have : g = f := by simpa [Say.inner] using h
            subst this; simp [Say.deep]
  | and f1 f2 =>
    have : g = f1 ∨ g = f2 := by simpa [Say.inner] using h
    rcases this with rfl | rfl <;> simp only [Say.deep] <;> omega
  | or f1 f2 =>
    have : g = f1 ∨ g = f2 := by simpa [Say.inner] using h
    rcases this with rfl | rfl <;> simp only [Say.deep] <;> omega
  | some n f => have : g = f := by simpa [Say.inner] using h
                subst this; simp [Say.deep]
  | each n f => have : g = f := by simpa [Say.inner] using h
                subst this; simp [Say.deep]
  | _ => simp [Say.inner] at h
theorem says_noL : ∀ fs : List Say, Dt.noLs (fs.map Say.dt) = true
  | [] => by simp [Dt.noLs]
  | f :: fs => by rw [List.map_cons, Dt.noLs, says_noL fs, f.noL]; rfl
def spInner (K : PySem.W.Frag) : Sp := fun vs H Q _ => ∃ (x : V) (f : Say), vs = [x] ∧ DatAt K H x f.dt ∧ ∀ (D : Addr) (xs : List V) (H' : Hp), H D = none → Same H H' → H' D = some (.lst xs) → DatsAt K H' xs (f.inner.map Say.dt) → Q (.ref D) H'
section
variable {P : Program} {w : World} {K : PySem.W.Frag} {mg : Str → Option Value} {base : Heap}
theorem sc_inner_parts : FnScope ["saying"] ["saying"] (defScope s_inner_parts) := ⟨rfl, rfl, rfl, by decide +kernel, rfl, by decide +kernel, by decide +kernel⟩
theorem ok_inner_parts {a : Adr} {b : PAdr} (T : Txt K mg a) (U : TopsP K w.params mg b) : FnOk P w K mg base CX0 1 a.f_inner_parts a.fd_inner_parts ["saying"] (spInner K) := by
  refine T.F_inner_parts.ok sc_inner_parts (fun vs H Q E h => ?_) (fun cdv A outer s H vs Q E hr h => ?_)
  · obtain ⟨x, f, rfl, _⟩ := h
    rfl
  · obtain ⟨x, f, rfl, hf, k⟩ := h
    obtain ⟨a, xs, rfl, hq, h0, hsp⟩ := say_at f hf
    refine ⟨_, (pss_one (ps_ret (pe_comp (CompScope.mk' (esc := defScope s_inner_parts) (N := ["saying"]) (own := ["spot"]) (frn := ["saying"]) (frj := [0]) rfl rfl (by decide +kernel)) rfl (pi_tup (pe_topget U.D_PART rfl U.m_PART (pe_ix (ix_tupK K) (pv 0) pe_int (fun _ _ => rfl)) (pe_tup pa_nil))) (fun _ _ _ _ => (pg_name (i := 0) (show List.Nodup (["spot", "saying"] : List Str) by decide +kernel) rfl (Or.inl rfl))) (fun _ _ _ _ => pifs_nil) (fun _ _ _ _ => (pe_ix (ix_tupK K) (pv 1) (pv 0) (fun _ _ => rfl)))))), ?_⟩
    refine ⟨_, rfl, a, xs, 0, .str f.word, rfl, rfl, hq, atI_nat (j := 0) h0, by decide, fun e he => ?_⟩
    have s1 := Same.new (o := .tup []) he
    obtain ⟨r, p, hr1, hr2, hr3⟩ := U.spots f (upd H e (.tup [])) e (.of upd_same)
    refine ⟨f.word, r, rfl, hr1, p, hr2, ⟨_, hr3⟩, fun C hC => ?_⟩
    refine comp_tup (xs := f.spots.map fun (n : Nat) => V.int (n : Int)) (fun i σ H' => ∃ (ys : List V) (v : Option V), σ = [v, some (.ref a)] ∧ Same (upd H e (.tup [])) H' ∧ H' C = some (.lst ys) ∧ DatsAt K H' ys ((f.inner.take i).map Say.dt) ∧ ys.length = i)
      ⟨[], none, rfl, Same.new hC, upd_same, dats_nil, rfl⟩ (fun i σ H' _ ⟨_, _, _, h, _⟩ => h.seqT hr3) ?_ ?_
    · rintro i y σ H1 hy ⟨ys, v, rfl, s2, e2, dt2, ly⟩
      rw [List.getElem?_map] at hy
      cases en : f.spots[i]? with
      | none => rw [en] at hy; cases hy
      | some n =>
        rw [en] at hy
        have ey : y = .int (n : Int) := (Option.some.inj hy).symm
        subst ey
        obtain ⟨z, g, hz, hg, hdz⟩ := hsp i n en
        have kt : KTs K H H1 := (s1.trans s2).kts
        refine ⟨_, rfl, _, rfl, a, xs, _, z, rfl, rfl, kt _ _ hq, atI_nat hz, ys, e2, ?_, ys ++ [z], _, rfl, s2.kbn hC KB.write, upd_same, ?_, ?_⟩
        · have : i < f.spots.length := (List.getElem?_eq_some_iff.mp en).1
          have h2 := inner_small f
          rw [spots_len] at this
          exact Nat.lt_of_lt_of_le (show ys.length < 10 by omega) (by decide)
        · have e1 : f.inner.take (i + 1) = f.inner.take i ++ [g] := by rw [List.take_add_one, hg]; rfl
          rw [e1, List.map_append]
          have kk : KTs K H1 (upd H1 C (.lst (ys ++ [z]))) := KB.kts e2 KB.write
          exact dats_app (dats_stay kk _ _ (says_noL _) dt2) (dats_cons (dat_stay (kt.trans kk) _ _ g.noL hdz) dats_nil)
        · rw [List.length_append, ly]; rfl
    · rintro σ H1 ⟨ys, v, rfl, s2, e2, dt2, ly⟩
      rw [List.length_map, spots_len, List.take_length] at dt2
      exact k C ys H1 (s1.free hC) (s1.trans s2) e2 dt2
end
end My
set_option Elab.async false
set_option linter.all false
set_option maxRecDepth 100000
set_option maxHeartbeats 4000000
namespace My
open PySem L2
def Say.terms : Say → List Term
  | .same t u => [t, u] | .less t u => [t, u] | .sign _ t _ => [t] | .alike _ t _ u => [t, u] | _ => []
def Say.tspots : Say → List Nat
  | .same _ _ => [1, 2] | .less _ _ => [1, 2] | .sign _ _ _ => [2] | .alike _ _ _ _ => [2, 4] | _ => []
def tnm (t : Term) : List Str := t.parts.map (·.1)
def Say.tnames (f : Say) : List Str := f.terms.flatMap tnm
def Say.binds : Say → Option Str
  | .some n _ => Option.some n | .each n _ => Option.some n | _ => Option.none
def Say.Free : Say → Str → Prop
  | .same t u, y => y ∈ tnm t ∨ y ∈ tnm u
  | .less t u, y => y ∈ tnm t ∨ y ∈ tnm u
  | .sign _ t _, y => y ∈ tnm t
  | .alike _ t _ u, y => y ∈ tnm t ∨ y ∈ tnm u
  | .no f, y => f.Free y
  | .and f g, y => f.Free y ∨ g.Free y
  | .or f g, y => f.Free y ∨ g.Free y
  | .some n f, y => f.Free y ∧ y ≠ n
  | .each n f, y => f.Free y ∧ y ≠ n
theorem free_iff (f : Say) (y : Str) : f.Free y ↔ (y ∈ f.tnames ∨ ∃ g ∈ f.inner, g.Free y) ∧ f.binds ≠ some y := by
  cases f <;> simp [Say.Free, Say.tnames, Say.terms, Say.inner, Say.binds]
  all_goals (intro _; constructor <;> (intro h e; exact h e.symm))
theorem over_terms {ss : List Str} {f : Say} (h : f.Over ss) : ∀ t ∈ f.terms, TOver ss t := by
  cases f <;> simp [Say.Over, Say.terms] at h ⊢ <;> first | exact h | skip
theorem over_inner {ss : List Str} {f : Say} (h : f.Over ss) : ∀ g ∈ f.inner, g.Over ss := by
  cases f <;> simp [Say.Over, Say.inner] at h ⊢ <;> first | exact h | skip
theorem tnm_in {ss : List Str} {t : Term} (h : TOver ss t) {y : Str} (hy : y ∈ tnm t) : y ∈ ss := by
  obtain ⟨q, hq, rfl⟩ := List.mem_map.mp hy
  exact h.2 q hq
theorem free_in {ss : List Str} {y : Str} : ∀ {f : Say}, f.Over ss → f.Free y → y ∈ ss
  | .same t u, h, hf => hf.elim (tnm_in h.1) (tnm_in h.2)
  | .less t u, h, hf => hf.elim (tnm_in h.1) (tnm_in h.2)
  | .sign _ t _, h, hf => tnm_in (show TOver ss t from h) hf
  | .alike _ t _ u, h, hf => hf.elim (tnm_in h.1) (tnm_in h.2)
  | .no f, h, hf => free_in (f := f) h hf
  | .and f g, h, hf => hf.elim (free_in h.1) (free_in h.2)
  | .or f g, h, hf => hf.elim (free_in h.1) (free_in h.2)
  | .some n f, h, hf => free_in (f := f) h hf.1
  | .each n f, h, hf => free_in (f := f) h hf.1
structure IsFree (ks : List Str) (f : Say) : Prop where
  sorted : PyProof.Rows.sortedS ks = true
  once : ks.Nodup
  mem : ∀ y, y ∈ ks ↔ f.Free y
theorem IsFree.uniq {ks ls : List Str} {f : Say} (h : IsFree ks f) (g : IsFree ls f) : ks = ls := sorted_uniq h.sorted g.sorted h.once g.once fun y => (h.mem y).trans (g.mem y).symm
theorem IsFree.len {ks ss : List Str} {f : Say} (h : IsFree ks f) (o : f.Over ss) : ks.length ≤ ss.length := nodup_len h.once fun y hy => free_in o ((h.mem y).mp hy)
theorem terms_small (f : Say) : f.terms.length ≤ 2 := by cases f <;> simp [Say.terms]
theorem tspots_len (f : Say) : f.tspots.length = f.terms.length := by cases f <;> rfl
theorem flat_small {ss : List Str} : ∀ {ts : List Term}, (∀ t ∈ ts, TOver ss t) → (ts.flatMap tnm).length ≤ 3 * ts.length
  | [], _ => Nat.zero_le _
  | t :: ts, h => by
    rw [List.flatMap_cons, List.length_append, List.length_cons, tnm, List.length_map]
    have h1 := (h t List.mem_cons_self).1
    have h2 := flat_small (ts := ts) fun u hu => h u (List.mem_cons_of_mem _ hu)
    omega
theorem tnames_small {ss : List Str} {f : Say} (h : f.Over ss) : f.tnames.length ≤ 6 := by
  have h1 := flat_small (over_terms h)
  have h2 := terms_small f
  unfold Say.tnames
  omega
structure TAdr where
  d : Addr
  sa : Addr
  le : Addr
  si : Addr
  al : Addr
def termTab (b : TAdr) : List (Str × Option V) :=
  [("same", some (.ref b.sa)), ("less", some (.ref b.le)), ("sign", some (.ref b.si)), ("alike", some (.ref b.al)), ("not", none), ("and", none), ("or", none), ("some", none), ("each", none)]
structure TopsT (K : PySem.W.Frag) (pr : Params) (mg : Str → Option Value) (b : TAdr) : Prop where
  m_TERM : mg "TERM_SPOTS" = some (.ref b.d)
  D_TERM : TopDict K pr b.d (termTab b)
  sa : ∀ H, SqT K H b.sa [.int 1, .int 2]
  le : ∀ H, SqT K H b.le [.int 1, .int 2]
  si : ∀ H, SqT K H b.si [.int 2]
  al : ∀ H, SqT K H b.al [.int 2, .int 4]
theorem TopsT.spots {K : PySem.W.Frag} {pr : Params} {mg : Str → Option Value} {b : TAdr} (U : TopsT K pr mg b) (f : Say) (H : Hp) (e : Addr) (he : SqT K H e []) :
    ∃ r p, (f.word, r) ∈ termTab b ∧ r.getD (.ref e) = .ref p ∧ SqT K H p (f.tspots.map fun (n : Nat) => V.int (n : Int)) := by
  cases f with
  | same t u => exact ⟨some (.ref b.sa), b.sa, by simp [termTab, Say.word], rfl, U.sa H⟩
  | less t u => exact ⟨some (.ref b.le), b.le, by simp [termTab, Say.word], rfl, U.le H⟩
  | sign a t s => exact ⟨some (.ref b.si), b.si, by simp [termTab, Say.word], rfl, U.si H⟩
  | alike a t c u => exact ⟨some (.ref b.al), b.al, by simp [termTab, Say.word], rfl, U.al H⟩
  | no f => exact ⟨none, e, by simp [termTab, Say.word], rfl, he⟩
  | and f g => exact ⟨none, e, by simp [termTab, Say.word], rfl, he⟩
  | or f g => exact ⟨none, e, by simp [termTab, Say.word], rfl, he⟩
  | some n f => exact ⟨none, e, by simp [termTab, Say.word], rfl, he⟩
  | each n f => exact ⟨none, e, by simp [termTab, Say.word], rfl, he⟩
theorem say_terms {K : PySem.W.Frag} {H : Hp} {x : V} (f : Say) (h : DatAt K H x f.dt) : ∃ a xs, x = .ref a ∧ SqT K H a xs ∧ xs[0]? = some (.str f.word) ∧
    (∀ (i n : Nat), f.tspots[i]? = some n → ∃ y t, xs[n]? = some y ∧ f.terms[i]? = some t ∧ DatAt K H y t.dt) ∧ ∀ n, f.binds = some n → xs[1]? = some (.str n) := by
  obtain ⟨ds, e⟩ := f.isTup
  have h' := h
  rw [e] at h'
  obtain ⟨a, xs, rfl, hq, hd⟩ := dat_tup_inv h'
  obtain ⟨y0, ys, rfl, h0, hd1⟩ := dats_inv hd
  clear hd
  refine ⟨a, _, rfl, hq, by rw [DatAt] at h0; rw [h0]; rfl, ?_⟩
  have one : ∀ {i n m : Nat}, ([m] : List Nat)[i]? = some n → i = 0 ∧ n = m := fun {i n m} z => by
    cases i with
    | zero => simp at z; exact ⟨rfl, z.symm⟩
    | succ i => simp at z
  have two : ∀ {i n m k : Nat}, ([m, k] : List Nat)[i]? = some n → (i = 0 ∧ n = m) ∨ (i = 1 ∧ n = k) := fun {i n m k} z => by
    match i with
    | 0 => simp at z; exact .inl ⟨rfl, z.symm⟩
    | 1 => simp at z; exact .inr ⟨rfl, z.symm⟩
    | i + 2 => simp at z
  have nb : ∀ {P : Prop} {n : Str}, (Option.none : Option Str) = some n → P := fun z => nomatch z
  cases f with
  | same t u =>
    cases e
    obtain ⟨y1, ys, rfl, h1, hd2⟩ := dats_inv hd1
    obtain ⟨y2, ys, rfl, h2, _⟩ := dats_inv hd2
    refine ⟨fun i n z => ?_, fun n z => nb z⟩
    rcases two z with ⟨rfl, rfl⟩ | ⟨rfl, rfl⟩
    · exact ⟨y1, t, rfl, rfl, h1⟩
    · exact ⟨y2, u, rfl, rfl, h2⟩
  | less t u =>
    cases e
    obtain ⟨y1, ys, rfl, h1, hd2⟩ := dats_inv hd1
    obtain ⟨y2, ys, rfl, h2, _⟩ := dats_inv hd2
    refine ⟨fun i n z => ?_, fun n z => nb z⟩
    rcases two z with ⟨rfl, rfl⟩ | ⟨rfl, rfl⟩
    · exact ⟨y1, t, rfl, rfl, h1⟩
    · exact ⟨y2, u, rfl, rfl, h2⟩
  | sign b t s =>
    cases e
    obtain ⟨y1, ys, rfl, h1, hd2⟩ := dats_inv hd1
    obtain ⟨y2, ys, rfl, h2, _⟩ := dats_inv hd2
    refine ⟨fun i n z => ?_, fun n z => nb z⟩
    obtain ⟨rfl, rfl⟩ := one z
    exact ⟨y2, t, rfl, rfl, h2⟩
  | alike b t c u =>
    cases e
    obtain ⟨y1, ys, rfl, h1, hd2⟩ := dats_inv hd1
    obtain ⟨y2, ys, rfl, h2, hd3⟩ := dats_inv hd2
    obtain ⟨y3, ys, rfl, h3, hd4⟩ := dats_inv hd3
    obtain ⟨y4, ys, rfl, h4, _⟩ := dats_inv hd4
    refine ⟨fun i n z => ?_, fun n z => nb z⟩
    rcases two z with ⟨rfl, rfl⟩ | ⟨rfl, rfl⟩
    · exact ⟨y2, t, rfl, rfl, h2⟩
    · exact ⟨y4, u, rfl, rfl, h4⟩
  | no f => exact ⟨fun i n z => by simp [Say.tspots] at z, fun n z => nb z⟩
  | and f g => exact ⟨fun i n z => by simp [Say.tspots] at z, fun n z => nb z⟩
  | or f g => exact ⟨fun i n z => by simp [Say.tspots] at z, fun n z => nb z⟩
  | some m f =>
    cases e
    obtain ⟨y1, ys, rfl, h1, hd2⟩ := dats_inv hd1
    refine ⟨fun i n z => by simp [Say.tspots] at z, fun n z => ?_⟩
    have z' : m = n := Option.some.inj z
    rw [DatAt] at h1
    rw [← z', h1]; rfl
  | each m f =>
    cases e
    obtain ⟨y1, ys, rfl, h1, hd2⟩ := dats_inv hd1
    refine ⟨fun i n z => by simp [Say.tspots] at z, fun n z => ?_⟩
    have z' : m = n := Option.some.inj z
    rw [DatAt] at h1
    rw [← z', h1]; rfl
theorem term_at {K : PySem.W.Frag} {H : Hp} {x : V} {t : Term} (h : DatAt K H x t.dt) : ∃ a p ys, x = .ref a ∧ SqT K H a [.int t.num, .ref p] ∧ SqT K H p ys ∧ DatsAt K H ys (t.parts.map partDt) := by
  obtain ⟨a, xs, rfl, hq, hd⟩ := dat_tup_inv (show DatAt K H x (.tup [.int t.num, .tup (t.parts.map partDt)]) from h)
  obtain ⟨y0, ys, rfl, h0, hd1⟩ := dats_inv hd
  obtain ⟨y1, ys, rfl, h1, hd2⟩ := dats_inv hd1
  have e : ys = [] := by
    have := hd2.length
    simpa using this
  subst e
  rw [DatAt] at h0
  subst h0
  obtain ⟨p, zs, rfl, hp, hz⟩ := dat_tup_inv h1
  exact ⟨a, p, zs, rfl, hq, hp, hz⟩
theorem part_one {K : PySem.W.Frag} {H : Hp} {x : V} {p : Str × Int} (h : DatAt K H x (partDt p)) : ∃ a, x = .ref a ∧ SqT K H a [.str p.1, .int p.2] := by
  obtain ⟨a, xs, rfl, hq, hd⟩ := dat_tup_inv (show DatAt K H x (.tup [.str p.1, .int p.2]) from h)
  obtain ⟨y0, ys, rfl, h0, hd1⟩ := dats_inv hd
  obtain ⟨y1, ys, rfl, h1, hd2⟩ := dats_inv hd1
  have e : ys = [] := by
    have := hd2.length
    simpa using this
  subst e
  rw [DatAt] at h0
  rw [DatAt] at h1
  subst h0 h1
  exact ⟨a, rfl, hq⟩
theorem take_snoc {α : Type} {xs : List α} {i : Nat} {x : α} (h : xs[i]? = some x) : xs.take (i + 1) = xs.take i ++ [x] := by rw [List.take_add_one, h]; rfl
def spTermNames (K : PySem.W.Frag) : Sp := fun vs H Q _ => ∃ (x : V) (f : Say) (ss : List Str), vs = [x] ∧ DatAt K H x f.dt ∧ f.Over ss ∧ ∀ (D : Addr) (H' : Hp), H D = none → Same H H' → H' D = some (.lst (f.tnames.map V.str)) → Q (.ref D) H'
section
variable {P : Program} {w : World} {K : PySem.W.Frag} {mg : Str → Option Value} {base : Heap}
theorem sc_term_names : FnScope ["saying", "names", "spot"] ["saying"] (defScope s_term_names) := ⟨rfl, rfl, rfl, by decide +kernel, rfl, by decide +kernel, by decide +kernel⟩
theorem ok_term_names {a : Adr} {b : TAdr} (T : Txt K mg a) (Y : TopsT K w.params mg b) : FnOk P w K mg base CX0 1 a.f_term_names a.fd_term_names ["saying"] (spTermNames K) := by
  refine T.F_term_names.ok sc_term_names (fun vs H Q E h => ?_) (fun cdv A outer s H vs Q E hr h => ?_)
  · obtain ⟨x, f, ss, rfl, _⟩ := h
    rfl
  · obtain ⟨x, f, ss, rfl, hf, ov, k⟩ := h
    obtain ⟨a, xs, rfl, hq, h0, hsp, _⟩ := say_terms f hf
    refine ⟨_, (pss_cons (ps_set (i := 1) sc_term_names.nd rfl (Or.inl rfl) (pe_lst pa_nil))
    (pss_cons (ps_for PassesOwn.never rfl (pi_tup (pe_topget Y.D_TERM rfl Y.m_TERM (pe_ix (ix_tupK K) (pv 0) pe_int (fun _ _ => rfl)) (pe_tup pa_nil))) (pg_name (i := 2) sc_term_names.nd rfl (Or.inl rfl))
      (pss_one (ps_expr (pe_bm PySem.F.plainAttrs_list PySem.F.slot_list_extend PySem.F.type_list_extend mt_extend (pv 1) (pa_cons (pe_comp (CompScope.mk' (esc := defScope s_term_names) (N := ["saying", "names", "spot"]) (own := ["part"]) (frn := []) (frj := []) rfl rfl (by decide +kernel)) rfl (pi_tup (pe_ix (ix_tupK K) (pe_ix (ix_tupK K) (pv 0) (pv 2) (fun _ _ => rfl)) pe_int (fun _ _ => rfl))) (fun _ _ _ _ => (pg_name (i := 0) (show List.Nodup (["part"] : List Str) by decide +kernel) rfl (Or.inl rfl))) (fun _ _ _ _ => pifs_nil) (fun _ _ _ _ => (pe_ix (ix_tupK K) (pv 0) pe_int (fun _ _ => rfl)))) pa_nil)))))
    (pss_one (ps_ret (pv 1))))), ?_⟩
    refine ⟨by decide, fun N hN => ?_⟩
    have sN := Same.new (o := .lst []) hN
    refine ⟨_, rfl, a, xs, 0, .str f.word, rfl, rfl, sN.seqT hq, atI_nat (j := 0) h0, by decide, fun e he => ?_⟩
    have s1 := sN.trans (Same.new (o := .tup []) he)
    obtain ⟨r, p, hr1, hr2, hr3⟩ := Y.spots f (upd (upd H N (.lst [])) e (.tup [])) e (.of upd_same)
    have eN1 : (upd (upd H N (.lst [])) e (.tup [])) N = some (.lst []) := (Same.new (o := .tup []) he) _ _ upd_same
    generalize upd (upd H N (.lst [])) e (.tup []) = H1 at s1 hr3 eN1 ⊢
    refine ⟨f.word, r, rfl, hr1, p, hr2, ⟨_, hr3⟩, for_tup (xs := f.tspots.map fun (n : Nat) => V.int (n : Int)) (fun i σ H' => ∃ v2 : Option V, σ = [some (.ref a), some (.ref N), v2] ∧ KB N H1 H' ∧ H' N = some (.lst (((f.terms.take i).flatMap tnm).map V.str)))
      ⟨none, rfl, KB.refl _ _, eN1⟩ (fun i σ H' _ ⟨_, _, h, e⟩ => (KB.kts eN1 h) _ _ hr3) ?_ ?_⟩
    · rintro i y σ H2 hy ⟨v2, rfl, k2, eN⟩
      rw [List.getElem?_map] at hy
      cases en : f.tspots[i]? with
      | none => rw [en] at hy; cases hy
      | some n =>
        rw [en] at hy
        have ey : y = .int (n : Int) := (Option.some.inj hy).symm
        subst ey
        obtain ⟨z, t, hz, ht, hdz⟩ := hsp i n en
        have kt : KTs K H H2 := s1.kts.trans (KB.kts eN1 k2)
        obtain ⟨ta, pa, ys, rfl, q1, q2, q3⟩ := term_at (dat_stay kt _ _ t.noL hdz)
        have to := over_terms ov t (List.mem_of_getElem? ht)
        refine ⟨_, rfl, .inl ⟨rfl, _, .of eN⟩, _, rfl, _, rfl, a, xs, _, _, rfl, rfl, kt _ _ hq, atI_nat hz, ta, _, _, _, rfl, rfl, q1, atI_nat (j := 1) (v := .ref pa) rfl, pa, rfl, ⟨_, q2⟩, fun C hC => ?_⟩
        have nNC : N ≠ C := ne_of_none eN hC
        refine comp_tup (xs := ys) (fun j σ H' => ∃ v : Option V, σ = [v] ∧ Same H2 H' ∧ H' C = some (.lst (((t.parts.take j).map (·.1)).map V.str)))
          ⟨none, ?sg, Same.new hC, upd_same⟩ (fun j σ H' _ ⟨_, _, s, _⟩ => s.seqT q2) ?_ ?_
        case sg => rfl
        · rintro j y σ H3 hy ⟨v, rfl, s3, eC⟩
          obtain ⟨d, ed, hd⟩ := q3.get hy
          rw [List.getElem?_map] at ed
          cases ep : t.parts[j]? with
          | none => rw [ep] at ed; cases ed
          | some pp =>
            rw [ep] at ed
            have ed' : partDt pp = d := Option.some.inj ed
            subst ed'
            obtain ⟨qa, rfl, hqa⟩ := part_one hd
            refine ⟨_, rfl, qa, _, _, _, rfl, rfl, s3.seqT hqa, atI_nat (j := 0) (v := .str pp.1) rfl, _, eC, ?_, _, rfl, s3.kbn hC KB.write, ?_⟩
            · rw [List.length_map, List.length_map, List.length_take]
              exact Nat.lt_of_le_of_lt (show min j t.parts.length ≤ 3 by have := to.1; omega) (by decide)
            · rw [upd_same, take_snoc ep, List.map_append, List.map_append]; rfl
        rintro σ H3 ⟨v, rfl, s3, eC⟩
        have ly : ys.length = t.parts.length := by rw [q3.length, List.length_map]
        rw [ly, List.take_length] at eC
        have eN3 := s3 _ _ eN
        have hl1 := flat_small (ts := f.terms.take i) fun u hu => over_terms ov u (List.mem_of_mem_take hu)
        have hl2 : (f.terms.take i).length ≤ 2 := by rw [List.length_take]; have := terms_small f; omega
        refine ⟨N, C, _, _, rfl, rfl, eN3, eC, ?_, _, rfl, (k2.trans s3.kb).trans KB.write, ?_⟩
        · rw [List.length_map, List.length_map, List.length_map]
          exact Nat.le_trans (show _ ≤ 20 by have := to.1; omega) (by decide)
        · rw [upd_same, take_snoc ht, List.flatMap_append, List.map_append]
          simp [tnm]
    · rintro σ H2 ⟨v2, rfl, k2, eN⟩
      rw [List.length_map, tspots_len, List.take_length] at eN
      exact ⟨_, rfl, k N H2 hN (s1.kbn hN k2) eN⟩
end
end My
set_option Elab.async false
set_option linter.all false
set_option maxRecDepth 100000
set_option maxHeartbeats 4000000
namespace My
open PySem L2
def natsV (ns : List Nat) : List V := ns.map fun (n : Nat) => V.int (n : Int)
def Say.at : Say → List Nat → Option Say
  | f, [] => Option.some f
  | f, n :: ns => (f.inner[n]?).bind fun g => g.at ns
theorem at_app : ∀ (ns : List Nat) (f g h : Say) (k : Nat), f.at ns = some g → g.inner[k]? = some h → f.at (ns ++ [k]) = some h
  | [], f, g, h, k, e, e2 => by
    have e' : f = g := Option.some.inj e
    subst e'
    show (f.inner[k]?).bind (fun g => g.at []) = some h
    rw [e2]; rfl
  | n :: ns, f, g, h, k, e, e2 => by
    have e' : (f.inner[n]?).bind (fun g => g.at ns) = some g := e
    obtain ⟨u, eu, ea⟩ := Option.bind_eq_some_iff.mp e'
    show (f.inner[n]?).bind (fun g => g.at (ns ++ [k])) = some h
    rw [eu]
    exact at_app ns u g h k ea e2
def Say.size : Say → Nat
  | .no f => f.size + 1 | .and f g => f.size + g.size + 1 | .or f g => f.size + g.size + 1 | .some _ f => f.size + 1 | .each _ f => f.size + 1 | _ => 1
theorem size_inner (f : Say) : (f.inner.map Say.size).sum + 1 = f.size := by cases f <;> simp [Say.inner, Say.size]
theorem size_deep : ∀ f : Say, f.size + 1 ≤ 2 ^ (f.deep + 1)
  | .same _ _ => by simp [Say.size, Say.deep]
  | .less _ _ => by simp [Say.size, Say.deep]
  | .sign _ _ _ => by simp [Say.size, Say.deep]
  | .alike _ _ _ _ => by simp [Say.size, Say.deep]
  | .no f => by
    have := size_deep f
    simp only [Say.size, Say.deep]
    rw [Nat.pow_succ]
    omega
  | .and f g => by
    have h1 := size_deep f
    have h2 := size_deep g
    have a1 := Nat.pow_le_pow_right (n := 2) (by decide) (show f.deep + 1 ≤ max f.deep g.deep + 1 by omega)
    have a2 := Nat.pow_le_pow_right (n := 2) (by decide) (show g.deep + 1 ≤ max f.deep g.deep + 1 by omega)
    simp only [Say.size, Say.deep]
    rw [Nat.pow_succ 2 (max f.deep g.deep + 1)]
    omega
  | .or f g => by
    have h1 := size_deep f
    have h2 := size_deep g
    have a1 := Nat.pow_le_pow_right (n := 2) (by decide) (show f.deep + 1 ≤ max f.deep g.deep + 1 by omega)
    have a2 := Nat.pow_le_pow_right (n := 2) (by decide) (show g.deep + 1 ≤ max f.deep g.deep + 1 by omega)
    simp only [Say.size, Say.deep]
    rw [Nat.pow_succ 2 (max f.deep g.deep + 1)]
    omega
  | .some n f => by
    have := size_deep f
    simp only [Say.size, Say.deep]
    rw [Nat.pow_succ]
    omega
  | .each n f => by
    have := size_deep f
    simp only [Say.size, Say.deep]
    rw [Nat.pow_succ]
    omega
abbrev Ent := List Nat × Say
def kids (ns : List Nat) : Nat → List Say → List Ent
  | _, [] => []
  | k, h :: t => (ns ++ [k], h) :: kids ns (k + 1) t
theorem kids_at (ns : List Nat) : ∀ (l : List Say) (k i : Nat), (kids ns k l)[i]? = (l[i]?).map fun h => (ns ++ [k + i], h)
  | [], k, i => by simp [kids]
  | h :: t, k, 0 => rfl
  | h :: t, k, i + 1 => by
    rw [kids, List.getElem?_cons_succ, List.getElem?_cons_succ, kids_at ns t (k + 1) i, show k + 1 + i = k + (i + 1) by omega]
theorem kids_len (ns : List Nat) : ∀ (l : List Say) (k : Nat), (kids ns k l).length = l.length
  | [], _ => rfl
  | h :: t, k => by rw [kids, List.length_cons, kids_len ns t, List.length_cons]
theorem kids_sum (ns : List Nat) : ∀ (l : List Say) (k : Nat), ((kids ns k l).map fun e => e.2.size).sum = (l.map Say.size).sum
  | [], _ => rfl
  | h :: t, k => by rw [kids, List.map_cons, List.map_cons, List.sum_cons, List.sum_cons, kids_sum ns t]
def PrAt (K : PySem.W.Frag) (H : Hp) (q : Addr) (e : Ent) : Prop := ∃ pl y, H q = some (.tup [.ref pl, y]) ∧ H pl = some (.tup (natsV e.1)) ∧ DatAt K H y e.2.dt
theorem PrAt.keep {K : PySem.W.Frag} {H H' : Hp} {q : Addr} {e : Ent} (h : PrAt K H q e) (k : KTu H H') (ks : KTs K H H') : PrAt K H' q e := by
  obtain ⟨pl, y, h1, h2, h3⟩ := h
  exact ⟨pl, y, k _ _ h1, k _ _ h2, dat_stay ks _ _ e.2.noL h3⟩
abbrev PrsAt (K : PySem.W.Frag) (H : Hp) : List Addr → List Ent → Prop := Paired (PrAt K H)
theorem PrsAt.keep {K : PySem.W.Frag} {H H' : Hp} (k : KTu H H') (ks : KTs K H H') : ∀ {qs : List Addr} {es : List Ent}, PrsAt K H qs es → PrsAt K H' qs es
  | _, _, .nil => .nil
  | _, _, .cons h t => .cons (h.keep k ks) (PrsAt.keep k ks t)
theorem prs_app {K : PySem.W.Frag} {H : Hp} {qs rs : List Addr} {es ds : List Ent} (a : PrsAt K H qs es) (b : PrsAt K H rs ds) : PrsAt K H (qs ++ rs) (es ++ ds) := paired_append a b
theorem prs_get {K : PySem.W.Frag} {H : Hp} : ∀ {qs : List Addr} {es : List Ent} {i : Nat} {q : Addr}, PrsAt K H qs es → qs[i]? = some q → ∃ e, es[i]? = some e ∧ PrAt K H q e
  | _, _, _, _, .nil, h => by simp at h
  | _, _, 0, _, .cons a _, h => by simp at h; subst h; exact ⟨_, rfl, a⟩
  | _, _, i + 1, _, .cons _ t, h => by
    simp only [List.getElem?_cons_succ] at h ⊢
    exact prs_get t h
theorem prs_snoc {K : PySem.W.Frag} {H : Hp} : ∀ {qs : List Addr} {es : List Ent}, PrsAt K H qs es → qs ≠ [] → ∃ qs' q es' e, qs = qs' ++ [q] ∧ es = es' ++ [e] ∧ PrsAt K H qs' es' ∧ PrAt K H q e
  | _, _, .nil, h => absurd rfl h
  | [q], [e], .cons a .nil, _ => ⟨[], q, [], e, rfl, rfl, .nil, a⟩
  | q :: q2 :: qs, e :: e2 :: es, .cons a (.cons b t), _ => by
    obtain ⟨qs', r, es', d, e1, e3, h1, h2⟩ := prs_snoc (.cons b t) (by simp)
    exact ⟨q :: qs', r, e :: es', d, by rw [e1]; rfl, by rw [e3]; rfl, .cons a h1, h2⟩
structure Ord (f : Say) (we fe : List Ent) : Prop where
  here : ∀ e, e ∈ we ∨ e ∈ fe → f.at e.1 = some e.2
  kid : ∀ (i : Nat) (ns : List Nat) (g : Say), fe[i]? = some (ns, g) → ∀ k h, g.inner[k]? = some h → (ns ++ [k], h) ∈ we ∨ ∃ j, i < j ∧ fe[j]? = some (ns ++ [k], h)
  root : ([], f) ∈ we ∨ ([], f) ∈ fe
theorem Ord.step {f : Say} {we fe : List Ent} {ns : List Nat} {g : Say} (o : Ord f (we ++ [(ns, g)]) fe) : Ord f (we ++ kids ns 0 g.inner) (fe ++ [(ns, g)]) where
  here := fun e he => by
    have hg : f.at ns = some g := o.here (ns, g) (.inl (by simp))
    rcases he with he | he
    · rcases List.mem_append.mp he with he | he
      · exact o.here e (.inl (List.mem_append.mpr (.inl he)))
      · obtain ⟨i, hi⟩ := List.getElem?_of_mem he
        rw [kids_at] at hi
        cases eh : g.inner[i]? with
        | none => rw [eh] at hi; cases hi
        | some h =>
          rw [eh] at hi
          have hi' : (ns ++ [0 + i], h) = e := Option.some.inj hi
          rw [← hi', Nat.zero_add]
          exact at_app ns f g h i hg eh
    · rcases List.mem_append.mp he with he | he
      · exact o.here e (.inr he)
      · rw [List.mem_singleton.mp he]; exact hg
  kid := fun i ms u hi k h hk => by
    by_cases lt : i < fe.length
    · rw [List.getElem?_append_left lt] at hi
      rcases o.kid i ms u hi k h hk with z | ⟨j, hj, z⟩
      · rcases List.mem_append.mp z with z | z
        · exact .inl (List.mem_append.mpr (.inl z))
        · refine .inr ⟨fe.length, lt, ?_⟩
          rw [List.getElem?_append_right (Nat.le_refl _), Nat.sub_self, List.mem_singleton.mp z]; rfl
      · have hj2 := (List.getElem?_eq_some_iff.mp z).1
        exact .inr ⟨j, hj, by rw [List.getElem?_append_left hj2]; exact z⟩
    · have hl := (List.getElem?_eq_some_iff.mp hi).1
      rw [List.length_append] at hl
      have hl' : i < fe.length + 1 := hl
      have e : i = fe.length := by omega
      subst e
      rw [List.getElem?_append_right (Nat.le_refl _), Nat.sub_self] at hi
      have hi' : (ns, g) = (ms, u) := Option.some.inj hi
      cases hi'
      refine .inl (List.mem_append.mpr (.inr (List.mem_of_getElem? (i := k) ?_)))
      rw [kids_at, hk, Nat.zero_add]; rfl
  root := by
    rcases o.root with z | z
    · rcases List.mem_append.mp z with z | z
      · exact .inl (List.mem_append.mpr (.inl z))
      · exact .inr (List.mem_append.mpr (.inr z))
    · exact .inr (List.mem_append.mpr (.inl z))
structure Late (f : Say) (es : List Ent) : Prop where
  here : ∀ e ∈ es, f.at e.1 = some e.2
  kid : ∀ (i : Nat) (ns : List Nat) (g : Say), es[i]? = some (ns, g) → ∀ k h, g.inner[k]? = some h → ∃ j, j < i ∧ es[j]? = some (ns ++ [k], h)
  root : ([], f) ∈ es
theorem Ord.late {f : Say} {fe : List Ent} (o : Ord f [] fe) : Late f fe.reverse where
  here := fun e he => o.here e (.inr (List.mem_reverse.mp he))
  kid := fun i ns g hi k h hk => by
    have lt : i < fe.length := by have := (List.getElem?_eq_some_iff.mp hi).1; rwa [List.length_reverse] at this
    rw [List.getElem?_reverse lt] at hi
    rcases o.kid _ ns g hi k h hk with z | ⟨j, hj, z⟩
    · cases z
    · have hj2 := (List.getElem?_eq_some_iff.mp z).1
      refine ⟨fe.length - 1 - j, by omega, ?_⟩
      rw [List.getElem?_reverse (by omega), show fe.length - 1 - (fe.length - 1 - j) = j by omega]
      exact z
  root := by
    rcases o.root with z | z
    · cases z
    · exact List.mem_reverse.mpr z
theorem len_sum : ∀ we : List Ent, we.length ≤ (we.map fun e => e.2.size).sum
  | [] => Nat.le_refl _
  | e :: we => by
    have h1 := len_sum we
    have h2 := size_inner e.2
    rw [List.map_cons, List.sum_cons, List.length_cons]
    omega
theorem at_deep : ∀ (ns : List Nat) (f g : Say), f.at ns = some g → ns.length + g.deep ≤ f.deep
  | [], f, g, e => by
    have e' : f = g := Option.some.inj e
    subst e'
    simp
  | n :: ns, f, g, e => by
    have e' : (f.inner[n]?).bind (fun g => g.at ns) = some g := e
    obtain ⟨u, eu, ea⟩ := Option.bind_eq_some_iff.mp e'
    have h1 := at_deep ns u g ea
    have h2 := inner_deep f u (List.mem_of_getElem? eu)
    rw [List.length_cons]
    omega
theorem ns_small {f g : Say} {ns : List Nat} (h : f.deep ≤ 15) (e : f.at ns = some g) : ns.length ≤ 15 := by
  have := at_deep ns f g e
  omega
theorem prs_rev {K : PySem.W.Frag} {H : Hp} : ∀ {qs : List Addr} {es : List Ent}, PrsAt K H qs es → PrsAt K H qs.reverse es.reverse
  | _, _, .nil => .nil
  | _, _, .cons a t => by
    rw [List.reverse_cons, List.reverse_cons]
    exact prs_app (prs_rev t) (.cons a .nil)
def spOrder (K : PySem.W.Frag) : Sp := fun vs H Q _ => ∃ (x : V) (f : Say), vs = [x] ∧ DatAt K H x f.dt ∧ f.deep ≤ 15 ∧
  ∀ (D : Addr) (qs : List Addr) (es : List Ent) (H' : Hp), H D = none → Same H H' → H' D = some (.lst (qs.map V.ref)) → PrsAt K H' qs es → Late f es → es.length ≤ 100000 → Q (.ref D) H'
theorem refItem {rs : List Addr} {i : Nat} {x : V} (h : (rs.map V.ref)[i]? = some x) : ∃ r, x = .ref r ∧ rs[i]? = some r := by
  rw [List.getElem?_map] at h
  cases e : rs[i]? with
  | none => rw [e] at h; cases h
  | some r => rw [e] at h; exact ⟨r, (Option.some.inj h).symm, rfl⟩
section
variable {P : Program} {w : World} {K : PySem.W.Frag} {mg : Str → Option Value} {base : Heap}
theorem sc_parts_in_order : FnScope ["saying", "waiting", "found", "pair", "number", "part"] ["saying"] (defScope s_parts_in_order) := ⟨rfl, rfl, rfl, by decide +kernel, rfl, by decide +kernel, by decide +kernel⟩
theorem ok_parts_in_order {a : Adr} {b : PAdr} (T : Txt K mg a) (U : TopsP K w.params mg b) : FnOk P w K mg base CX0 2 a.f_parts_in_order a.fd_parts_in_order ["saying"] (spOrder K) := by
  have G_inner_parts : FnOk P w K mg base CX0 1 a.f_inner_parts a.fd_inner_parts ["saying"] (spInner K) := ok_inner_parts T U
  refine T.F_parts_in_order.ok sc_parts_in_order (fun vs H Q E h => ?_) (fun cdv A outer s H vs Q E hr h => ?_)
  · obtain ⟨x, f, rfl, _⟩ := h
    rfl
  · obtain ⟨x, f, rfl, hf, hdp, k⟩ := h
    have hr_inner_parts : Room 1 _ := hr
    refine ⟨_, (pss_cons (ps_set (i := 1) sc_parts_in_order.nd rfl (Or.inl rfl) (pe_lst (pa_cons (pe_tup (pa_cons (pe_tup pa_nil) (pa_cons (pv 0) pa_nil))) pa_nil)))
    (pss_cons (ps_set (i := 2) sc_parts_in_order.nd rfl (Or.inl rfl) (pe_lst pa_nil))
    (pss_cons (ps_while PassesOwn.never (pt_truth (pv 1) (fun _ => rfl))
      (pss_cons (ps_set (i := 3) sc_parts_in_order.nd rfl (Or.inl rfl) (pe_bm0 PySem.F.plainAttrs_list PySem.F.slot_list_pop PySem.F.type_list_pop mt_pop (pv 1)))
      (pss_cons (ps_expr (pe_bm PySem.F.plainAttrs_list PySem.F.slot_list_append PySem.F.type_list_append mt_append (pv 2) (pa_cons (pv 3) pa_nil)))
      (pss_one (ps_for PassesOwn.never rfl (pi_enum rfl T.z_enumerate (pa_cons (pe_call G_inner_parts hr_inner_parts rfl T.m_inner_parts T.k_inner_parts T.b_inner_parts .nil pass0 (pa_cons (pe_ix (ix_tupK K) (pv 3) pe_int (fun _ _ => rfl)) pa_nil)) pa_nil)) (pg_tup rfl (pgs_cons (pg_name (i := 4) sc_parts_in_order.nd rfl (Or.inl rfl)) (pgs_cons (pg_name (i := 5) sc_parts_in_order.nd rfl (Or.inl rfl)) pgs_nil)))
        (pss_one (ps_expr (pe_bm PySem.F.plainAttrs_list PySem.F.slot_list_append PySem.F.type_list_append mt_append (pv 1) (pa_cons (pe_tup (pa_cons (pe_op (op_catNK K) (pe_ix (ix_tupK K) (pv 3) pe_int (fun _ _ => rfl)) (pe_tup (pa_cons (pv 4) pa_nil))) (pa_cons (pv 5) pa_nil))) pa_nil)))))))))
    (pss_one (ps_ret (pe_listrev K rfl rfl T.z_list rfl T.z_reversed (pa_cons (pv 2) pa_nil))))))), ?_⟩
    have fsz : f.size ≤ 70000 := by
      have h1 := size_deep f
      have h2 := Nat.pow_le_pow_right (n := 2) (by decide) (show f.deep + 1 ≤ 16 by omega)
      have h3 : (2 : Nat) ^ 16 = 65536 := by decide
      omega
    refine ⟨by decide, fun e0 he0 => ⟨_, rfl, by show 2 ≤ sizeLine; decide, fun q0 hq0 => ⟨by show 1 ≤ sizeLine; decide, fun Wt hWt => ?_⟩⟩⟩
    have s0 := Same.new (o := .tup []) he0
    have s1 := Same.new (o := .tup [.ref e0, x]) hq0
    have s2 := Same.new (o := .lst [.ref q0]) hWt
    refine ⟨by decide, fun Fo hFo => ?_⟩
    have s3 := Same.new (o := .lst []) hFo
    have eW := s3 _ _ (upd_same (H := upd (upd H e0 (.tup [])) q0 (.tup [.ref e0, x])) (a := Wt) (o := .lst [.ref q0]))
    have eF : (upd (upd (upd (upd H e0 (.tup [])) q0 (.tup [.ref e0, x])) Wt (.lst [.ref q0])) Fo (.lst [])) Fo = some (.lst []) := upd_same
    have pr : PrAt K (upd (upd (upd (upd H e0 (.tup [])) q0 (.tup [.ref e0, x])) Wt (.lst [.ref q0])) Fo (.lst [])) q0 ([], f) :=
      ⟨e0, x, s3 _ _ (s2 _ _ upd_same), s3 _ _ (s2 _ _ (s1 _ _ upd_same)), dat_stay (((s0.trans s1).trans s2).trans s3).kts _ _ f.noL hf⟩
    have sA := ((s0.trans s1).trans s2).trans s3
    have nWF : Wt ≠ Fo := ne_of_none upd_same hFo
    have hW0 : H Wt = none := (s0.trans s1).free hWt
    have hF0 : H Fo = none := ((s0.trans s1).trans s2).free hFo
    generalize upd (upd (upd (upd H e0 (.tup [])) q0 (.tup [.ref e0, x])) Wt (.lst [.ref q0])) Fo (.lst []) = H1 at eW eF pr sA ⊢
    refine ⟨fun m σ H' => ∃ (ws fs : List Addr) (we fe : List Ent) (v3 v4 v5 : Option V), σ = [some x, some (.ref Wt), some (.ref Fo), v3, v4, v5] ∧ Same H H' ∧ H' Wt = some (.lst (ws.map V.ref)) ∧ H' Fo = some (.lst (fs.map V.ref)) ∧ PrsAt K H' ws we ∧ PrsAt K H' fs fe ∧ Ord f we fe ∧
        m = (we.map fun e => e.2.size).sum ∧ fe.length + (we.map fun e => e.2.size).sum ≤ 70000,
      ⟨_, [q0], [], [([], f)], [], none, none, none, rfl, sA, eW, eF, .cons pr .nil, .nil, ⟨fun e he => ?_, fun i ns g z => by simp at z, .inl (by simp)⟩, rfl, by simpa using fsz⟩, ?_⟩
    · have e' : e = ([], f) := by simpa using he
      rw [e']; rfl
    rintro m σ H2 ⟨ws, fs, we, fe, v3, v4, v5, rfl, s2', eW2, eF2, pw, pf, od, rfl, hsz⟩
    refine ⟨_, rfl, !(ws.map V.ref).isEmpty, .inl ⟨_, .of eW2, rfl⟩, ?_⟩
    refine ite2 (fun hne => ?_) (fun hem => ?_)
    · have wne : ws ≠ [] := fun z => by subst z; simp at hne
      obtain ⟨ws', q, we', ⟨ns, g⟩, rfl, rfl, pw', pq⟩ := prs_snoc pw wne
      refine ⟨fun σ' H' => ∃ (ws fs : List Addr) (we fe : List Ent) (v3 v4 v5 : Option V), σ' = [some x, some (.ref Wt), some (.ref Fo), v3, v4, v5] ∧ Same H H' ∧ H' Wt = some (.lst (ws.map V.ref)) ∧ H' Fo = some (.lst (fs.map V.ref)) ∧ PrsAt K H' ws we ∧ PrsAt K H' fs fe ∧ Ord f we fe ∧
          (we.map fun e => e.2.size).sum < ((we' ++ [(ns, g)]).map fun e => e.2.size).sum ∧ fe.length + (we.map fun e => e.2.size).sum ≤ 70000,
        fun σ' H' ⟨ws, fs, we, fe, v3, v4, v5, a1, a2, a3, a4, a5, a6, a7, a8, a9⟩ => ⟨_, a8, ws, fs, we, fe, v3, v4, v5, a1, a2, a3, a4, a5, a6, a7, rfl, a9⟩, ?_⟩
      refine ⟨_, rfl, .inl ⟨rfl, _, .of eW2⟩, Wt, _, .ref q, rfl, rfl, eW2, by simp, ?_⟩
      have dl : ((ws' ++ [q]).map V.ref).dropLast = ws'.map V.ref := by rw [List.map_append]; simp
      rw [dl]
      have kW := KB.write (d := Wt) (H := H2) (o := .lst (ws'.map V.ref))
      have ktW := KTu.lst (o := .lst (ws'.map V.ref)) eW2
      have ksW := KB.kts (K := K) eW2 kW
      have eW3 : (upd H2 Wt (.lst (ws'.map V.ref))) Wt = some (.lst (ws'.map V.ref)) := upd_same
      have eF3 := kW _ _ eF2 nWF.symm
      have pw3 := PrsAt.keep ktW ksW pw'
      have pf3 := PrsAt.keep ktW ksW pf
      have pq3 := pq.keep ktW ksW
      have sH3 := s2'.kbn hW0 kW
      generalize upd H2 Wt (.lst (ws'.map V.ref)) = H3 at eW3 eF3 pw3 pf3 pq3 sH3 ⊢
      have lfe : fs.length = fe.length := Paired.length pf
      refine ⟨_, rfl, .inl ⟨rfl, _, .of eF3⟩, _, rfl, Fo, _, _, rfl, rfl, eF3, ?_, ?_⟩
      · rw [List.length_map]; exact Nat.lt_of_le_of_lt (show fs.length ≤ 70000 by omega) (by decide)
      have kF := KB.write (d := Fo) (H := H3) (o := .lst (fs.map V.ref ++ [.ref q]))
      have ktF := KTu.lst (o := .lst (fs.map V.ref ++ [.ref q])) eF3
      have ksF := KB.kts (K := K) eF3 kF
      have eF4 : (upd H3 Fo (.lst (fs.map V.ref ++ [.ref q]))) Fo = some (.lst ((fs ++ [q]).map V.ref)) := by rw [upd_same, List.map_append]; rfl
      have eW4 := kF _ _ eW3 nWF
      have pw4 := PrsAt.keep ktF ksF pw3
      have pf4 := PrsAt.keep ktF ksF pf3
      have pq4 := pq3.keep ktF ksF
      have sH4 := sH3.kbn hF0 kF
      generalize upd H3 Fo (.lst (fs.map V.ref ++ [.ref q])) = H4 at eF4 eW4 pw4 pf4 pq4 sH4 ⊢
      obtain ⟨pl, y, eq, epl, dy⟩ := id pq4
      refine ⟨_, rfl, q, _, _, _, rfl, rfl, .of eq, atI_nat (j := 1) (v := y) rfl, y, g, rfl, dy, fun D xs H5 hD s5 eD dts => ?_⟩
      have eW5 := s5 _ _ eW4
      have nDW : D ≠ Wt := (ne_of_none eW4 hD).symm
      have lx : xs.length = g.inner.length := by rw [dts.length, List.length_map]
      have gin := inner_small g
      refine ⟨D, rfl, ⟨_, .of eD⟩, for_enum (xs := xs) (fun i σ H' => ∃ (rs : List Addr) (v4 v5 : Option V), σ = [some x, some (.ref Wt), some (.ref Fo), some (.ref q), v4, v5] ∧ KB Wt H5 H' ∧ H' Wt = some (.lst ((ws' ++ rs).map V.ref)) ∧ PrsAt K H' rs ((kids ns 0 g.inner).take i))
        ⟨[], _, _, rfl, KB.refl _ _, by rw [List.append_nil]; exact eW5, .nil⟩ (fun i σ H' _ ⟨_, _, _, _, h, _⟩ => .of (h _ _ eD nDW)) ?_ ?_⟩
      · rintro i z pp σ H6 hz ⟨rs, v4, v5, rfl, k6, eW6, pr6⟩ hpp
        have sp := Same.new (o := .tup [.int i, z]) hpp
        refine ⟨pp, _, rfl, .of upd_same, rfl, _, _, rfl, _, _, rfl, rfl, ?_⟩
        obtain ⟨dz, edz, hdz⟩ := dts.get hz
        rw [List.getElem?_map] at edz
        cases eh : g.inner[i]? with
        | none => rw [eh] at edz; cases edz
        | some h =>
          rw [eh] at edz
          have edz' : h.dt = dz := Option.some.inj edz
          subst edz'
          have kt6 : KTu H5 H6 := KTu.kb eW5 k6
          have ks6 : KTs K H5 H6 := KB.kts eW5 k6
          have epl6 : H6 pl = some (.tup (natsV ns)) := kt6 _ _ (s5 _ _ epl)
          have eq6 : H6 q = some (.tup [.ref pl, y]) := kt6 _ _ (s5 _ _ eq)
          have eW7 := sp _ _ eW6
          have hdz7 := dat_stay (ks6.trans sp.kts) _ _ h.noL hdz
          have pr7 := PrsAt.keep sp.kt sp.kts pr6
          have epl7 := sp _ _ epl6
          have eq7 := sp _ _ eq6
          have k7 : KB Wt H5 (upd H6 pp (.tup [.int i, z])) := k6.trans sp.kb
          generalize upd H6 pp (.tup [.int i, z]) = H7 at eW7 hdz7 pr7 epl7 eq7 k7 ⊢
          refine ⟨_, rfl, .inl ⟨rfl, _, .of eW7⟩, _, rfl, q, _, _, _, rfl, rfl, .of eq7, atI_nat (j := 0) (v := .ref pl) rfl, _, rfl, by show 1 ≤ sizeLine; decide, fun oo hoo => ?_⟩
          have so := Same.new (o := .tup [.int (i : Int)]) hoo
          have eoo : (upd H7 oo (.tup [.int (i : Int)])) oo = some (.tup [.int (i : Int)]) := upd_same
          have done : ∀ (pn : Addr) (H8 : Hp), Same H7 H8 → H8 pn = some (.tup (natsV (ns ++ [i]))) → ∀ pr2, H8 pr2 = none →
              H8 Wt = some (.lst ((ws' ++ rs).map V.ref)) ∧ (∃ (rs' : List Addr) (v4 v5 : Option V), [some x, some (.ref Wt), some (.ref Fo), some (.ref q), some (.int (i : Int)), some z] = [some x, some (.ref Wt), some (.ref Fo), some (.ref q), v4, v5] ∧
                KB Wt H5 (upd (upd H8 pr2 (.tup [.ref pn, z])) Wt (.lst ((ws' ++ rs).map V.ref ++ [.ref pr2]))) ∧ (upd (upd H8 pr2 (.tup [.ref pn, z])) Wt (.lst ((ws' ++ rs).map V.ref ++ [.ref pr2]))) Wt = some (.lst ((ws' ++ rs').map V.ref)) ∧
                PrsAt K (upd (upd H8 pr2 (.tup [.ref pn, z])) Wt (.lst ((ws' ++ rs).map V.ref ++ [.ref pr2]))) rs' ((kids ns 0 g.inner).take (i + 1))) := fun pn H8 s8 epn pr2 hpr2 => by
            have eW8 := s8 _ _ eW7
            have s9 := Same.new (o := .tup [.ref pn, z]) hpr2
            have eW9 := s9 _ _ eW8
            have kt9 := KTu.lst (o := .lst ((ws' ++ rs).map V.ref ++ [.ref pr2])) eW9
            have ks9 : KTs K (upd H8 pr2 (.tup [.ref pn, z])) (upd (upd H8 pr2 (.tup [.ref pn, z])) Wt (.lst ((ws' ++ rs).map V.ref ++ [.ref pr2]))) := KB.kts eW9 KB.write
            refine ⟨eW8, rs ++ [pr2], _, _, rfl, ((k7.trans s8.kb).trans s9.kb).trans KB.write, ?_, ?_⟩
            · rw [upd_same]; simp
            · have ek : (kids ns 0 g.inner).take (i + 1) = (kids ns 0 g.inner).take i ++ [(ns ++ [i], h)] := take_snoc (by rw [kids_at, eh, Nat.zero_add]; rfl)
              rw [ek]
              refine prs_app (PrsAt.keep ((s8.kt.trans s9.kt).trans kt9) ((s8.kts.trans s9.kts).trans ks9) pr7) (.cons ⟨pn, z, kt9 _ _ upd_same, kt9 _ _ (s9 _ _ epn), dat_stay ((s8.kts.trans s9.kts).trans ks9) _ _ h.noL hdz7⟩ .nil)
          have lr : rs.length ≤ 2 := by rw [Paired.length pr7, List.length_take, kids_len]; omega
          have lw : ((ws' ++ rs).map V.ref).length < sizeLine := by
            rw [List.length_map, List.length_append]
            have lw' : ws'.length = we'.length := Paired.length pw'
            have : we'.length ≤ (we'.map fun e => e.2.size).sum := len_sum we'
            rw [List.map_append, List.sum_append] at hsz
            exact Nat.lt_of_le_of_lt (show _ ≤ 80000 by omega) (by decide)
          refine ⟨pl, oo, natsV ns, [.int (i : Int)], rfl, rfl, .of (so _ _ epl7), .of eoo, by simp, ?_, fun hn => ?_, fun hn pn hpn => ?_⟩
          · have : ns.length ≤ 15 := ns_small hdp (od.here (ns, g) (.inl (by simp)))
            show (natsV ns).length + 1 ≤ sizeLine
            rw [natsV, List.length_map]
            exact Nat.le_trans (show _ ≤ 100 by omega) (by decide)
          · have hn' : ns = [] := by cases ns with | nil => rfl | cons _ _ => cases hn
            subst hn'
            refine ⟨_, rfl, by show 2 ≤ sizeLine; decide, fun pr2 hpr2 => ?_⟩
            obtain ⟨d1, d2⟩ := done oo _ so eoo pr2 hpr2
            exact ⟨Wt, _, _, rfl, rfl, (Same.new hpr2) _ _ d1, lw, d2⟩
          · have spn := Same.new (o := .tup (natsV ns ++ [.int (i : Int)])) hpn
            refine ⟨_, rfl, by show 2 ≤ sizeLine; decide, fun pr2 hpr2 => ?_⟩
            obtain ⟨d1, d2⟩ := done pn _ (so.trans spn) (by rw [upd_same, natsV, natsV, List.map_append]; rfl) pr2 hpr2
            exact ⟨Wt, _, _, rfl, rfl, (Same.new hpr2) _ _ d1, lw, d2⟩
      · rintro σ H6 ⟨rs, v4, v5, rfl, k6, eW6, pr6⟩
        rw [lx, List.take_of_length_le (by rw [kids_len]; exact Nat.le_refl _)] at pr6
        have kt6 : KTu H4 H6 := s5.kt.trans (KTu.kb eW5 k6)
        have ks6 : KTs K H4 H6 := s5.kts.trans (KB.kts eW5 k6)
        have nFW := nWF.symm
        have sz := kids_sum ns g.inner 0
        have sg := size_inner g
        refine ⟨ws' ++ rs, fs ++ [q], we' ++ kids ns 0 g.inner, fe ++ [(ns, g)], _, _, _, rfl, (sH4.trans s5).kbn hW0 k6, eW6, k6 _ _ (s5 _ _ eF4) nFW, prs_app (PrsAt.keep kt6 ks6 pw4) pr6, prs_app (PrsAt.keep kt6 ks6 pf4) (.cons (pq4.keep kt6 ks6) .nil), od.step, ?_, ?_⟩
        · rw [List.map_append, List.map_append, List.sum_append, List.sum_append, sz]
          show _ < _ + (g.size + 0)
          omega
        · rw [List.map_append, List.sum_append, sz, List.length_append]
          rw [List.map_append, List.sum_append] at hsz
          have hsz' : fe.length + ((we'.map fun e => e.2.size).sum + (g.size + 0)) ≤ 70000 := hsz
          show fe.length + 1 + _ ≤ 70000
          omega
    · have wem : ws = [] := by
        cases ws with
        | nil => rfl
        | cons q qs => exact absurd rfl hem
      subst wem
      have wee : we = [] := by cases pw; rfl
      subst wee
      refine ⟨_, rfl, Fo, _, rfl, .of eF2, fun l hl => ?_⟩
      have sl := Same.new (o := .lst (fs.map V.ref).reverse) hl
      refine k l fs.reverse fe.reverse _ (s2'.free hl) (s2'.trans sl) (by rw [upd_same, List.map_reverse]) ?_ od.late (by rw [List.length_reverse]; omega)
      exact prs_rev (PrsAt.keep sl.kt sl.kts pf)
end
end My
set_option Elab.async false
set_option linter.all false
set_option maxRecDepth 100000
set_option maxHeartbeats 4000000
namespace My
open PySem L2
theorem KB.ktsD {K : PySem.W.Frag} {d : Addr} {kvs : List (List Key × V)} {H H' : Hp} (h : H d = some (.dT kvs)) (k : KB d H H') : KTs K H H' := fun a ys e => by
  rcases e with (e | ⟨o, e⟩) | e
  · exact .inl (.inl (k _ _ e (ne_of e h (fun z => nomatch z))))
  · exact .inl (.inr ⟨o, k _ _ e (ne_of e h (fun z => nomatch z))⟩)
  · exact .inr e
theorem KTu.dT {d : Addr} {kvs : List (List Key × V)} {H H' : Hp} (h : H d = some (.dT kvs)) (k : KB d H H') : KTu H H' := fun b ys e => k b _ e (ne_of e h (fun z => nomatch z))
def TupsS (H : Hp) : List Addr → List (List Str) → Prop := Paired fun r ks => H r = some (.tup (ks.map V.str))
theorem TupsS.keep {H H' : Hp} (k : KTu H H') : ∀ {rs : List Addr} {kss : List (List Str)}, TupsS H rs kss → TupsS H' rs kss
  | _, _, .nil => .nil
  | _, _, .cons a t => .cons (k _ _ a) (TupsS.keep k t)
theorem TupsS.get {H : Hp} : ∀ {rs : List Addr} {kss : List (List Str)} {i : Nat} {r : Addr}, TupsS H rs kss → rs[i]? = some r → ∃ ks, kss[i]? = some ks ∧ H r = some (.tup (ks.map V.str))
  | _, _, _, _, .nil, h => by simp at h
  | _, _, 0, _, .cons a _, h => by simp at h; subst h; exact ⟨_, rfl, a⟩
  | _, _, i + 1, _, .cons _ t, h => by
    simp only [List.getElem?_cons_succ] at h ⊢
    exact TupsS.get t h
theorem word_binds (f : Say) : inV (V.str f.word) [V.str "some", V.str "each"] = f.binds.isSome := by
  have e : inV (V.str f.word) [V.str "some", V.str "each"] = decide (f.word ∈ [("some" : Str), "each"]) := inV_strs f.word [("some" : Str), "each"]
  rw [e]
  have w1 : decide (("same" : Str) ∈ [("some" : Str), "each"]) = false := by decide +kernel
  have w2 : decide (("less" : Str) ∈ [("some" : Str), "each"]) = false := by decide +kernel
  have w3 : decide (("sign" : Str) ∈ [("some" : Str), "each"]) = false := by decide +kernel
  have w4 : decide (("alike" : Str) ∈ [("some" : Str), "each"]) = false := by decide +kernel
  have w5 : decide (("not" : Str) ∈ [("some" : Str), "each"]) = false := by decide +kernel
  have w6 : decide (("and" : Str) ∈ [("some" : Str), "each"]) = false := by decide +kernel
  have w7 : decide (("or" : Str) ∈ [("some" : Str), "each"]) = false := by decide +kernel
  have w8 : decide (("some" : Str) ∈ [("some" : Str), "each"]) = true := by decide +kernel
  have w9 : decide (("each" : Str) ∈ [("some" : Str), "each"]) = true := by decide +kernel
  cases f with
  | same t u => exact w1
  | less t u => exact w2
  | sign a t s => exact w3
  | alike a t c u => exact w4
  | no f => exact w5
  | and f g => exact w6
  | or f g => exact w7
  | some n f => exact w8
  | each n f => exact w9
theorem flat_len {N : Nat} : ∀ {kss : List (List Str)}, (∀ ks ∈ kss, ks.length ≤ N) → kss.flatten.length ≤ N * kss.length
  | [], _ => Nat.zero_le _
  | ks :: kss, h => by
    rw [List.flatten_cons, List.length_append, List.length_cons]
    have h1 := h ks List.mem_cons_self
    have h2 := flat_len (kss := kss) fun x hx => h x (List.mem_cons_of_mem _ hx)
    rw [Nat.mul_succ]
    omega
def spOver (K : PySem.W.Frag) : Sp := fun vs H Q _ => ∃ (x : V) (f : Say) (ss : List Str) (I : Addr) (rs : List Addr) (kss : List (List Str)), vs = [x, .ref I] ∧ DatAt K H x f.dt ∧ f.Over ss ∧ ss.length ≤ 10 ∧ H I = some (.lst (rs.map V.ref)) ∧ TupsS H rs kss ∧ kss.length = f.inner.length ∧
  (∀ (j : Nat) (ks : List Str) (g : Say), kss[j]? = some ks → f.inner[j]? = some g → IsFree ks g) ∧ ∀ (D : Addr) (ks : List Str) (H' : Hp), H D = none → Same H H' → H' D = some (.tup (ks.map V.str)) → IsFree ks f → Q (.ref D) H'
section
variable {P : Program} {w : World} {K : PySem.W.Frag} {mg : Str → Option Value} {base : Heap}
theorem sc_names_over : FnScope ["saying", "inner", "names", "some"] ["saying", "inner"] (defScope s_names_over) := ⟨rfl, rfl, rfl, by decide +kernel, rfl, by decide +kernel, by decide +kernel⟩
theorem ok_names_over {a : Adr} {b : TAdr} (T : Txt K mg a) (Y : TopsT K w.params mg b) : FnOk P w K mg base CX0 2 a.f_names_over a.fd_names_over ["saying", "inner"] (spOver K) := by
  have G_term_names : FnOk P w K mg base CX0 1 a.f_term_names a.fd_term_names ["saying"] (spTermNames K) := ok_term_names T Y
  refine T.F_names_over.ok sc_names_over (fun vs H Q E h => ?_) (fun cdv A outer s H vs Q E hr h => ?_)
  · obtain ⟨x, f, ss, I, rs, kss, rfl, _⟩ := h
    rfl
  · obtain ⟨x, f, ss, I, rs, kss, rfl, hf, ov, hss, eI, tp, lk, fr, k⟩ := h
    have hr_term_names : Room 1 _ := hr
    obtain ⟨a, xs, rfl, hq, h0, _, hbd⟩ := say_terms f hf
    refine ⟨_, (pss_cons (ps_set (i := 2) sc_names_over.nd rfl (Or.inl rfl) (pe_call G_term_names hr_term_names rfl T.m_term_names T.k_term_names T.b_term_names .nil pass0 (pa_cons (pv 0) pa_nil)))
    (pss_cons (ps_for PassesOwn.never rfl (pi_list (pv 1)) (pg_name (i := 3) sc_names_over.nd rfl (Or.inl rfl))
      (pss_one (ps_expr (pe_bm PySem.F.plainAttrs_list PySem.F.slot_list_extend PySem.F.type_list_extend (mt_extendT K) (pv 2) (pa_cons (pv 3) pa_nil)))))
    (pss_cons (ps_if (pt_cmpR (op_inK K) (pe_ix (ix_tupK K) (pv 0) pe_int (fun _ _ => rfl)) (pe_tup (pa_cons pe_str (pa_cons pe_str pa_nil))) (by with_unfolding_all rfl))
      (pss_one (ps_setComp (i := 2) (CompScope.mk' (esc := defScope s_names_over) (N := ["saying", "inner", "names", "some"]) (own := ["name"]) (frn := ["saying"]) (frj := [0]) rfl rfl (by decide +kernel)) rfl (pi_list (pv 2)) (fun _ _ _ _ => (pg_name (i := 0) (show List.Nodup (["name", "saying"] : List Str) by decide +kernel) rfl (Or.inl rfl))) (fun _ _ _ _ => (pifs_one (pt_cmpR op_ne (pv 0) (pe_ix (ix_tupK K) (pv 1) pe_int (fun _ _ => rfl)) (nomark _)))) (fun _ _ _ _ => (pv 0)) sc_names_over.nd rfl rfl))
      pss_nil)
    (pss_one (ps_ret (pe_callTy (call_tupleK K) (by rfl) T.z_tuple bt_tuple (pa_cons (pe_callB (call_sortSet rfl) (by rfl) T.z_sorted bt_sorted (pa_cons (pe_callTy (call_setT rfl) (by rfl) T.z_set bt_set (pa_cons (pv 2) pa_nil)) pa_nil)) pa_nil))))))), ?_⟩
    refine ⟨_, rfl, _, f, ss, rfl, hf, ov, fun N H1 hN s1 eN => ?_⟩
    have nIN : I ≠ N := ne_of_none eI hN
    have lr : rs.length = kss.length := Paired.length tp
    have li := inner_small f
    have lt6 := tnames_small ov
    have kl : ∀ ks ∈ kss, ks.length ≤ 10 := fun ks hks => by
      obtain ⟨j, hj⟩ := List.getElem?_of_mem hks
      have hl : j < f.inner.length := by rw [← lk]; exact (List.getElem?_eq_some_iff.mp hj).1
      have := (fr j ks _ hj (List.getElem?_eq_getElem hl)).len (over_inner ov _ (List.getElem_mem hl))
      omega
    refine ⟨_, rfl, I, rfl, ⟨_, .of (s1 _ _ eI)⟩, for_list (xs := rs.map V.ref) (fun i σ H' => ∃ v3 : Option V, σ = [some (.ref a), some (.ref I), some (.ref N), v3] ∧ KB N H1 H' ∧ H' N = some (.lst ((f.tnames ++ (kss.take i).flatten).map V.str)))
      ⟨none, rfl, KB.refl _ _, by rw [List.take_zero, List.flatten_nil, List.append_nil]; exact eN⟩ (fun i σ H' _ ⟨_, _, h, _⟩ => .of (h _ _ (s1 _ _ eI) nIN)) ?_ ?_⟩
    · rintro i y σ H2 hy ⟨v3, rfl, k2, eN2⟩
      obtain ⟨r, rfl, hr'⟩ := refItem hy
      obtain ⟨ks, eks, er⟩ := TupsS.get tp hr'
      have kt : KTu H1 H2 := KTu.kb eN k2
      have er2 := kt _ _ (s1 _ _ er)
      have l1 := flat_len (N := 10) (kss := kss.take i) fun z hz => kl z (List.mem_of_mem_take hz)
      have l2 : (kss.take i).length ≤ 2 := by rw [List.length_take]; omega
      have l3 := kl ks (List.mem_of_getElem? eks)
      refine ⟨_, rfl, .inl ⟨rfl, _, .of eN2⟩, _, rfl, N, r, _, _, rfl, rfl, eN2, .of er2, ?_, _, rfl, k2.trans KB.write, ?_⟩
      · rw [List.length_map, List.length_map, List.length_append]
        exact Nat.le_trans (show _ ≤ 100 by omega) (by decide)
      · rw [upd_same, take_snoc eks, List.flatten_append, ← List.append_assoc, List.map_append]
        simp
    rintro σ H2 ⟨v3, rfl, k2, eN2⟩
    rw [List.length_map, lr, List.take_length] at eN2
    have s2 : Same H H2 := s1.kbn hN k2
    have l1 := flat_len kl
    have mem0 : ∀ y, y ∈ f.tnames ++ kss.flatten ↔ (y ∈ f.tnames ∨ ∃ g ∈ f.inner, g.Free y) := fun y => by
      rw [List.mem_append, List.mem_flatten]
      constructor
      · rintro (z | ⟨ks, hks, hy⟩)
        · exact .inl z
        · obtain ⟨j, hj⟩ := List.getElem?_of_mem hks
          have hl : j < f.inner.length := by rw [← lk]; exact (List.getElem?_eq_some_iff.mp hj).1
          exact .inr ⟨_, List.getElem_mem hl, ((fr j ks _ hj (List.getElem?_eq_getElem hl)).mem y).mp hy⟩
      · rintro (z | ⟨g, hg, hy⟩)
        · exact .inl z
        · obtain ⟨j, hj⟩ := List.getElem?_of_mem hg
          have hl : j < kss.length := by rw [lk]; exact (List.getElem?_eq_some_iff.mp hj).1
          exact .inr ⟨_, List.getElem_mem hl, ((fr j _ g (List.getElem?_eq_getElem hl) hj).mem y).mpr hy⟩
    have len0 : (f.tnames ++ kss.flatten).length ≤ 40 := by rw [List.length_append]; omega
    generalize f.tnames ++ kss.flatten = ls0 at eN2 mem0 len0
    dsimp only [gName]
    refine seq_rest (t := tIfS _ _ _) (u := tRet _) (fun σ H' => ∃ (L : Addr) (ls : List Str) (v3 : Option V), σ = [some (.ref a), some (.ref I), some (.ref L), v3] ∧ Same H H' ∧ H' L = some (.lst (ls.map V.str)) ∧ (∀ y, y ∈ ls ↔ f.Free y) ∧ ls.length ≤ 40) ?re (fun rest => ?ifp)
    case re =>
      rintro σ H3 ⟨L, ls, v3, rfl, s3, eL, mem, ll⟩
      refine ⟨_, rfl, L, ls, rfl, .of eL, Nat.lt_of_le_of_lt (show ls.length + 1 ≤ 41 by omega) (by decide), fun p ks hp nd mk lk2 => ?_⟩
      have kin : ∀ y, y ∈ ks ↔ f.Free y := fun y => (mk y).trans (mem y)
      have l10 : ks.length ≤ ss.length := nodup_len nd fun y hy => free_in ov ((kin y).mp hy)
      have sp := Same.new (o := SetO P w p ks) hp
      refine ⟨p, ks, rfl, upd_same, by omega, fun p2 zs hp2 perm srt => ?_⟩
      have sp2 := Same.new (o := .lst (zs.map V.str)) hp2
      refine ⟨p2, _, rfl, .inl ⟨.of upd_same, fun D hD => ?_⟩⟩
      have sD := Same.new (o := .tup (zs.map V.str)) hD
      exact k D zs _ ((s3.trans (sp.trans sp2)).free hD) (s3.trans ((sp.trans sp2).trans sD)) upd_same ⟨srt, perm.nodup_iff.mpr nd, fun y => perm.mem_iff.trans (kin y)⟩
    case ifp =>
      refine ⟨_, rfl, a, xs, 0, .str f.word, rfl, rfl, s2.seqT hq, atI_nat (j := 0) h0, by show 2 ≤ sizeLine; decide, fun Z hZ => ⟨Z, _, rfl, .inr (.of upd_same), rfl, rfl, _, rfl, ?_⟩⟩
      have sZ := Same.new (o := .tup [.str "some", .str "each"]) hZ
      have s3 := s2.trans sZ
      have eN3 := sZ _ _ eN2
      generalize upd H2 Z (.tup [.str "some", .str "each"]) = H3 at s3 eN3 ⊢
      have ew : (if false = true then !inV (V.str f.word) [V.str "some", V.str "each"] else inV (V.str f.word) [V.str "some", V.str "each"]) = f.binds.isSome := by rw [if_neg (by decide), word_binds]
      rw [ew]
      cases eb : f.binds with
      | none =>
        refine iteF (rest _ _ ⟨N, ls0, _, rfl, s3, eN3, fun y => ?_, len0⟩)
        rw [mem0 y, free_iff, eb]
        simp
      | some n =>
        refine iteT ?_
        have at1 := hbd n eb
        refine ⟨_, rfl, N, rfl, ⟨_, .of eN3⟩, fun C hC => ?_⟩
        refine comp_list (xs := ls0.map V.str) (fun j σ H' => ∃ v : Option V, σ = [v, some (.ref a)] ∧ Same H3 H' ∧ H' C = some (.lst (((ls0.take j).filter fun y => !decide (y = n)).map V.str)))
          ⟨none, ?sg, Same.new hC, upd_same⟩ (fun j σ H' _ ⟨_, _, s, _⟩ => .of (s _ _ eN3)) ?_ ?_
        case sg => rfl
        · rintro j y σ H4 hy ⟨v, rfl, s4, eC⟩
          obtain ⟨z, rfl, ez⟩ := strItem hy
          have ed : decide (V.str z = V.str n) = decide (z = n) := decide_eq_decide.mpr ⟨fun h => by injection h, fun h => by rw [h]⟩
          refine ⟨_, rfl, _, rfl, a, xs, 1, .str n, rfl, rfl, (s3.trans s4).seqT hq, atI_nat (j := 1) at1, rfl, _, rfl, ?_⟩
          rw [ed]
          refine ite2 (fun hh => ?_) (fun hh => ?_)
          · refine ⟨_, rfl, _, eC, ?_, _, rfl, s4.kbn hC KB.write, ?_⟩
            · rw [List.length_map]
              refine Nat.lt_of_le_of_lt (List.length_filter_le _ _) ?_
              rw [List.length_take]
              exact Nat.lt_of_le_of_lt (show min j ls0.length ≤ 40 by omega) (by decide)
            · rw [upd_same, take_snoc ez, List.filter_append, List.map_append]
              simp [hh]
          · refine ⟨_, rfl, s4, ?_⟩
            have hh' : (!decide (z = n)) = false := by simpa using hh
            rw [eC, take_snoc ez, List.filter_append]
            simp [hh']
        rintro σ H4 ⟨v, rfl, s4, eC⟩
        rw [List.length_map, List.take_length] at eC
        refine rest _ _ ⟨C, _, _, rfl, s3.trans s4, eC, fun y => ?_, Nat.le_trans (List.length_filter_le _ _) len0⟩
        rw [List.mem_filter, mem0 y, free_iff, eb]
        constructor
        · rintro ⟨a1, a2⟩
          exact ⟨a1, fun z => by rw [← Option.some.inj z] at a2; simp at a2⟩
        · rintro ⟨a1, a2⟩
          exact ⟨a1, by simpa using fun z => a2 (by rw [z])⟩
end
def keyOf (ns : List Nat) : List Key := ns.map fun (n : Nat) => Sum.inl (n : Int)
theorem nats_key (ns : List Nat) : natsV ns = (keyOf ns).map kV := by
  unfold natsV keyOf
  rw [List.map_map]
  rfl
theorem over_at {ss : List Str} : ∀ (ns : List Nat) (f g : Say), f.Over ss → f.at ns = some g → g.Over ss
  | [], f, g, o, e => by
    have e' : f = g := Option.some.inj e
    rw [← e']; exact o
  | n :: ns, f, g, o, e => by
    have e' : (f.inner[n]?).bind (fun g => g.at ns) = some g := e
    obtain ⟨u, eu, ea⟩ := Option.bind_eq_some_iff.mp e'
    exact over_at ns u g (over_inner o u (List.mem_of_getElem? eu)) ea
theorem keyOf_inj : ∀ {ns ms : List Nat}, keyOf ns = keyOf ms → ns = ms
  | [], [], _ => rfl
  | [], _ :: _, h => by cases h
  | _ :: _, [], h => by cases h
  | n :: ns, m :: ms, h => by
    have h1 : (Sum.inl (n : Int) : Key) = Sum.inl (m : Int) := (List.cons.inj h).1
    have h2 : (n : Int) = m := Sum.inl.inj h1
    rw [keyOf_inj (List.cons.inj h).2, Int.ofNat_inj.mp h2]
def Known (H : Hp) (kvs : List (List Key × V)) (es : List Ent) : Prop := ∀ e ∈ es, ∃ r ks, valV kvs (keyOf e.1) = some (.ref r) ∧ H r = some (.tup (ks.map V.str)) ∧ IsFree ks e.2
theorem Known.keep {H H' : Hp} {kvs : List (List Key × V)} {es : List Ent} (h : Known H kvs es) (k : KTu H H') : Known H' kvs es := fun e he => by
  obtain ⟨r, ks, a, b, c⟩ := h e he
  exact ⟨r, ks, a, k _ _ b, c⟩
theorem kids_known {H : Hp} {kvs : List (List Key × V)} {g : Say} {ns : List Nat} {es : List Ent} (kn : Known H kvs es) (hk : ∀ (j : Nat) (h : Say), g.inner[j]? = some h → (ns ++ [j], h) ∈ es) :
    ∃ (rs : List Addr) (kss : List (List Str)), TupsS H rs kss ∧ kss.length = g.inner.length ∧ (∀ (j : Nat) (u : V), (rs.map V.ref)[j]? = some u → valV kvs (keyOf (ns ++ [j])) = some u) ∧
      ∀ (j : Nat) (ks : List Str) (h : Say), kss[j]? = some ks → g.inner[j]? = some h → IsFree ks h := by
  have all : ∀ n, n ≤ g.inner.length → ∃ (rs : List Addr) (kss : List (List Str)), TupsS H rs kss ∧ kss.length = n ∧ (∀ (j : Nat) (u : V), (rs.map V.ref)[j]? = some u → valV kvs (keyOf (ns ++ [j])) = some u) ∧
      ∀ (j : Nat) (ks : List Str) (h : Say), kss[j]? = some ks → g.inner[j]? = some h → IsFree ks h := by
    intro n
    induction n with
    | zero => exact fun _ => ⟨[], [], .nil, rfl, fun j u z => by simp at z, fun j ks h z => by simp at z⟩
    | succ n ih =>
      intro hn
      obtain ⟨rs, kss, tp, lk, vs, fr⟩ := ih (by omega)
      have lrs : rs.length = kss.length := Paired.length tp
      obtain ⟨h, hh⟩ : ∃ h, g.inner[n]? = some h := ⟨_, List.getElem?_eq_getElem hn⟩
      obtain ⟨r, ks, ev, er, ifr⟩ := kn _ (hk n h hh)
      refine ⟨rs ++ [r], kss ++ [ks], paired_append tp (.cons er .nil), by rw [List.length_append, lk]; rfl, fun j u z => ?_, fun t ks' h' z1 z2 => ?_⟩
      · rw [List.map_append] at z
        by_cases lt : j < rs.length
        · rw [List.getElem?_append_left (by rw [List.length_map]; exact lt)] at z
          exact vs j u z
        · have hl := (List.getElem?_eq_some_iff.mp z).1
          rw [List.length_append, List.length_map] at hl
          have hl' : j < rs.length + 1 := hl
          have e : j = n := by omega
          subst e
          rw [List.getElem?_append_right (by rw [List.length_map]; omega), List.length_map, lrs, lk, Nat.sub_self] at z
          have z' : V.ref r = u := Option.some.inj z
          rw [← z']; exact ev
      · by_cases lt : t < kss.length
        · rw [List.getElem?_append_left lt] at z1
          exact fr t ks' h' z1 z2
        · have hl := (List.getElem?_eq_some_iff.mp z1).1
          rw [List.length_append] at hl
          have hl' : t < kss.length + 1 := hl
          have e : t = kss.length := by omega
          subst e
          rw [List.getElem?_append_right (Nat.le_refl _), Nat.sub_self] at z1
          have z1' : ks = ks' := Option.some.inj z1
          rw [lk, hh] at z2
          have z2' : h = h' := Option.some.inj z2
          rw [← z1', ← z2']; exact ifr
  exact all _ (Nat.le_refl _)
def spToldOf (K : PySem.W.Frag) : Sp := fun vs H Q _ => ∃ (D pl : Addr) (y : V) (g : Say) (kvs : List (List Key × V)) (ns : List Nat) (us : List V), vs = [.ref D, .ref pl, y] ∧ DatAt K H y g.dt ∧ H D = some (.dT kvs) ∧ H pl = some (.tup (natsV ns)) ∧ ns.length ≤ 15 ∧ us.length = g.inner.length ∧
  (∀ (j : Nat) (u : V), us[j]? = some u → valV kvs (keyOf (ns ++ [j])) = some u) ∧ ∀ (C : Addr) (H' : Hp), H C = none → Same H H' → H' C = some (.lst us) → Q (.ref C) H'
def spNamesBy (K : PySem.W.Frag) : Sp := fun vs H Q _ => ∃ (x : V) (f : Say) (ss : List Str), vs = [x] ∧ DatAt K H x f.dt ∧ f.deep ≤ 15 ∧ f.Over ss ∧ ss.length ≤ 10 ∧
  ∀ (D : Addr) (kvs : List (List Key × V)) (r : Addr) (ks : List Str) (H' : Hp), Same H H' → H' D = some (.dT kvs) → valV kvs [] = some (.ref r) → H' r = some (.tup (ks.map V.str)) → IsFree ks f → Q (.ref D) H'
def spFree (K : PySem.W.Frag) : Sp := fun vs H Q _ => ∃ (x : V) (f : Say) (ss : List Str), vs = [x] ∧ DatAt K H x f.dt ∧ f.deep ≤ 15 ∧ f.Over ss ∧ ss.length ≤ 10 ∧
  ∀ (r : Addr) (ks : List Str) (H' : Hp), Same H H' → H' r = some (.tup (ks.map V.str)) → IsFree ks f → Q (.ref r) H'
section
variable {P : Program} {w : World} {K : PySem.W.Frag} {mg : Str → Option Value} {base : Heap}
theorem sc_told_of_parts : FnScope ["told", "place", "saying"] ["told", "place", "saying"] (defScope s_told_of_parts) := ⟨rfl, rfl, rfl, by decide +kernel, rfl, by decide +kernel, by decide +kernel⟩
theorem ok_told_of_parts {a : Adr} {b : PAdr} (T : Txt K mg a) (U : TopsP K w.params mg b) : FnOk P w K mg base CX0 2 a.f_told_of_parts a.fd_told_of_parts ["told", "place", "saying"] (spToldOf K) := by
  have G_inner_parts : FnOk P w K mg base CX0 1 a.f_inner_parts a.fd_inner_parts ["saying"] (spInner K) := ok_inner_parts T U
  refine T.F_told_of_parts.ok sc_told_of_parts (fun vs H Q E h => ?_) (fun cdv A outer s H vs Q E hr h => ?_)
  · obtain ⟨D, pl, y, g, kvs, ns, us, rfl, _⟩ := h
    rfl
  · obtain ⟨D, pl, y, g, kvs, ns, us, rfl, dy, eD, epl, hns, lus, hus, k⟩ := h
    have hr_inner_parts : Room 1 _ := hr
    refine ⟨_, (pss_one (ps_ret (pe_comp (CompScope.mk' (esc := defScope s_told_of_parts) (N := ["told", "place", "saying"]) (own := ["number"]) (frn := ["told", "place"]) (frj := [0, 1]) rfl rfl (by decide +kernel)) rfl (pi_range1 rfl T.z_range (pa_cons (pe_callB (call_lenK K) (by rfl) T.z_len bt_len (pa_cons (pe_call G_inner_parts hr_inner_parts rfl T.m_inner_parts T.k_inner_parts T.b_inner_parts .nil pass0 (pa_cons (pv 2) pa_nil)) pa_nil)) pa_nil)) (fun _ _ _ _ => (pg_name (i := 0) (show List.Nodup (["number", "told", "place"] : List Str) by decide +kernel) rfl (Or.inl rfl))) (fun _ _ _ _ => pifs_nil) (fun _ _ _ _ => (pe_dget (hu_of hr) (pv 1) (pe_op (op_catNK K) (pv 2) (pe_tup (pa_cons (pv 0) pa_nil))) (fun _ _ => rfl)))))), ?_⟩
    refine ⟨_, rfl, y, g, rfl, dy, fun D2 xs H4 hD2 s4 eD2' dts => ?_⟩
    have lx : xs.length = g.inner.length := by rw [dts.length, List.length_map]
    refine ⟨_, xs.length, rfl, .inl ⟨_, .of eD2', rfl⟩, ?_⟩
    have gin := inner_small g
    have eD4 := s4 _ _ eD
    have epl4 := s4 _ _ epl
    refine ⟨_, rfl, by omega, by omega, fun C hC => ?_⟩
    refine comp_range (lo := 0) (fun j σ H' => ∃ (v : Option V), σ = [v, some (.ref D), some (.ref pl)] ∧ Same H4 H' ∧ H' C = some (.lst (us.take j)))
      ⟨none, ?sg, Same.new hC, upd_same⟩ ?_ ?_
    case sg => rfl
    · rintro j σ H5 hj ⟨v, rfl, s5, eC⟩
      have hj' : j < us.length := by omega
      have ej : (0 : Int) + (j : Int) = (j : Int) := by omega
      obtain ⟨u, hu⟩ : ∃ u, us[j]? = some u := ⟨_, List.getElem?_eq_getElem hj'⟩
      have ev := hus j u hu
      have done : ∀ (pn : Addr) (H6 : Hp), Same H5 H6 → H6 pn = some (.tup (natsV (ns ++ [j]))) → ∃ (a : Addr) (v : V), V.ref D = .ref a ∧ DGet H6 a (.ref pn) (some v) ∧ ∃ ys, H6 C = some (.lst ys) ∧ ys.length < sizeLine ∧
          ∃ (v' : Option V), [some (V.int (0 + (j : Int))), some (.ref D), some (.ref pl)] = [v', some (.ref D), some (.ref pl)] ∧ Same H4 (upd H6 C (.lst (ys ++ [v]))) ∧ (upd H6 C (.lst (ys ++ [v]))) C = some (.lst (us.take (j + 1))) := fun pn H6 s6 epn => by
        have s46 := s5.trans s6
        have eC6 := s6 _ _ eC
        refine ⟨D, u, rfl, .inr ⟨kvs, keyOf (ns ++ [j]), pn, .inl (s46 _ _ eD4), rfl, by rw [epn, nats_key], ev.symm⟩, _, eC6, ?_, _, rfl, s46.kbn hC KB.write, by rw [upd_same, take_snoc hu]⟩
        rw [List.length_take]; exact Nat.lt_of_lt_of_le (show min j us.length < 10 by omega) (by decide)
      refine ⟨_, rfl, _, rfl, _, rfl, by show 1 ≤ sizeLine; decide, fun oo hoo => ?_⟩
      have so := Same.new (o := .tup [.int (0 + (j : Int))]) hoo
      have eoo : (upd H5 oo (.tup [.int (0 + (j : Int))])) oo = some (.tup (natsV [j])) := by rw [upd_same, ej]; rfl
      have epl5 := s5 _ _ epl4
      refine ⟨pl, oo, natsV ns, natsV [j], rfl, rfl, .of (so _ _ epl5), .of eoo, by simp [natsV], ?_, fun hn => ?_, fun hn pn hpn => ?_⟩
      · rw [natsV, natsV, List.length_map, List.length_map]
        exact Nat.le_trans (show _ ≤ 100 by simp; omega) (by decide)
      · have hn' : ns = [] := by cases ns with | nil => rfl | cons _ _ => cases hn
        have e1 : natsV (ns ++ [j]) = natsV [j] := by rw [hn']; rfl
        exact done oo _ so (by rw [e1]; exact eoo)
      · exact done pn _ (so.trans (Same.new hpn)) (by rw [upd_same, natsV, natsV, natsV, List.map_append])
    rintro σ H5 ⟨v, rfl, s5, eC⟩
    rw [Int.toNat_natCast, lx, ← lus, List.take_length] at eC
    exact k C H5 (s4.free hC) (s4.trans s5) eC
theorem sc_names_by_place : FnScope ["saying", "names", "place", "part"] ["saying"] (defScope s_names_by_place) := ⟨rfl, rfl, rfl, by decide +kernel, rfl, by decide +kernel, by decide +kernel⟩
theorem ok_names_by_place {a : Adr} {b : PAdr} {c : TAdr} (T : Txt K mg a) (U : TopsP K w.params mg b) (Y : TopsT K w.params mg c) : FnOk P w K mg base CX0 3 a.f_names_by_place a.fd_names_by_place ["saying"] (spNamesBy K) := by
  have G_told_of_parts : FnOk P w K mg base CX0 2 a.f_told_of_parts a.fd_told_of_parts ["told", "place", "saying"] (spToldOf K) := ok_told_of_parts T U
  have G_parts_in_order : FnOk P w K mg base CX0 2 a.f_parts_in_order a.fd_parts_in_order ["saying"] (spOrder K) := ok_parts_in_order T U
  have G_names_over : FnOk P w K mg base CX0 2 a.f_names_over a.fd_names_over ["saying", "inner"] (spOver K) := ok_names_over T Y
  refine T.F_names_by_place.ok sc_names_by_place (fun vs H Q E h => ?_) (fun cdv A outer s H vs Q E hr h => ?_)
  · obtain ⟨x, f, ss, rfl, _⟩ := h
    rfl
  · obtain ⟨x, f, ss, rfl, hf, hdp, ov, hss, k⟩ := h
    have hr_told_of_parts : Room 2 _ := hr
    have hr_parts_in_order : Room 2 _ := hr
    have hr_names_over : Room 2 _ := hr
    refine ⟨_, (pss_cons (ps_set (i := 1) sc_names_by_place.nd rfl (Or.inl rfl) pe_dnewT)
    (pss_cons (ps_for PassesOwn.never rfl (pi_list (pe_call G_parts_in_order hr_parts_in_order rfl T.m_parts_in_order T.k_parts_in_order T.b_parts_in_order .nil pass0 (pa_cons (pv 0) pa_nil))) (pg_tup rfl (pgs_cons (pg_name (i := 2) sc_names_by_place.nd rfl (Or.inl rfl)) (pgs_cons (pg_name (i := 3) sc_names_by_place.nd rfl (Or.inl rfl)) pgs_nil)))
      (pss_one (ps_dput (hu_of hr) (pv 1) (pv 2) (pe_call G_names_over hr_names_over rfl T.m_names_over T.k_names_over T.b_names_over .nil pass0 (pa_cons (pv 3) (pa_cons (pe_call G_told_of_parts hr_told_of_parts rfl T.m_told_of_parts T.k_told_of_parts T.b_told_of_parts .nil pass0 (pa_cons (pv 1) (pa_cons (pv 2) (pa_cons (pv 3) pa_nil)))) pa_nil))) rfl)))
    (pss_one (ps_ret (pv 1))))), ?_⟩
    refine fun D hD => ?_
    have sD := Same.new (o := .dT []) hD
    refine ⟨_, rfl, x, f, rfl, dat_stay sD.kts _ _ f.noL hf, hdp, fun L qs es H2 hL s2 eL prs late les => ?_⟩
    have eD2 : H2 D = some (.dT []) := s2 _ _ upd_same
    have nLD : L ≠ D := (ne_of_none upd_same hL).symm
    have lqs : qs.length = es.length := Paired.length prs
    have sH2 := sD.trans s2
    refine ⟨L, rfl, ⟨_, .of eL⟩, for_list (xs := qs.map V.ref) (fun i σ H' => ∃ (kvs : List (List Key × V)) (v2 v3 : Option V), σ = [some x, some (.ref D), v2, v3] ∧ KB D H2 H' ∧ H' D = some (.dT kvs) ∧ kvs.length ≤ i ∧ Known H' kvs (es.take i))
      ⟨[], none, none, rfl, KB.refl _ _, eD2, Nat.le_refl _, fun e he => by simp at he⟩ (fun i σ H' _ ⟨_, _, _, _, h, _⟩ => .of (h _ _ eL nLD)) ?_ ?_⟩
    · rintro i y0 σ H3 hy ⟨kvs, v2, v3, rfl, k3, eD3, lkv, kn⟩
      obtain ⟨q, rfl, hq⟩ := refItem hy
      obtain ⟨⟨ns, g⟩, he, pq⟩ := prs_get prs hq
      have kt3 : KTu H2 H3 := KTu.dT eD2 k3
      have ks3 : KTs K H2 H3 := KB.ktsD eD2 k3
      obtain ⟨pl, y, eq, epl, dy⟩ := pq.keep kt3 ks3
      have hin := List.mem_of_getElem? he
      have gat : f.at ns = some g := late.here _ hin
      have gov := over_at ns f g ov gat
      have hi : i < es.length := (List.getElem?_eq_some_iff.mp he).1
      refine ⟨q, _, rfl, .of eq, rfl, _, _, rfl, _, _, rfl, rfl, ?_⟩
      have gin := inner_small g
      obtain ⟨rs, kss, tp, lk, vs', fr⟩ := kids_known (kvs := kvs) (H := H3) (g := g) (ns := ns) (es := es.take i) kn (fun j h hh => by
        obtain ⟨j', hj2, ee⟩ := late.kid i ns g he j h hh
        exact List.mem_of_getElem? (i := j') (by rw [List.getElem?_take_of_lt hj2]; exact ee))
      have lrs : rs.length = kss.length := Paired.length tp
      refine ⟨_, rfl, _, rfl, _, rfl, _, rfl, D, pl, y, g, kvs, ns, rs.map V.ref, rfl, dy, eD3, epl, ns_small hdp gat, by rw [List.length_map, lrs, lk], vs', fun C H5 hC s5 eC => ?_⟩
      refine ⟨y, g, ss, C, rs, kss, rfl, dat_stay s5.kts _ _ g.noL dy, gov, hss, eC, TupsS.keep s5.kt tp, lk, fr, fun D3 ks H6 hD3 s6 eD3' ifr => ?_⟩
      have s36 := s5.trans s6
      have eD6 := s36 _ _ eD3
      have epl6 := s36 _ _ epl
      refine ⟨_, rfl, _, rfl, D, _, rfl, DPut.t (k := keyOf ns) eD6 (by rw [epl6, nats_key]) (Nat.lt_of_le_of_lt (show kvs.length ≤ 100000 by omega) (by decide)), ?_⟩
      have ktD : KTu H6 (upd H6 D (.dT (putK kvs (keyOf ns) (.ref D3)))) := KTu.dT eD6 KB.write
      refine ⟨_, _, _, rfl, (k3.trans s36.kb).trans KB.write, upd_same, Nat.le_trans (length_putK _ _ _) (by omega), fun e hm => ?_⟩
      rw [take_snoc he] at hm
      by_cases ek : keyOf e.1 = keyOf ns
      · have en := keyOf_inj ek
        have eg : e.2 = g := by
          have h1 : f.at e.1 = some e.2 := by
            rcases List.mem_append.mp hm with z | z
            · exact late.here e (List.mem_of_mem_take z)
            · rw [List.mem_singleton.mp z]; exact gat
          rw [en, gat] at h1
          exact (Option.some.inj h1).symm
        exact ⟨D3, ks, by rw [valV_put, if_pos ek], ktD _ _ eD3', by rw [eg]; exact ifr⟩
      · rcases List.mem_append.mp hm with z | z
        · obtain ⟨r, ks', a1, a2, a3⟩ := kn e z
          exact ⟨r, ks', by rw [valV_put, if_neg ek]; exact a1, ktD _ _ (s36.kt _ _ a2), a3⟩
        · exact absurd (by rw [List.mem_singleton.mp z]) ek
    · rintro σ H3 ⟨kvs, v2, v3, rfl, k3, eD3, lkv, kn⟩
      rw [List.length_map, lqs, List.take_length] at kn
      obtain ⟨r, ks, a1, a2, a3⟩ := kn _ late.root
      exact ⟨_, rfl, k D kvs r ks H3 (sH2.kbn hD k3) eD3 a1 a2 a3⟩
theorem sc_free_names : FnScope ["saying"] ["saying"] (defScope s_free_names) := ⟨rfl, rfl, rfl, by decide +kernel, rfl, by decide +kernel, by decide +kernel⟩
theorem ok_free_names {a : Adr} {b : PAdr} {c : TAdr} (T : Txt K mg a) (U : TopsP K w.params mg b) (Y : TopsT K w.params mg c) : FnOk P w K mg base CX0 4 a.f_free_names a.fd_free_names ["saying"] (spFree K) := by
  have G_names_by_place : FnOk P w K mg base CX0 3 a.f_names_by_place a.fd_names_by_place ["saying"] (spNamesBy K) := ok_names_by_place T U Y
  refine T.F_free_names.ok sc_free_names (fun vs H Q E h => ?_) (fun cdv A outer s H vs Q E hr h => ?_)
  · obtain ⟨x, f, ss, rfl, _⟩ := h
    rfl
  · obtain ⟨x, f, ss, rfl, hf, hdp, ov, hss, k⟩ := h
    have hr_names_by_place : Room 3 _ := hr
    refine ⟨_, (pss_one (ps_ret (pe_dget (hu_of hr) (pe_call G_names_by_place hr_names_by_place rfl T.m_names_by_place T.k_names_by_place T.b_names_by_place .nil pass0 (pa_cons (pv 0) pa_nil)) (pe_tup pa_nil) (fun _ _ => rfl)))), ?_⟩
    refine ⟨_, rfl, x, f, ss, rfl, hf, hdp, ov, hss, fun D kvs r ks H1 s1 eD ev er ifr => ⟨by decide, fun e he => ?_⟩⟩
    have se := Same.new (o := .tup []) he
    exact ⟨D, .ref r, rfl, .inr ⟨kvs, [], e, .inl (se _ _ eD), rfl, upd_same, ev.symm⟩, k r ks _ (s1.trans se) (se _ _ er) ifr⟩
end
end My
set_option Elab.async false
set_option linter.all false
set_option maxRecDepth 100000
set_option maxHeartbeats 4000000
namespace My
open PySem L2
theorem inner_way (f : Say) : (decide (V.str f.word = V.str "not") = true ∧ f.spots = [1]) ∨ (decide (V.str f.word = V.str "not") = false ∧ inV (V.str f.word) [V.str "and", V.str "or"] = true ∧ f.spots = [1, 2]) ∨
    (decide (V.str f.word = V.str "not") = false ∧ inV (V.str f.word) [V.str "and", V.str "or"] = false ∧ inV (V.str f.word) [V.str "some", V.str "each"] = true ∧ f.spots = [2]) ∨
    (decide (V.str f.word = V.str "not") = false ∧ inV (V.str f.word) [V.str "and", V.str "or"] = false ∧ inV (V.str f.word) [V.str "some", V.str "each"] = false ∧ f.spots = []) := by
  have e1 : inV (V.str f.word) [V.str "and", V.str "or"] = decide (f.word ∈ [("and" : Str), "or"]) := inV_strs f.word [("and" : Str), "or"]
  have e2 : inV (V.str f.word) [V.str "some", V.str "each"] = decide (f.word ∈ [("some" : Str), "each"]) := inV_strs f.word [("some" : Str), "each"]
  rw [e1, e2]
  have n_same : decide (V.str ("same" : Str) = V.str ("not" : Str)) = false := by decide +kernel
  have n_less : decide (V.str ("less" : Str) = V.str ("not" : Str)) = false := by decide +kernel
  have n_sign : decide (V.str ("sign" : Str) = V.str ("not" : Str)) = false := by decide +kernel
  have n_alike : decide (V.str ("alike" : Str) = V.str ("not" : Str)) = false := by decide +kernel
  have n_not : decide (V.str ("not" : Str) = V.str ("not" : Str)) = true := by decide +kernel
  have n_and : decide (V.str ("and" : Str) = V.str ("not" : Str)) = false := by decide +kernel
  have n_or : decide (V.str ("or" : Str) = V.str ("not" : Str)) = false := by decide +kernel
  have n_some : decide (V.str ("some" : Str) = V.str ("not" : Str)) = false := by decide +kernel
  have n_each : decide (V.str ("each" : Str) = V.str ("not" : Str)) = false := by decide +kernel
  have p_same : decide (("same" : Str) ∈ [("and" : Str), ("or" : Str)]) = false := by decide +kernel
  have p_less : decide (("less" : Str) ∈ [("and" : Str), ("or" : Str)]) = false := by decide +kernel
  have p_sign : decide (("sign" : Str) ∈ [("and" : Str), ("or" : Str)]) = false := by decide +kernel
  have p_alike : decide (("alike" : Str) ∈ [("and" : Str), ("or" : Str)]) = false := by decide +kernel
  have p_not : decide (("not" : Str) ∈ [("and" : Str), ("or" : Str)]) = false := by decide +kernel
  have p_and : decide (("and" : Str) ∈ [("and" : Str), ("or" : Str)]) = true := by decide +kernel
  have p_or : decide (("or" : Str) ∈ [("and" : Str), ("or" : Str)]) = true := by decide +kernel
  have p_some : decide (("some" : Str) ∈ [("and" : Str), ("or" : Str)]) = false := by decide +kernel
  have p_each : decide (("each" : Str) ∈ [("and" : Str), ("or" : Str)]) = false := by decide +kernel
  have q_same : decide (("same" : Str) ∈ [("some" : Str), ("each" : Str)]) = false := by decide +kernel
  have q_less : decide (("less" : Str) ∈ [("some" : Str), ("each" : Str)]) = false := by decide +kernel
  have q_sign : decide (("sign" : Str) ∈ [("some" : Str), ("each" : Str)]) = false := by decide +kernel
  have q_alike : decide (("alike" : Str) ∈ [("some" : Str), ("each" : Str)]) = false := by decide +kernel
  have q_not : decide (("not" : Str) ∈ [("some" : Str), ("each" : Str)]) = false := by decide +kernel
  have q_and : decide (("and" : Str) ∈ [("some" : Str), ("each" : Str)]) = false := by decide +kernel
  have q_or : decide (("or" : Str) ∈ [("some" : Str), ("each" : Str)]) = false := by decide +kernel
  have q_some : decide (("some" : Str) ∈ [("some" : Str), ("each" : Str)]) = true := by decide +kernel
  have q_each : decide (("each" : Str) ∈ [("some" : Str), ("each" : Str)]) = true := by decide +kernel
  cases f with
  | same t u => exact .inr (.inr (.inr ⟨n_same, p_same, q_same, rfl⟩))
  | less t u => exact .inr (.inr (.inr ⟨n_less, p_less, q_less, rfl⟩))
  | sign a t s => exact .inr (.inr (.inr ⟨n_sign, p_sign, q_sign, rfl⟩))
  | alike a t c u => exact .inr (.inr (.inr ⟨n_alike, p_alike, q_alike, rfl⟩))
  | no f => exact .inl ⟨n_not, rfl⟩
  | and f g => exact .inr (.inl ⟨n_and, p_and, rfl⟩)
  | or f g => exact .inr (.inl ⟨n_or, p_or, rfl⟩)
  | some n f => exact .inr (.inr (.inl ⟨n_some, p_some, q_some, rfl⟩))
  | each n f => exact .inr (.inr (.inl ⟨n_each, p_each, q_each, rfl⟩))
theorem terms_way (f : Say) : (inV (V.str f.word) [V.str "same", V.str "less"] = true ∧ f.tspots = [1, 2]) ∨ (inV (V.str f.word) [V.str "same", V.str "less"] = false ∧ decide (V.str f.word = V.str "sign") = true ∧ f.tspots = [2]) ∨
    (inV (V.str f.word) [V.str "same", V.str "less"] = false ∧ decide (V.str f.word = V.str "sign") = false ∧ decide (V.str f.word = V.str "alike") = true ∧ f.tspots = [2, 4]) ∨
    (inV (V.str f.word) [V.str "same", V.str "less"] = false ∧ decide (V.str f.word = V.str "sign") = false ∧ decide (V.str f.word = V.str "alike") = false ∧ f.tspots = []) := by
  have e1 : inV (V.str f.word) [V.str "same", V.str "less"] = decide (f.word ∈ [("same" : Str), "less"]) := inV_strs f.word [("same" : Str), "less"]
  rw [e1]
  have n_same : decide (V.str ("same" : Str) = V.str ("sign" : Str)) = false := by decide +kernel
  have n_less : decide (V.str ("less" : Str) = V.str ("sign" : Str)) = false := by decide +kernel
  have n_sign : decide (V.str ("sign" : Str) = V.str ("sign" : Str)) = true := by decide +kernel
  have n_alike : decide (V.str ("alike" : Str) = V.str ("sign" : Str)) = false := by decide +kernel
  have n_not : decide (V.str ("not" : Str) = V.str ("sign" : Str)) = false := by decide +kernel
  have n_and : decide (V.str ("and" : Str) = V.str ("sign" : Str)) = false := by decide +kernel
  have n_or : decide (V.str ("or" : Str) = V.str ("sign" : Str)) = false := by decide +kernel
  have n_some : decide (V.str ("some" : Str) = V.str ("sign" : Str)) = false := by decide +kernel
  have n_each : decide (V.str ("each" : Str) = V.str ("sign" : Str)) = false := by decide +kernel
  have m_same : decide (V.str ("same" : Str) = V.str ("alike" : Str)) = false := by decide +kernel
  have m_less : decide (V.str ("less" : Str) = V.str ("alike" : Str)) = false := by decide +kernel
  have m_sign : decide (V.str ("sign" : Str) = V.str ("alike" : Str)) = false := by decide +kernel
  have m_alike : decide (V.str ("alike" : Str) = V.str ("alike" : Str)) = true := by decide +kernel
  have m_not : decide (V.str ("not" : Str) = V.str ("alike" : Str)) = false := by decide +kernel
  have m_and : decide (V.str ("and" : Str) = V.str ("alike" : Str)) = false := by decide +kernel
  have m_or : decide (V.str ("or" : Str) = V.str ("alike" : Str)) = false := by decide +kernel
  have m_some : decide (V.str ("some" : Str) = V.str ("alike" : Str)) = false := by decide +kernel
  have m_each : decide (V.str ("each" : Str) = V.str ("alike" : Str)) = false := by decide +kernel
  have p_same : decide (("same" : Str) ∈ [("same" : Str), ("less" : Str)]) = true := by decide +kernel
  have p_less : decide (("less" : Str) ∈ [("same" : Str), ("less" : Str)]) = true := by decide +kernel
  have p_sign : decide (("sign" : Str) ∈ [("same" : Str), ("less" : Str)]) = false := by decide +kernel
  have p_alike : decide (("alike" : Str) ∈ [("same" : Str), ("less" : Str)]) = false := by decide +kernel
  have p_not : decide (("not" : Str) ∈ [("same" : Str), ("less" : Str)]) = false := by decide +kernel
  have p_and : decide (("and" : Str) ∈ [("same" : Str), ("less" : Str)]) = false := by decide +kernel
  have p_or : decide (("or" : Str) ∈ [("same" : Str), ("less" : Str)]) = false := by decide +kernel
  have p_some : decide (("some" : Str) ∈ [("same" : Str), ("less" : Str)]) = false := by decide +kernel
  have p_each : decide (("each" : Str) ∈ [("same" : Str), ("less" : Str)]) = false := by decide +kernel
  cases f with
  | same t u => exact .inl ⟨p_same, rfl⟩
  | less t u => exact .inl ⟨p_less, rfl⟩
  | sign a t s => exact .inr (.inl ⟨p_sign, n_sign, rfl⟩)
  | alike a t c u => exact .inr (.inr (.inl ⟨p_alike, n_alike, m_alike, rfl⟩))
  | no f => exact .inr (.inr (.inr ⟨p_not, n_not, m_not, rfl⟩))
  | and f g => exact .inr (.inr (.inr ⟨p_and, n_and, m_and, rfl⟩))
  | or f g => exact .inr (.inr (.inr ⟨p_or, n_or, m_or, rfl⟩))
  | some n f => exact .inr (.inr (.inr ⟨p_some, n_some, m_some, rfl⟩))
  | each n f => exact .inr (.inr (.inr ⟨p_each, n_each, m_each, rfl⟩))
theorem one_of {α : Type} {l : List α} {x : α} (h : l.length = 1) (e : l[0]? = some x) : l = [x] := by
  match l, h with
  | [y], _ => rw [Option.some.inj (show some y = some x from e)]
theorem two_of {α : Type} {l : List α} {x y : α} (h : l.length = 2) (e : l[0]? = some x) (e2 : l[1]? = some y) : l = [x, y] := by
  match l, h with
  | [a, b], _ => rw [Option.some.inj (show some a = some x from e), Option.some.inj (show some b = some y from e2)]
def spTerms (K : PySem.W.Frag) : Sp := fun vs H Q _ => ∃ (x : V) (f : Say), vs = [x] ∧ DatAt K H x f.dt ∧ ∀ (D : Addr) (xs : List V) (H' : Hp), H D = none → Same H H' → H' D = some (.lst xs) → DatsAt K H' xs (f.terms.map Term.dt) → Q (.ref D) H'
section
variable {P : Program} {w : World} {K : PySem.W.Frag} {mg : Str → Option Value} {base : Heap}
theorem sc_l_inner : FnScope ["_law_saying_here"] ["_law_saying_here"] (defScope s_l_inner) := ⟨rfl, rfl, rfl, by decide +kernel, rfl, by decide +kernel, by decide +kernel⟩
theorem ok_l_inner {a : Adr} (T : Txt K mg a) : FnOk P w K mg base CX0 1 a.f_l_inner a.fd_l_inner ["_law_saying_here"] (spInner K) := by
  refine T.F_l_inner.ok sc_l_inner (fun vs H Q E h => ?_) (fun cdv A outer s H vs Q E hr h => ?_)
  · obtain ⟨x, f, rfl, _⟩ := h
    rfl
  · obtain ⟨x, f, rfl, hf, k⟩ := h
    obtain ⟨a, xs, rfl, hq, h0, hsp⟩ := say_at f hf
    refine ⟨_, (pss_cons (ps_if (pt_cmpR op_eq (pe_ix (ix_tupK K) (pv 0) pe_int (fun _ _ => rfl)) pe_str (nomark _))
      (pss_one (ps_ret (pe_lst (pa_cons (pe_ix (ix_tupK K) (pv 0) pe_int (fun _ _ => rfl)) pa_nil))))
      pss_nil)
    (pss_cons (ps_if (pt_cmpR (op_inK K) (pe_ix (ix_tupK K) (pv 0) pe_int (fun _ _ => rfl)) (pe_lst (pa_cons pe_str (pa_cons pe_str pa_nil))) (by with_unfolding_all rfl))
      (pss_one (ps_ret (pe_lst (pa_cons (pe_ix (ix_tupK K) (pv 0) pe_int (fun _ _ => rfl)) (pa_cons (pe_ix (ix_tupK K) (pv 0) pe_int (fun _ _ => rfl)) pa_nil)))))
      pss_nil)
    (pss_cons (ps_if (pt_cmpR (op_inK K) (pe_ix (ix_tupK K) (pv 0) pe_int (fun _ _ => rfl)) (pe_lst (pa_cons pe_str (pa_cons pe_str pa_nil))) (by with_unfolding_all rfl))
      (pss_one (ps_ret (pe_lst (pa_cons (pe_ix (ix_tupK K) (pv 0) pe_int (fun _ _ => rfl)) pa_nil))))
      pss_nil)
    (pss_one (ps_ret (pe_lst pa_nil)))))), ?_⟩
    have sl := spots_len f
    refine ⟨_, rfl, a, xs, 0, .str f.word, rfl, rfl, hq, atI_nat (j := 0) h0, rfl, _, rfl, ?_⟩
    rcases inner_way f with ⟨h1, e⟩ | ⟨h1, h2, e⟩ | ⟨h1, h2, h3, e⟩ | ⟨h1, h2, h3, e⟩
    · rw [h1]
      refine iteT ?_
      obtain ⟨y, g, hy, hg, dy⟩ := hsp 0 1 (by rw [e]; rfl)
      rw [e] at sl
      have ei := one_of sl.symm hg
      refine ⟨_, rfl, a, xs, _, _, rfl, rfl, hq, atI_nat (j := 1) hy, by show 1 ≤ sizeLine; decide, fun D hD => ?_⟩
      have sD := Same.new (o := .lst [y]) hD
      exact k D _ _ hD sD upd_same (by rw [ei]; exact dats_cons (dat_stay sD.kts _ _ g.noL dy) dats_nil)
    · rw [h1]
      refine iteF ?_
      refine ⟨_, rfl, a, xs, 0, .str f.word, rfl, rfl, hq, atI_nat (j := 0) h0, by show 2 ≤ sizeLine; decide, fun Z hZ => ⟨Z, _, rfl, .inl (.of upd_same), rfl, rfl, _, rfl, ?_⟩⟩
      have sZ := Same.new (o := .lst [.str "and", .str "or"]) hZ
      generalize upd H Z (.lst [.str "and", .str "or"]) = H1 at sZ ⊢
      rw [(if_neg (by decide)).trans h2]
      refine iteT ?_
      obtain ⟨y, g, hy, hg, dy⟩ := hsp 0 1 (by rw [e]; rfl)
      obtain ⟨y2, g2, hy2, hg2, dy2⟩ := hsp 1 2 (by rw [e]; rfl)
      rw [e] at sl
      have ei := two_of sl.symm hg hg2
      refine ⟨_, rfl, a, xs, _, _, rfl, rfl, sZ.seqT hq, atI_nat (j := 1) hy, _, rfl, a, xs, _, _, rfl, rfl, sZ.seqT hq, atI_nat (j := 2) hy2, by show 2 ≤ sizeLine; decide, fun D hD => ?_⟩
      have sD := Same.new (o := .lst [y, y2]) hD
      have kt : KTs K H (upd H1 D (.lst [y, y2])) := (sZ.trans sD).kts
      exact k D _ _ (sZ.free hD) (sZ.trans sD) upd_same (by rw [ei]; exact dats_cons (dat_stay kt _ _ g.noL dy) (dats_cons (dat_stay kt _ _ g2.noL dy2) dats_nil))
    · rw [h1]
      refine iteF ?_
      refine ⟨_, rfl, a, xs, 0, .str f.word, rfl, rfl, hq, atI_nat (j := 0) h0, by show 2 ≤ sizeLine; decide, fun Z hZ => ⟨Z, _, rfl, .inl (.of upd_same), rfl, rfl, _, rfl, ?_⟩⟩
      have sZ := Same.new (o := .lst [.str "and", .str "or"]) hZ
      generalize upd H Z (.lst [.str "and", .str "or"]) = H1 at sZ ⊢
      rw [(if_neg (by decide)).trans h2]
      refine iteF ?_
      refine ⟨_, rfl, a, xs, 0, .str f.word, rfl, rfl, sZ.seqT hq, atI_nat (j := 0) h0, by show 2 ≤ sizeLine; decide, fun Z2 hZ2 => ⟨Z2, _, rfl, .inl (.of upd_same), rfl, rfl, _, rfl, ?_⟩⟩
      have sZ2 := sZ.trans (Same.new (o := .lst [.str "some", .str "each"]) hZ2)
      generalize upd H1 Z2 (.lst [.str "some", .str "each"]) = H2 at sZ2 ⊢
      rw [(if_neg (by decide)).trans h3]
      refine iteT ?_
      obtain ⟨y, g, hy, hg, dy⟩ := hsp 0 2 (by rw [e]; rfl)
      rw [e] at sl
      have ei := one_of sl.symm hg
      refine ⟨_, rfl, a, xs, _, _, rfl, rfl, sZ2.seqT hq, atI_nat (j := 2) hy, by show 1 ≤ sizeLine; decide, fun D hD => ?_⟩
      have sD := Same.new (o := .lst [y]) hD
      exact k D _ _ (sZ2.free hD) (sZ2.trans sD) upd_same (by rw [ei]; exact dats_cons (dat_stay (sZ2.trans sD).kts _ _ g.noL dy) dats_nil)
    · rw [h1]
      refine iteF ?_
      refine ⟨_, rfl, a, xs, 0, .str f.word, rfl, rfl, hq, atI_nat (j := 0) h0, by show 2 ≤ sizeLine; decide, fun Z hZ => ⟨Z, _, rfl, .inl (.of upd_same), rfl, rfl, _, rfl, ?_⟩⟩
      have sZ := Same.new (o := .lst [.str "and", .str "or"]) hZ
      generalize upd H Z (.lst [.str "and", .str "or"]) = H1 at sZ ⊢
      rw [(if_neg (by decide)).trans h2]
      refine iteF ?_
      refine ⟨_, rfl, a, xs, 0, .str f.word, rfl, rfl, sZ.seqT hq, atI_nat (j := 0) h0, by show 2 ≤ sizeLine; decide, fun Z2 hZ2 => ⟨Z2, _, rfl, .inl (.of upd_same), rfl, rfl, _, rfl, ?_⟩⟩
      have sZ2 := sZ.trans (Same.new (o := .lst [.str "some", .str "each"]) hZ2)
      generalize upd H1 Z2 (.lst [.str "some", .str "each"]) = H2 at sZ2 ⊢
      rw [(if_neg (by decide)).trans h3]
      refine iteF ?_
      rw [e] at sl
      have ei : f.inner = [] := List.length_eq_zero_iff.mp sl.symm
      refine ⟨by decide, fun D hD => ?_⟩
      exact k D _ _ (sZ2.free hD) (sZ2.trans (Same.new hD)) upd_same (by rw [ei]; exact dats_nil)
theorem sc_l_terms : FnScope ["_law_saying_here"] ["_law_saying_here"] (defScope s_l_terms) := ⟨rfl, rfl, rfl, by decide +kernel, rfl, by decide +kernel, by decide +kernel⟩
theorem ok_l_terms {a : Adr} (T : Txt K mg a) : FnOk P w K mg base CX0 1 a.f_l_terms a.fd_l_terms ["_law_saying_here"] (spTerms K) := by
  refine T.F_l_terms.ok sc_l_terms (fun vs H Q E h => ?_) (fun cdv A outer s H vs Q E hr h => ?_)
  · obtain ⟨x, f, rfl, _⟩ := h
    rfl
  · obtain ⟨x, f, rfl, hf, k⟩ := h
    obtain ⟨a, xs, rfl, hq, h0, hsp, _⟩ := say_terms f hf
    refine ⟨_, (pss_cons (ps_if (pt_cmpR (op_inK K) (pe_ix (ix_tupK K) (pv 0) pe_int (fun _ _ => rfl)) (pe_lst (pa_cons pe_str (pa_cons pe_str pa_nil))) (by with_unfolding_all rfl))
      (pss_one (ps_ret (pe_lst (pa_cons (pe_ix (ix_tupK K) (pv 0) pe_int (fun _ _ => rfl)) (pa_cons (pe_ix (ix_tupK K) (pv 0) pe_int (fun _ _ => rfl)) pa_nil)))))
      pss_nil)
    (pss_cons (ps_if (pt_cmpR op_eq (pe_ix (ix_tupK K) (pv 0) pe_int (fun _ _ => rfl)) pe_str (nomark _))
      (pss_one (ps_ret (pe_lst (pa_cons (pe_ix (ix_tupK K) (pv 0) pe_int (fun _ _ => rfl)) pa_nil))))
      pss_nil)
    (pss_cons (ps_if (pt_cmpR op_eq (pe_ix (ix_tupK K) (pv 0) pe_int (fun _ _ => rfl)) pe_str (nomark _))
      (pss_one (ps_ret (pe_lst (pa_cons (pe_ix (ix_tupK K) (pv 0) pe_int (fun _ _ => rfl)) (pa_cons (pe_ix (ix_tupK K) (pv 0) pe_int (fun _ _ => rfl)) pa_nil)))))
      pss_nil)
    (pss_one (ps_ret (pe_lst pa_nil)))))), ?_⟩
    have sl := tspots_len f
    refine ⟨_, rfl, a, xs, 0, .str f.word, rfl, rfl, hq, atI_nat (j := 0) h0, by show 2 ≤ sizeLine; decide, fun Z hZ => ⟨Z, _, rfl, .inl (.of upd_same), rfl, rfl, _, rfl, ?_⟩⟩
    have sZ := Same.new (o := .lst [.str "same", .str "less"]) hZ
    generalize upd H Z (.lst [.str "same", .str "less"]) = H1 at sZ ⊢
    rcases terms_way f with ⟨h1, e⟩ | ⟨h1, h2, e⟩ | ⟨h1, h2, h3, e⟩ | ⟨h1, h2, h3, e⟩
    · rw [(if_neg (by decide)).trans h1]
      refine iteT ?_
      obtain ⟨y, g, hy, hg, dy⟩ := hsp 0 1 (by rw [e]; rfl)
      obtain ⟨y2, g2, hy2, hg2, dy2⟩ := hsp 1 2 (by rw [e]; rfl)
      rw [e] at sl
      have ei := two_of sl.symm hg hg2
      refine ⟨_, rfl, a, xs, _, _, rfl, rfl, sZ.seqT hq, atI_nat (j := 1) hy, _, rfl, a, xs, _, _, rfl, rfl, sZ.seqT hq, atI_nat (j := 2) hy2, by show 2 ≤ sizeLine; decide, fun D hD => ?_⟩
      have sD := Same.new (o := .lst [y, y2]) hD
      have kt : KTs K H (upd H1 D (.lst [y, y2])) := (sZ.trans sD).kts
      exact k D _ _ (sZ.free hD) (sZ.trans sD) upd_same (by rw [ei]; exact dats_cons (dat_stay kt _ _ g.noL dy) (dats_cons (dat_stay kt _ _ g2.noL dy2) dats_nil))
    · rw [(if_neg (by decide)).trans h1]
      refine iteF ?_
      refine ⟨_, rfl, a, xs, 0, .str f.word, rfl, rfl, sZ.seqT hq, atI_nat (j := 0) h0, rfl, _, rfl, ?_⟩
      rw [h2]
      refine iteT ?_
      obtain ⟨y, g, hy, hg, dy⟩ := hsp 0 2 (by rw [e]; rfl)
      rw [e] at sl
      have ei := one_of sl.symm hg
      refine ⟨_, rfl, a, xs, _, _, rfl, rfl, sZ.seqT hq, atI_nat (j := 2) hy, by show 1 ≤ sizeLine; decide, fun D hD => ?_⟩
      have sD := Same.new (o := .lst [y]) hD
      exact k D _ _ (sZ.free hD) (sZ.trans sD) upd_same (by rw [ei]; exact dats_cons (dat_stay (sZ.trans sD).kts _ _ g.noL dy) dats_nil)
    · rw [(if_neg (by decide)).trans h1]
      refine iteF ?_
      refine ⟨_, rfl, a, xs, 0, .str f.word, rfl, rfl, sZ.seqT hq, atI_nat (j := 0) h0, rfl, _, rfl, ?_⟩
      rw [h2]
      refine iteF ?_
      refine ⟨_, rfl, a, xs, 0, .str f.word, rfl, rfl, sZ.seqT hq, atI_nat (j := 0) h0, rfl, _, rfl, ?_⟩
      rw [h3]
      refine iteT ?_
      obtain ⟨y, g, hy, hg, dy⟩ := hsp 0 2 (by rw [e]; rfl)
      obtain ⟨y2, g2, hy2, hg2, dy2⟩ := hsp 1 4 (by rw [e]; rfl)
      rw [e] at sl
      have ei := two_of sl.symm hg hg2
      refine ⟨_, rfl, a, xs, _, _, rfl, rfl, sZ.seqT hq, atI_nat (j := 2) hy, _, rfl, a, xs, _, _, rfl, rfl, sZ.seqT hq, atI_nat (j := 4) hy2, by show 2 ≤ sizeLine; decide, fun D hD => ?_⟩
      have sD := Same.new (o := .lst [y, y2]) hD
      have kt : KTs K H (upd H1 D (.lst [y, y2])) := (sZ.trans sD).kts
      exact k D _ _ (sZ.free hD) (sZ.trans sD) upd_same (by rw [ei]; exact dats_cons (dat_stay kt _ _ g.noL dy) (dats_cons (dat_stay kt _ _ g2.noL dy2) dats_nil))
    · rw [(if_neg (by decide)).trans h1]
      refine iteF ?_
      refine ⟨_, rfl, a, xs, 0, .str f.word, rfl, rfl, sZ.seqT hq, atI_nat (j := 0) h0, rfl, _, rfl, ?_⟩
      rw [h2]
      refine iteF ?_
      refine ⟨_, rfl, a, xs, 0, .str f.word, rfl, rfl, sZ.seqT hq, atI_nat (j := 0) h0, rfl, _, rfl, ?_⟩
      rw [h3]
      refine iteF ?_
      rw [e] at sl
      have ei : f.terms = [] := List.length_eq_zero_iff.mp sl.symm
      refine ⟨by decide, fun D hD => ?_⟩
      exact k D _ _ (sZ.free hD) (sZ.trans (Same.new hD)) upd_same (by rw [ei]; exact dats_nil)
end
def spLFree (K : PySem.W.Frag) (n : Nat) : Sp := fun vs H Q _ => ∃ (x : V) (f : Say) (ss : List Str) (bd fo : Addr) (bs fs : List Str), vs = [x, .ref bd, .ref fo] ∧ DatAt K H x f.dt ∧ f.Over ss ∧ ss.length ≤ 10 ∧ H bd = some (.lst (bs.map V.str)) ∧ H fo = some (.lst (fs.map V.str)) ∧ bd ≠ fo ∧
  fs.Nodup ∧ (∀ y ∈ fs, y ∈ ss) ∧ bs.length + f.deep ≤ 1000 ∧ f.deep < n ∧
  ∀ (fs' : List Str) (H' : Hp), KB fo H H' → H' fo = some (.lst (fs'.map V.str)) → fs'.Nodup → (∀ y ∈ fs', y ∈ ss) → (∀ y, y ∈ fs' ↔ y ∈ fs ∨ (f.Free y ∧ y ∉ bs)) → Q .non H'
theorem allflat (l : List Str) : (l.map V.str).all flatV = true := by rw [List.all_map]; exact List.all_eq_true.mpr fun _ _ => rfl
theorem inner_bind {f : Say} {n : Str} (h : f.binds = some n) : f.terms = [] := by cases f <;> simp [Say.binds, Say.terms] at h ⊢
section
variable {P : Program} {w : World} {K : PySem.W.Frag} {mg : Str → Option Value} {base : Heap}
theorem sc_l_free : FnScope ["_law_saying_here", "_law_bound", "_law_found", "_law_number", "_law_parts", "_law_name", "_law_times", "_law_one"] ["_law_saying_here", "_law_bound", "_law_found"] (defScope s_l_free) := ⟨rfl, rfl, rfl, by decide +kernel, rfl, by decide +kernel, by decide +kernel⟩
theorem ok_l_free {a : Adr} (T : Txt K mg a) : ∀ n : Nat, FnOk P w K mg base CX0 (n + 2) a.f_l_free a.fd_l_free ["_law_saying_here", "_law_bound", "_law_found"] (spLFree K n)
  | 0 => FnOk.none fun vs H Q E h => by
    obtain ⟨x, f, ss, bd, fo, bs, fs, _, _, _, _, _, _, _, _, _, _, hlt, _⟩ := h
    omega
  | n + 1 => by
    have G_l_free := ok_l_free T n
    have G_l_terms : FnOk P w K mg base CX0 1 a.f_l_terms a.fd_l_terms ["_law_saying_here"] (spTerms K) := ok_l_terms T
    have G_l_inner : FnOk P w K mg base CX0 1 a.f_l_inner a.fd_l_inner ["_law_saying_here"] (spInner K) := ok_l_inner T
    refine T.F_l_free.ok sc_l_free (fun vs H Q E h => ?_) (fun cdv A outer s H vs Q E hr h => ?_)
    · obtain ⟨x, f, ss, bd, fo, bs, fs, rfl, _⟩ := h
      rfl
    · obtain ⟨x, f, ss, bd, fo, bs, fs, rfl, hf, ov, hss, eb, ef, nbf, nd, sub, lb, hlt, k⟩ := h
      have hr_l_terms : Room 1 _ := hr.mono (by omega)
      have hr_l_inner : Room 1 _ := hr.mono (by omega)
      have hr_l_free : Room (n + 2) _ := hr
      refine ⟨_, (pss_cons (ps_for PassesOwn.never rfl (pi_list (pe_call G_l_terms hr_l_terms rfl T.m_l_terms T.k_l_terms T.b_l_terms .nil pass0 (pa_cons (pv 0) pa_nil))) (pg_tup rfl (pgs_cons (pg_name (i := 3) sc_l_free.nd rfl (Or.inl rfl)) (pgs_cons (pg_name (i := 4) sc_l_free.nd rfl (Or.inl rfl)) pgs_nil)))
        (pss_one (ps_for PassesOwn.never rfl (pi_tup (pv 4)) (pg_tup rfl (pgs_cons (pg_name (i := 5) sc_l_free.nd rfl (Or.inl rfl)) (pgs_cons (pg_name (i := 6) sc_l_free.nd rfl (Or.inl rfl)) pgs_nil)))
          (pss_one (ps_if (PW.pt (pw_and (pt_cmpR (op_notInK K) (pv 5) (pv 1) (by with_unfolding_all rfl)) (pw_and1 (pt_cmpR (op_notInK K) (pv 5) (pv 2) (by with_unfolding_all rfl)))))
            (pss_one (ps_expr (pe_bm PySem.F.plainAttrs_list PySem.F.slot_list_append PySem.F.type_list_append mt_append (pv 2) (pa_cons (pv 5) pa_nil))))
            pss_nil)))))
      (pss_cons (ps_if (pt_cmpR (op_inK K) (pe_ix (ix_tupK K) (pv 0) pe_int (fun _ _ => rfl)) (pe_lst (pa_cons pe_str (pa_cons pe_str pa_nil))) (by with_unfolding_all rfl))
        (pss_one (ps_set (i := 1) sc_l_free.nd rfl (Or.inl rfl) (pe_op op_cat (pv 1) (pe_lst (pa_cons (pe_ix (ix_tupK K) (pv 0) pe_int (fun _ _ => rfl)) pa_nil)))))
        pss_nil)
      (pss_one (ps_for PassesOwn.never rfl (pi_list (pe_call G_l_inner hr_l_inner rfl T.m_l_inner T.k_l_inner T.b_l_inner .nil pass0 (pa_cons (pv 0) pa_nil))) (pg_name (i := 7) sc_l_free.nd rfl (Or.inl rfl))
        (pss_one (ps_expr (pe_call G_l_free hr_l_free rfl T.m_l_free T.k_l_free T.b_l_free .nil pass0 (pa_cons (pv 7) (pa_cons (pv 1) (pa_cons (pv 2) pa_nil)))))))))), ?_⟩
      refine ⟨_, rfl, x, f, rfl, hf, fun L xs H1 hL s1 eL dts => ?_⟩
      have ef1 := s1 _ _ ef
      have eb1 := s1 _ _ eb
      have nLf : L ≠ fo := (ne_of_none ef hL).symm
      have lx : xs.length = f.terms.length := by rw [dts.length, List.length_map]
      refine ⟨L, rfl, ⟨_, .of eL⟩, for_list (xs := xs) (fun i σ H' => ∃ (fs' : List Str) (v3 v4 v5 v6 : Option V), σ = [some x, some (.ref bd), some (.ref fo), v3, v4, v5, v6, none] ∧ KB fo H1 H' ∧ H' fo = some (.lst (fs'.map V.str)) ∧ fs'.Nodup ∧ (∀ y ∈ fs', y ∈ ss) ∧ ∀ y, y ∈ fs' ↔ y ∈ fs ∨ ((∃ t ∈ f.terms.take i, y ∈ tnm t) ∧ y ∉ bs))
        ⟨fs, none, none, none, none, rfl, KB.refl _ _, ef1, nd, sub, fun y => by simp⟩ (fun i σ H' _ ⟨_, _, _, _, _, _, h, _⟩ => .of (h _ _ eL nLf)) ?_ ?_⟩
      · rintro i y0 σ H2 hy ⟨fs', v3, v4, v5, v6, rfl, k2, ef2, nd2, sub2, mem2⟩
        obtain ⟨d0, ed0, hd0⟩ := dts.get hy
        rw [List.getElem?_map] at ed0
        cases et : f.terms[i]? with
        | none => rw [et] at ed0; cases ed0
        | some t =>
          rw [et] at ed0
          have ed0' : t.dt = d0 := Option.some.inj ed0
          subst ed0'
          have tov := over_terms ov t (List.mem_of_getElem? et)
          have ks2 : KTs K H1 H2 := KB.kts ef1 k2
          obtain ⟨ta, pa, ys, rfl, q1, q2, q3⟩ := term_at (dat_stay ks2 _ _ t.noL hd0)
          have ly : ys.length = t.parts.length := by rw [q3.length, List.length_map]
          refine ⟨ta, _, rfl, q1, rfl, _, _, rfl, _, _, rfl, rfl, ?_⟩
          refine ⟨_, rfl, pa, rfl, ⟨_, q2⟩, for_tup (xs := ys) (fun j σ H' => ∃ (fs2 : List Str) (v5 v6 : Option V), σ = [some x, some (.ref bd), some (.ref fo), some (.int t.num), some (.ref pa), v5, v6, none] ∧ KB fo H2 H' ∧ H' fo = some (.lst (fs2.map V.str)) ∧ fs2.Nodup ∧ (∀ y ∈ fs2, y ∈ ss) ∧ ∀ y, y ∈ fs2 ↔ y ∈ fs' ∨ (y ∈ (tnm t).take j ∧ y ∉ bs))
            ⟨fs', _, _, rfl, KB.refl _ _, ef2, nd2, sub2, fun y => by simp⟩ (fun j σ H' _ ⟨_, _, _, _, h, _⟩ => (KB.kts ef2 h) _ _ q2) ?_ ?_⟩
          · rintro j y1 σ H3 hy1 ⟨fs2, v5, v6, rfl, k3, ef3, nd3, sub3, mem3⟩
            obtain ⟨d1, ed1, hd1⟩ := q3.get hy1
            rw [List.getElem?_map] at ed1
            cases ep : t.parts[j]? with
            | none => rw [ep] at ed1; cases ed1
            | some pp =>
              rw [ep] at ed1
              have ed1' : partDt pp = d1 := Option.some.inj ed1
              subst ed1'
              have ks3 : KTs K H2 H3 := KB.kts ef2 k3
              obtain ⟨qa, rfl, hqa⟩ := part_one hd1
              have tk : (tnm t).take (j + 1) = (tnm t).take j ++ [pp.1] := take_snoc (by rw [tnm, List.getElem?_map, ep]; rfl)
              have pin : pp.1 ∈ ss := tov.2 pp (List.mem_of_getElem? ep)
              have eb3 : H3 bd = some (.lst (bs.map V.str)) := k3 _ _ (k2 _ _ eb1 nbf) nbf
              refine ⟨qa, _, rfl, ks3 _ _ hqa, rfl, _, _, rfl, _, _, rfl, rfl, ?_⟩
              refine ⟨_, rfl, _, rfl, bd, _, rfl, .inl (.of eb3), rfl, allflat bs, _, rfl, ?_⟩
              rw [if_pos rfl, inV_strs]
              have no : (pp.1 ∈ bs ∨ pp.1 ∈ fs2) → ∀ y, y ∈ fs2 ↔ y ∈ fs' ∨ (y ∈ (tnm t).take (j + 1) ∧ y ∉ bs) := fun hh y => by
                rw [tk, List.mem_append, List.mem_singleton, mem3 y]
                constructor
                · rintro (z | ⟨z1, z2⟩)
                  · exact .inl z
                  · exact .inr ⟨.inl z1, z2⟩
                · rintro (z | ⟨z1 | z1, z2⟩)
                  · exact .inl z
                  · exact .inr ⟨z1, z2⟩
                  · rw [z1] at z2 ⊢
                    rcases hh with q | q
                    · exact absurd q z2
                    · exact (mem3 _).mp q
              refine ite2 (fun hb => ?_) (fun hb => iteF ⟨fs2, _, _, rfl, k3, ef3, nd3, sub3, no (.inl (by simpa using hb))⟩)
              have nb : pp.1 ∉ bs := by simpa using hb
              refine ⟨_, rfl, _, rfl, fo, _, rfl, .inl (.of ef3), rfl, allflat fs2, _, rfl, ?_⟩
              rw [if_pos rfl, inV_strs]
              refine ite2 (fun hf2 => ?_) (fun hf2 => ⟨fs2, _, _, rfl, k3, ef3, nd3, sub3, no (.inr (by simpa using hf2))⟩)
              have nf : pp.1 ∉ fs2 := by simpa using hf2
              have lf := nodup_len nd3 sub3
              refine ⟨_, rfl, .inl ⟨rfl, _, .of ef3⟩, _, rfl, fo, _, _, rfl, rfl, ef3, ?_, fs2 ++ [pp.1], _, _, rfl, k3.trans KB.write, by rw [upd_same, List.map_append]; rfl, ?_, ?_, fun y => ?_⟩
              · rw [List.length_map]; exact Nat.lt_of_le_of_lt (show fs2.length ≤ 10 by omega) (by decide)
              · exact List.nodup_append.mpr ⟨nd3, by simp, fun u hu z hz => by rw [List.mem_singleton.mp hz]; exact fun e => nf (e ▸ hu)⟩
              · intro y hy'
                rcases List.mem_append.mp hy' with z | z
                · exact sub3 y z
                · rw [List.mem_singleton.mp z]; exact pin
              · rw [tk, List.mem_append, List.mem_append, List.mem_singleton, mem3 y]
                constructor
                · rintro ((z | ⟨z1, z2⟩) | z)
                  · exact .inl z
                  · exact .inr ⟨.inl z1, z2⟩
                  · exact .inr ⟨.inr z, by rw [z]; exact nb⟩
                · rintro (z | ⟨z1 | z1, z2⟩)
                  · exact .inl (.inl z)
                  · exact .inl (.inr ⟨z1, z2⟩)
                  · exact .inr z1
          · rintro σ H3 ⟨fs2, v5, v6, rfl, k3, ef3, nd3, sub3, mem3⟩
            have lt' : (tnm t).take ys.length = tnm t := List.take_of_length_le (by rw [tnm, List.length_map, ly]; exact Nat.le_refl _)
            rw [lt'] at mem3
            refine ⟨fs2, _, _, _, _, rfl, k2.trans k3, ef3, nd3, sub3, fun y => ?_⟩
            rw [mem3 y, mem2 y, take_snoc et]
            constructor
            · rintro ((z | ⟨⟨u, hu, hy'⟩, z2⟩) | ⟨z1, z2⟩)
              · exact .inl z
              · exact .inr ⟨⟨u, List.mem_append.mpr (.inl hu), hy'⟩, z2⟩
              · exact .inr ⟨⟨t, List.mem_append.mpr (.inr (by simp)), z1⟩, z2⟩
            · rintro (z | ⟨⟨u, hu, hy'⟩, z2⟩)
              · exact .inl (.inl z)
              · rcases List.mem_append.mp hu with q | q
                · exact .inl (.inr ⟨⟨u, q, hy'⟩, z2⟩)
                · rw [List.mem_singleton.mp q] at hy'
                  exact .inr ⟨hy', z2⟩
      rintro σ H2 ⟨fs1, v3, v4, v5, v6, rfl, k2, ef2, nd2, sub2, mem2⟩
      rw [lx, List.take_length] at mem2
      have kA : KB fo H H2 := s1.kb.trans k2
      have ksA : KTs K H H2 := KB.kts ef kA
      have eb2 := kA _ _ eb nbf
      obtain ⟨a', xs', exr, hq, h0, _, hbd⟩ := say_terms f (dat_stay ksA _ _ f.noL hf)
      subst exr
      dsimp only [gName]
      refine seq_rest (t := tIfS _ _ _) (u := tFor _ _ _) (fun σ H' => ∃ (B : Addr) (bs' : List Str), σ = [some (.ref a'), some (.ref B), some (.ref fo), v3, v4, v5, v6, none] ∧ KB fo H H' ∧ H' B = some (.lst (bs'.map V.str)) ∧ B ≠ fo ∧ H' fo = some (.lst (fs1.map V.str)) ∧ (∀ y, y ∈ bs' ↔ y ∈ bs ∨ f.binds = some y) ∧ bs'.length ≤ bs.length + 1) ?re (fun rest => ?ifp)
      case ifp =>
        refine ⟨_, rfl, a', xs', 0, .str f.word, rfl, rfl, hq, atI_nat (j := 0) h0, by show 2 ≤ sizeLine; decide, fun Z hZ => ⟨Z, _, rfl, .inl (.of upd_same), rfl, rfl, _, rfl, ?_⟩⟩
        have sZ := Same.new (o := .lst [.str "some", .str "each"]) hZ
        have eb3 := sZ _ _ eb2
        have ef3 := sZ _ _ ef2
        have k3 := kA.trans sZ.kb
        have hq3 := sZ.seqT hq
        generalize upd H2 Z (.lst [.str "some", .str "each"]) = H3 at eb3 ef3 k3 hq3 ⊢
        rw [(if_neg (by decide)).trans (word_binds f)]
        cases ebn : f.binds with
        | none => exact iteF (rest _ _ ⟨bd, bs, rfl, k3, eb3, nbf, ef3, fun y => by rw [ebn]; simp, Nat.le_succ _⟩)
        | some m =>
          refine iteT ?_
          refine ⟨_, rfl, _, rfl, a', xs', 1, .str m, rfl, rfl, hq3, atI_nat (j := 1) (hbd m ebn), by show 1 ≤ sizeLine; decide, fun O hO => ?_⟩
          have sO := Same.new (o := .lst [.str m]) hO
          refine ⟨bd, O, _, _, rfl, rfl, sO _ _ eb3, upd_same, ?_, fun B hB => ?_⟩
          · rw [List.length_map]; exact Nat.le_trans (show _ ≤ 2000 by simp; omega) (by decide)
          have sB := Same.new (o := .lst (bs.map V.str ++ [.str m])) hB
          refine rest _ _ ⟨B, bs ++ [m], rfl, (k3.trans sO.kb).trans sB.kb, by rw [upd_same, List.map_append]; rfl, (ne_of_none (sO _ _ ef3) hB).symm, sB _ _ (sO _ _ ef3), fun y => ?_, by rw [List.length_append]; exact Nat.le_refl _⟩
          rw [List.mem_append, List.mem_singleton, ebn]
          constructor
          · rintro (z | z)
            · exact .inl z
            · exact .inr (by rw [z])
          · rintro (z | z)
            · exact .inl z
            · exact .inr (Option.some.inj z).symm
      rintro σ H3 ⟨B, bs', rfl, k3, eB, nBf, ef3, memb, lb'⟩
      have ks3 : KTs K H H3 := KB.kts ef k3
      have hf3 := dat_stay ks3 _ _ f.noL hf
      refine ⟨_, rfl, _, f, rfl, hf3, fun L2 xs2 H4 hL2 s4 eL2 dts2 => ?_⟩
      have ef4 := s4 _ _ ef3
      have eB4 := s4 _ _ eB
      have nL2f : L2 ≠ fo := (ne_of_none ef3 hL2).symm
      have lx2 : xs2.length = f.inner.length := by rw [dts2.length, List.length_map]
      have k4 := k3.trans s4.kb
      refine ⟨L2, rfl, ⟨_, .of eL2⟩, for_list (xs := xs2) (fun i σ H' => ∃ (fs' : List Str) (v7 : Option V), σ = [some (.ref a'), some (.ref B), some (.ref fo), v3, v4, v5, v6, v7] ∧ KB fo H4 H' ∧ H' fo = some (.lst (fs'.map V.str)) ∧ fs'.Nodup ∧ (∀ y ∈ fs', y ∈ ss) ∧ ∀ y, y ∈ fs' ↔ y ∈ fs1 ∨ ((∃ g ∈ f.inner.take i, g.Free y) ∧ y ∉ bs'))
        ⟨fs1, none, rfl, KB.refl _ _, ef4, nd2, sub2, fun y => by simp⟩ (fun i σ H' _ ⟨_, _, _, h, _⟩ => .of (h _ _ eL2 nL2f)) ?_ ?_⟩
      · rintro i y0 σ H5 hy ⟨fs', v7, rfl, k5, ef5, nd5, sub5, mem5⟩
        obtain ⟨d0, ed0, hd0⟩ := dts2.get hy
        rw [List.getElem?_map] at ed0
        cases et : f.inner[i]? with
        | none => rw [et] at ed0; cases ed0
        | some g =>
          rw [et] at ed0
          have ed0' : g.dt = d0 := Option.some.inj ed0
          subst ed0'
          have gin := List.mem_of_getElem? et
          have gd := inner_deep f g gin
          have ks5 : KTs K H4 H5 := KB.kts ef4 k5
          refine ⟨_, rfl, _, rfl, _, rfl, y0, g, ss, B, fo, bs', fs', rfl, dat_stay ks5 _ _ g.noL hd0, over_inner ov g gin, hss, k5 _ _ eB4 nBf, ef5, nBf, nd5, sub5, by omega, by omega, fun fs2 H6 k6 ef6 nd6 sub6 mem6 => ?_⟩
          refine ⟨fs2, _, rfl, k5.trans k6, ef6, nd6, sub6, fun y => ?_⟩
          rw [mem6 y, mem5 y, take_snoc et]
          constructor
          · rintro ((z | ⟨⟨u, hu, hy'⟩, z2⟩) | ⟨z1, z2⟩)
            · exact .inl z
            · exact .inr ⟨⟨u, List.mem_append.mpr (.inl hu), hy'⟩, z2⟩
            · exact .inr ⟨⟨g, List.mem_append.mpr (.inr (by simp)), z1⟩, z2⟩
          · rintro (z | ⟨⟨u, hu, hy'⟩, z2⟩)
            · exact .inl (.inl z)
            · rcases List.mem_append.mp hu with q | q
              · exact .inl (.inr ⟨⟨u, q, hy'⟩, z2⟩)
              · rw [List.mem_singleton.mp q] at hy'
                exact .inr ⟨hy', z2⟩
      · rintro σ H5 ⟨fs', v7, rfl, k5, ef5, nd5, sub5, mem5⟩
        rw [lx2, List.take_length] at mem5
        refine k fs' H5 (k4.trans k5) ef5 nd5 sub5 fun y => ?_
        rw [mem5 y, mem2 y, memb y, free_iff]
        have tn : (∃ t ∈ f.terms, y ∈ tnm t) ↔ y ∈ f.tnames := by rw [Say.tnames, List.mem_flatMap]
        rw [tn]
        constructor
        · rintro ((z | ⟨z1, z2⟩) | ⟨z1, z2⟩)
          · exact .inl z
          · refine .inr ⟨⟨.inl z1, fun e => ?_⟩, z2⟩
            rw [Say.tnames, inner_bind e] at z1
            simp at z1
          · exact .inr ⟨⟨.inr z1, fun e => z2 (.inr e)⟩, fun e => z2 (.inl e)⟩
        · rintro (z | ⟨⟨z1 | z1, z2⟩, z3⟩)
          · exact .inl (.inl z)
          · exact .inl (.inr ⟨z1, z3⟩)
          · exact .inr ⟨z1, fun e => e.elim z3 z2⟩
end
end My
set_option Elab.async false
set_option linter.all false
set_option maxRecDepth 100000
set_option maxHeartbeats 4000000
namespace My
open PySem L2
def Say.all : Say → List Say
  | .no f => .no f :: f.all
  | .and f g => .and f g :: (f.all ++ g.all)
  | .or f g => .or f g :: (f.all ++ g.all)
  | .some n f => .some n f :: f.all
  | .each n f => .each n f :: f.all
  | f => [f]
theorem all_eq (f : Say) : f.all = f :: f.inner.flatMap Say.all := by cases f <;> simp [Say.all, Say.inner]
theorem all_size : ∀ f : Say, f.all.length = f.size
  | .same _ _ => rfl
  | .less _ _ => rfl
  | .sign _ _ _ => rfl
  | .alike _ _ _ _ => rfl
  | .no f => by simp [Say.all, Say.size, all_size f]
  | .and f g => by simp [Say.all, Say.size, all_size f, all_size g]
  | .or f g => by simp [Say.all, Say.size, all_size f, all_size g]
  | .some n f => by simp [Say.all, Say.size, all_size f]
  | .each n f => by simp [Say.all, Say.size, all_size f]
theorem over_all {ss : List Str} : ∀ (f : Say), f.Over ss → ∀ g ∈ f.all, g.Over ss ∧ g.deep ≤ f.deep
  | .same t u, o, g, h => by rw [List.mem_singleton.mp (show g ∈ [Say.same t u] from h)]; exact ⟨o, Nat.le_refl _⟩
  | .less t u, o, g, h => by rw [List.mem_singleton.mp (show g ∈ [Say.less t u] from h)]; exact ⟨o, Nat.le_refl _⟩
  | .sign a t s, o, g, h => by rw [List.mem_singleton.mp (show g ∈ [Say.sign a t s] from h)]; exact ⟨o, Nat.le_refl _⟩
  | .alike a t b u, o, g, h => by rw [List.mem_singleton.mp (show g ∈ [Say.alike a t b u] from h)]; exact ⟨o, Nat.le_refl _⟩
  | .no f, o, g, h => by
    rcases List.mem_cons.mp (show g ∈ Say.no f :: f.all from h) with e | e
    · rw [e]; exact ⟨o, Nat.le_refl _⟩
    · have := over_all f o g e; exact ⟨this.1, by simp only [Say.deep]; omega⟩
  | .and f f2, o, g, h => by
    rcases List.mem_cons.mp (show g ∈ Say.and f f2 :: (f.all ++ f2.all) from h) with e | e
    · rw [e]; exact ⟨o, Nat.le_refl _⟩
    · rcases List.mem_append.mp e with e | e
      · have := over_all f o.1 g e; exact ⟨this.1, by simp only [Say.deep]; omega⟩
      · have := over_all f2 o.2 g e; exact ⟨this.1, by simp only [Say.deep]; omega⟩
  | .or f f2, o, g, h => by
    rcases List.mem_cons.mp (show g ∈ Say.or f f2 :: (f.all ++ f2.all) from h) with e | e
    · rw [e]; exact ⟨o, Nat.le_refl _⟩
    · rcases List.mem_append.mp e with e | e
      · have := over_all f o.1 g e; exact ⟨this.1, by simp only [Say.deep]; omega⟩
      · have := over_all f2 o.2 g e; exact ⟨this.1, by simp only [Say.deep]; omega⟩
  | .some n f, o, g, h => by
    rcases List.mem_cons.mp (show g ∈ Say.some n f :: f.all from h) with e | e
    · rw [e]; exact ⟨o, Nat.le_refl _⟩
    · have := over_all f o g e; exact ⟨this.1, by simp only [Say.deep]; omega⟩
  | .each n f, o, g, h => by
    rcases List.mem_cons.mp (show g ∈ Say.each n f :: f.all from h) with e | e
    · rw [e]; exact ⟨o, Nat.le_refl _⟩
    · have := over_all f o g e; exact ⟨this.1, by simp only [Say.deep]; omega⟩
theorem tover_mono {ss rs : List Str} (h : ∀ y ∈ ss, y ∈ rs) {t : Term} (o : TOver ss t) : TOver rs t := ⟨o.1, fun q hq => h _ (o.2 q hq)⟩
theorem over_mono {ss rs : List Str} (h : ∀ y ∈ ss, y ∈ rs) : ∀ {f : Say}, f.Over ss → f.Over rs
  | .same t u, o => ⟨tover_mono h o.1, tover_mono h o.2⟩
  | .less t u, o => ⟨tover_mono h o.1, tover_mono h o.2⟩
  | .sign a t s, o => tover_mono h (show TOver ss t from o)
  | .alike a t b u, o => ⟨tover_mono h o.1, tover_mono h o.2⟩
  | .no f, o => over_mono h (f := f) o
  | .and f g, o => ⟨over_mono h o.1, over_mono h o.2⟩
  | .or f g, o => ⟨over_mono h o.1, over_mono h o.2⟩
  | .some n f, o => over_mono h (f := f) o
  | .each n f, o => over_mono h (f := f) o
theorem size16 {f : Say} (h : f.deep ≤ 15) : f.size ≤ 70000 := by
  have h1 := size_deep f
  have h2 := Nat.pow_le_pow_right (n := 2) (by decide) (show f.deep + 1 ≤ 16 by omega)
  have h3 : (2 : Nat) ^ 16 = 65536 := by decide
  omega
def spAll (K : PySem.W.Frag) (n : Nat) : Sp := fun vs H Q _ => ∃ (x : V) (f : Say), vs = [x] ∧ DatAt K H x f.dt ∧ f.deep < n ∧ f.deep ≤ 15 ∧ ∀ (D : Addr) (xs : List V) (H' : Hp), Same H H' → H' D = some (.lst xs) → DatsAt K H' xs (f.all.map Say.dt) → Q (.ref D) H'
def spDue (K : PySem.W.Frag) : Sp := fun vs H Q _ => ∃ (x : V) (f : Say) (ss : List Str), vs = [x] ∧ DatAt K H x f.dt ∧ f.deep < 14 ∧ f.Over ss ∧ ss.length ≤ 10 ∧
  ∀ (r : Addr) (ks : List Str) (H' : Hp), Same H H' → H' r = some (.tup (ks.map V.str)) → IsFree ks f → Q (.ref r) H'
theorem flat_all_len : ∀ (l : List Say), (l.flatMap Say.all).length = (l.map Say.size).sum
  | [] => rfl
  | g :: l => by rw [List.flatMap_cons, List.length_append, all_size, flat_all_len l, List.map_cons, List.sum_cons]
theorem sum_take_le (l : List Say) (i : Nat) : ((l.take i).map Say.size).sum ≤ (l.map Say.size).sum := by
  conv => rhs; rw [← List.take_append_drop i l, List.map_append, List.sum_append]
  omega
section
variable {P : Program} {w : World} {K : PySem.W.Frag} {mg : Str → Option Value} {base : Heap}
theorem sc_l_all : FnScope ["_law_saying_here", "_law_found", "_law_one"] ["_law_saying_here"] (defScope s_l_all) := ⟨rfl, rfl, rfl, by decide +kernel, rfl, by decide +kernel, by decide +kernel⟩
theorem ok_l_all {a : Adr} (T : Txt K mg a) : ∀ n : Nat, FnOk P w K mg base CX0 (n + 2) a.f_l_all a.fd_l_all ["_law_saying_here"] (spAll K n)
  | 0 => FnOk.none fun vs H Q E h => by
    obtain ⟨x, f, _, _, hlt, _⟩ := h
    omega
  | n + 1 => by
    have G_l_all := ok_l_all T n
    have G_l_inner : FnOk P w K mg base CX0 1 a.f_l_inner a.fd_l_inner ["_law_saying_here"] (spInner K) := ok_l_inner T
    refine T.F_l_all.ok sc_l_all (fun vs H Q E h => ?_) (fun cdv A outer s H vs Q E hr h => ?_)
    · obtain ⟨x, f, rfl, _⟩ := h
      rfl
    · obtain ⟨x, f, rfl, hf, hlt, h15, k⟩ := h
      have hr_l_inner : Room 1 _ := hr.mono (by omega)
      have hr_l_all : Room (n + 2) _ := hr
      refine ⟨_, (pss_cons (ps_set (i := 1) sc_l_all.nd rfl (Or.inl rfl) (pe_lst (pa_cons (pv 0) pa_nil)))
      (pss_cons (ps_for PassesOwn.never rfl (pi_list (pe_call G_l_inner hr_l_inner rfl T.m_l_inner T.k_l_inner T.b_l_inner .nil pass0 (pa_cons (pv 0) pa_nil))) (pg_name (i := 2) sc_l_all.nd rfl (Or.inl rfl))
        (pss_one (ps_set (i := 1) sc_l_all.nd rfl (Or.inl rfl) (pe_op op_cat (pv 1) (pe_call G_l_all hr_l_all rfl T.m_l_all T.k_l_all T.b_l_all .nil pass0 (pa_cons (pv 2) pa_nil))))))
      (pss_one (ps_ret (pv 1))))), ?_⟩
      refine ⟨_, rfl, by show 1 ≤ sizeLine; decide, fun Fo hFo => ?_⟩
      have sF := Same.new (o := .lst [x]) hFo
      have eF1 : (upd H Fo (.lst [x])) Fo = some (.lst [x]) := upd_same
      generalize upd H Fo (.lst [x]) = H1 at sF eF1 ⊢
      have hf1 := dat_stay sF.kts _ _ f.noL hf
      refine ⟨_, rfl, x, f, rfl, hf1, fun L xs H2 hL s2 eL dts => ?_⟩
      have lx : xs.length = f.inner.length := by rw [dts.length, List.length_map]
      have fsz := size16 h15
      have sin := size_inner f
      refine ⟨L, rfl, ⟨_, .of eL⟩, for_list (xs := xs) (fun i σ H' => ∃ (F : Addr) (ys : List V) (v2 : Option V), σ = [some x, some (.ref F), v2] ∧ Same H2 H' ∧ H' F = some (.lst ys) ∧ DatsAt K H' ys ((f :: (f.inner.take i).flatMap Say.all).map Say.dt))
        ⟨Fo, [x], none, rfl, Same.refl _, s2 _ _ eF1, by simp only [List.take_zero, List.flatMap_nil]; exact dats_cons (dat_stay s2.kts _ _ f.noL hf1) dats_nil⟩ (fun i σ H' _ ⟨_, _, _, _, h, _⟩ => .of (h _ _ eL)) ?_ ?_⟩
      · rintro i y σ H3 hy ⟨F, ys, v2, rfl, s3, eF, dy⟩
        obtain ⟨d0, ed0, hd0⟩ := dts.get hy
        rw [List.getElem?_map] at ed0
        cases et : f.inner[i]? with
        | none => rw [et] at ed0; cases ed0
        | some g =>
          rw [et] at ed0
          have ed0' : g.dt = d0 := Option.some.inj ed0
          subst ed0'
          have gin := List.mem_of_getElem? et
          have gd := inner_deep f g gin
          refine ⟨_, rfl, _, rfl, y, g, rfl, dat_stay s3.kts _ _ g.noL hd0, by omega, by omega, fun D2 zs H4 s4 eD2 dz => ?_⟩
          have lys : ys.length = ((f.inner.take i).map Say.size).sum + 1 := by rw [dy.length, List.length_map, List.length_cons, flat_all_len]
          have lzs : zs.length = g.size := by rw [dz.length, List.length_map, all_size]
          have gsz := size16 (f := g) (by omega)
          have st := sum_take_le f.inner i
          refine ⟨F, D2, ys, zs, rfl, rfl, s4 _ _ eF, eD2, Nat.le_trans (show _ ≤ 200000 by omega) (by decide), fun W hW => ?_⟩
          have sW := Same.new (o := .lst (ys ++ zs)) hW
          refine ⟨W, ys ++ zs, _, rfl, (s3.trans s4).trans sW, upd_same, ?_⟩
          rw [take_snoc et, List.flatMap_append]
          have e1 : (f :: ((f.inner.take i).flatMap Say.all ++ [g].flatMap Say.all)).map Say.dt = (f :: (f.inner.take i).flatMap Say.all).map Say.dt ++ g.all.map Say.dt := by simp
          rw [e1]
          exact dats_app (dats_stay (s4.trans sW).kts _ _ (says_noL _) dy) (dats_stay sW.kts _ _ (says_noL _) dz)
      · rintro σ H3 ⟨F, ys, v2, rfl, s3, eF, dy⟩
        rw [lx, List.take_length, ← all_eq] at dy
        exact ⟨_, rfl, k F ys H3 ((sF.trans s2).trans s3) eF dy⟩
theorem sc_l_due : FnScope ["_law_saying_here", "_law_found"] ["_law_saying_here"] (defScope s_l_due) := ⟨rfl, rfl, rfl, by decide +kernel, rfl, by decide +kernel, by decide +kernel⟩
theorem ok_l_due {a : Adr} (T : Txt K mg a) : FnOk P w K mg base CX0 17 a.f_l_due a.fd_l_due ["_law_saying_here"] (spDue K) := by
  have G_l_free : FnOk P w K mg base CX0 16 a.f_l_free a.fd_l_free ["_law_saying_here", "_law_bound", "_law_found"] (spLFree K 14) := ok_l_free T 14
  refine T.F_l_due.ok sc_l_due (fun vs H Q E h => ?_) (fun cdv A outer s H vs Q E hr h => ?_)
  · obtain ⟨x, f, ss, rfl, _⟩ := h
    rfl
  · obtain ⟨x, f, ss, rfl, hf, hlt, ov, hss, k⟩ := h
    have hr_l_free : Room 16 _ := hr
    refine ⟨_, (pss_cons (ps_set (i := 1) sc_l_due.nd rfl (Or.inl rfl) (pe_lst pa_nil))
    (pss_cons (ps_expr (pe_call G_l_free hr_l_free rfl T.m_l_free T.k_l_free T.b_l_free .nil pass0 (pa_cons (pv 0) (pa_cons (pe_lst pa_nil) (pa_cons (pv 1) pa_nil)))))
    (pss_one (ps_ret (pe_callTy (call_tupleK K) (by rfl) T.z_tuple bt_tuple (pa_cons (pe_callB (call_sortSK K) (by rfl) T.z_sorted bt_sorted (pa_cons (pv 1) pa_nil)) pa_nil)))))), ?_⟩
    refine ⟨by decide, fun Fo hFo => ?_⟩
    have sF := Same.new (o := .lst []) hFo
    refine ⟨_, rfl, by decide, fun Bd hBd => ?_⟩
    have sB := Same.new (o := .lst []) hBd
    have eF := sB _ _ (upd_same (H := H) (a := Fo) (o := .lst []))
    have nBF : Bd ≠ Fo := (ne_of_none upd_same hBd).symm
    have s2 := sF.trans sB
    refine ⟨_, rfl, x, f, ss, Bd, Fo, [], [], rfl, dat_stay s2.kts _ _ f.noL hf, ov, hss, upd_same, eF, nBF, by simp, by simp, by simp; omega, hlt, fun fs H3 k3 eF3 nd sub mem => ?_⟩
    have s3 : Same H H3 := s2.kbn hFo k3
    have lf := nodup_len nd sub
    refine ⟨_, rfl, Fo, fs, rfl, .of eF3, by omega, fun Z zs hZ perm srt => ?_⟩
    have sZ := Same.new (o := .lst (zs.map V.str)) hZ
    refine ⟨Z, _, rfl, .inl ⟨.of upd_same, fun D hD => ?_⟩⟩
    have sD := Same.new (o := .tup (zs.map V.str)) hD
    exact k D zs _ ((s3.trans sZ).trans sD) upd_same ⟨srt, perm.nodup_iff.mpr nd, fun y => by rw [perm.mem_iff, mem y]; simp⟩
end
def spLaw (K : PySem.W.Frag) : Sp := fun vs H Q _ => ∃ (a : Addr) (ns : List Int), vs = [.ref a] ∧ SqL K H a (ns.map V.int) ∧ ns.length ≤ 63 ∧ ∀ H', Q (.bl true) H'
theorem cutStr (ss : List Str) (n : Nat) : cutV (ss.map V.str) none (some (n : Int)) = (ss.take n).map V.str := by
  unfold cutV
  rw [show HT.sIx (ss.map V.str).length 0 none = 0 from rfl, HT.sIx_nat]
  rw [List.drop_zero, List.length_map, Nat.sub_zero, ← List.map_take]
  congr 1
  by_cases h : n ≤ ss.length
  · rw [Nat.min_eq_left h]
  · rw [Nat.min_eq_right (by omega), List.take_of_length_le (Nat.le_refl _), List.take_of_length_le (by omega)]
theorem deps_le {n : Nat} : ∀ {ds : List Dt}, (∀ d ∈ ds, d.dep ≤ n) → Dt.deps ds ≤ n
  | [], _ => by simp [Dt.deps]
  | d :: ds, h => by
    rw [Dt.deps]
    have h1 := h d List.mem_cons_self
    have h2 := deps_le (ds := ds) fun e he => h e (List.mem_cons_of_mem _ he)
    omega
theorem strs_dep (ks : List Str) : (Dt.tup (ks.map Dt.str)).dep ≤ 40 := by
  rw [Dt.dep]
  have := deps_le (n := 0) (ds := ks.map Dt.str) fun d hd => by
    obtain ⟨y, _, rfl⟩ := List.mem_map.mp hd
    simp [Dt.dep]
  omega
section
variable {P : Program} {w : World} {K : PySem.W.Frag} {mg : Str → Option Value} {base : Heap}
theorem sc_law : FnScope ["_law_script", "_law_deck_here", "_law_names_here", "_law_rows", "_law_deep", "_law_saying_here", "_law_one", "_law_found"] ["_law_script"] (defScope s_law) := ⟨rfl, rfl, rfl, by decide +kernel, rfl, by decide +kernel, by decide +kernel⟩
theorem ok_law {a : Adr} {b : PAdr} {c : TAdr} (T : Txt K mg a) (U : TopsP K w.params mg b) (Y : TopsT K w.params mg c) : FnOk P w K mg base CX0 18 a.f_law a.fd_law ["_law_script"] (spLaw K) := by
  have G_l_deck : FnOk P w K mg base CX0 1 a.f_l_deck a.fd_l_deck ["_law_script", "_law_many"] (spDeck2 K) := ok_l_deck T
  have G_l_next : FnOk P w K mg base CX0 1 a.f_l_next a.fd_l_next ["_law_deck_here", "_law_many"] spNext2 := ok_l_next T
  have G_l_names : FnOk P w K mg base CX0 2 a.f_l_names a.fd_l_names ["_law_deck_here", "_law_many", "_law_great"] spNames := ok_l_names T
  have G_l_saying : FnOk P w K mg base CX0 16 a.f_l_saying a.fd_l_saying ["_law_deck_here", "_law_names_here", "_law_rows", "_law_box", "_law_deep"] (spSaying K 12) := ok_l_saying T 12
  have G_l_all : FnOk P w K mg base CX0 16 a.f_l_all a.fd_l_all ["_law_saying_here"] (spAll K 14) := ok_l_all T 14
  have G_l_due : FnOk P w K mg base CX0 17 a.f_l_due a.fd_l_due ["_law_saying_here"] (spDue K) := ok_l_due T
  have G_free_names : FnOk P w K mg base CX0 4 a.f_free_names a.fd_free_names ["saying"] (spFree K) := ok_free_names T U Y
  refine T.F_law.ok sc_law (fun vs H Q E h => ?_) (fun cdv A outer s H vs Q E hr h => ?_)
  · obtain ⟨d, ms, rfl, _⟩ := h
    rfl
  · obtain ⟨sa, ns, rfl, hS, hns, k⟩ := h
    have hr_l_deck : Room 1 _ := hr.mono (by decide)
    have hr_l_next : Room 1 _ := hr.mono (by decide)
    have hr_l_names : Room 2 _ := hr.mono (by decide)
    have hr_l_saying : Room 16 _ := hr.mono (by decide)
    have hr_l_all : Room 16 _ := hr.mono (by decide)
    have hr_l_due : Room 17 _ := hr
    have hr_free_names : Room 4 _ := hr.mono (by decide)
    refine ⟨_, (pss_cons (ps_set (i := 1) sc_law.nd rfl (Or.inl rfl) (pe_call G_l_deck hr_l_deck rfl T.m_l_deck T.k_l_deck T.b_l_deck .nil pass0 (pa_cons (pv 0) (pa_cons pe_int pa_nil))))
    (pss_cons (ps_set (i := 2) sc_law.nd rfl (Or.inl rfl) (pe_call G_l_names hr_l_names rfl T.m_l_names T.k_l_names T.b_l_names .nil pass0 (pa_cons (pv 1) (pa_cons pe_int (pa_cons pe_bl pa_nil)))))
    (pss_cons (ps_set (i := 3) sc_law.nd rfl (Or.inl rfl) (pe_call G_l_names hr_l_names rfl T.m_l_names T.k_l_names T.b_l_names .nil pass0 (pa_cons (pv 1) (pa_cons (pe_call G_l_next hr_l_next rfl T.m_l_next T.k_l_next T.b_l_next .nil pass0 (pa_cons (pv 1) (pa_cons pe_int pa_nil))) (pa_cons pe_bl pa_nil)))))
    (pss_cons (ps_set (i := 4) sc_law.nd rfl (Or.inl rfl) (pe_call G_l_next hr_l_next rfl T.m_l_next T.k_l_next T.b_l_next .nil pass0 (pa_cons (pv 1) (pa_cons pe_int pa_nil))))
    (pss_cons (ps_set (i := 5) sc_law.nd rfl (Or.inl rfl) (pe_call G_l_saying hr_l_saying rfl T.m_l_saying T.k_l_saying T.b_l_saying .nil pass0 (pa_cons (pv 1) (pa_cons (pv 2) (pa_cons (pv 3) (pa_cons (pe_lst (pa_cons pe_int pa_nil)) (pa_cons (pv 4) pa_nil)))))))
    (pss_cons (ps_if (pt_cmpR (op_neD K hr.units) (pe_comp (CompScope.mk' (esc := defScope s_law) (N := ["_law_script", "_law_deck_here", "_law_names_here", "_law_rows", "_law_deep", "_law_saying_here", "_law_one", "_law_found"]) (own := ["_law_one"]) (frn := []) (frj := []) rfl rfl (by decide +kernel)) rfl (pi_list (pe_call G_l_all hr_l_all rfl T.m_l_all T.k_l_all T.b_l_all .nil pass0 (pa_cons (pv 5) pa_nil))) (fun _ _ _ _ => (pg_name (i := 0) (show List.Nodup (["_law_one"] : List Str) by decide +kernel) rfl (Or.inl rfl))) (fun _ _ _ _ => (pifs_one (pt_cmpR op_gt (pe_callB (call_lenK K) (by rfl) T.z_len bt_len (pa_cons (pe_call G_l_due hr_l_due rfl T.m_l_due T.k_l_due T.b_l_due .nil pass0 (pa_cons (pv 0) pa_nil)) pa_nil)) pe_int (nomark _)))) (fun _ _ _ _ => (pv 0))) (pe_lst pa_nil) (nomark _))
      (pss_one (ps_set (i := 5) sc_law.nd rfl (Or.inl rfl) (pe_call G_l_saying hr_l_saying rfl T.m_l_saying T.k_l_saying T.b_l_saying .nil pass0 (pa_cons (pe_call G_l_deck hr_l_deck rfl T.m_l_deck T.k_l_deck T.b_l_deck .nil pass0 (pa_cons (pv 0) (pa_cons pe_int pa_nil))) (pa_cons (pe_slice (sl_listK K) (pv 2) po_none (po_some pe_int)) (pa_cons (pv 3) (pa_cons (pe_lst (pa_cons pe_int pa_nil)) (pa_cons (pv 4) pa_nil))))))))
      pss_nil)
    (pss_cons (ps_for PassesOwn.never rfl (pi_list (pe_call G_l_all hr_l_all rfl T.m_l_all T.k_l_all T.b_l_all .nil pass0 (pa_cons (pv 5) pa_nil))) (pg_name (i := 6) sc_law.nd rfl (Or.inl rfl))
      (pss_cons (ps_set (i := 7) sc_law.nd rfl (Or.inl rfl) (pe_call G_free_names hr_free_names rfl T.m_free_names T.k_free_names T.b_free_names .nil pass0 (pa_cons (pv 6) pa_nil)))
      (pss_one (ps_if (PW.pt (pw_or (pt_not (pt_truth (pe_callB (call_isiK K) (by rfl) T.z_isinstance bt_isinstance (pa_cons (pv 7) (pa_cons (pe_bltn (v := .ty "tuple") rfl T.z_tuple bt_tuple rfl) pa_nil))) (fun _ => rfl))) (pw_or1 (pt_cmpR (op_neD K hr.units) (pv 7) (pe_call G_l_due hr_l_due rfl T.m_l_due T.k_l_due T.b_l_due .nil pass0 (pa_cons (pv 6) pa_nil)) (nomark _)))))
        (pss_one (ps_ret pe_bl))
        pss_nil))))
    (pss_one (ps_ret (pe_cmpR (op_eqD K hr.units) (pe_call G_free_names hr_free_names rfl T.m_free_names T.k_free_names T.b_free_names .nil pass0 (pa_cons (pv 5) pa_nil)) (pe_call G_l_due hr_l_due rfl T.m_l_due T.k_l_due T.b_l_due .nil pass0 (pa_cons (pv 5) pa_nil)) (nomark _))))))))))), ?_⟩
    refine ⟨_, rfl, sa, ns, rfl, hS, hns, fun d H1 hd s1 d1 => ?_⟩
    refine ⟨_, rfl, d, 4, false, rfl, d1, by decide, fun N ss H2 hN k2 d2 eN ls => ?_⟩
    have nNd : N ≠ d := (d1.ne hN).symm
    refine ⟨_, rfl, _, rfl, d, 5, rfl, d2, by decide, fun r H3 r0 r1 k3 d3 => ?_⟩
    obtain ⟨m, rfl⟩ : ∃ m : Nat, r = (m : Int) := ⟨r.toNat, by omega⟩
    refine ⟨d, m, true, rfl, d3, by omega, fun R rs H4 hR k4 d4 eR lr => ?_⟩
    have eN4 := k4 _ _ (k3 _ _ eN nNd) nNd
    have nRd : R ≠ d := (d3.ne hR).symm
    refine ⟨_, rfl, d, 12, rfl, d4, by decide, fun dp H5 p0 p1 k5 d5 => ?_⟩
    obtain ⟨dpn, rfl⟩ : ∃ m : Nat, dp = (m : Int) := ⟨dp.toNat, by omega⟩
    have eN5 := k5 _ _ eN4 nNd
    have eR5 := k5 _ _ eR nRd
    refine ⟨_, rfl, _, rfl, _, rfl, by show 1 ≤ sizeLine; decide, fun bx hbx => ?_⟩
    have sb := Same.new (o := .lst [.int 26]) hbx
    have nbd : bx ≠ d := (d5.ne hbx).symm
    have nNb : N ≠ bx := ne_of_none eN5 hbx
    have nRb : R ≠ bx := ne_of_none eR5 hbx
    refine ⟨_, rfl, d, N, R, bx, ss, rs, 26, dpn, rfl, d5.same sb, ⟨.of (sb _ _ eN5), nNd, nNb, by omega, by omega⟩, ⟨.of (sb _ _ eR5), nRd, nRb, by omega⟩, upd_same, nbd, by omega, fun p f H6 bk' hf hdeep k6 d6 hb6 => ?_⟩
    have eN6 := k6 _ _ (sb _ _ eN5) nNd nNb
    have eR6 := k6 _ _ (sb _ _ eR5) nRd nRb
    have hS6 : SqL K H6 sa (ns.map V.int) := by
      have go : ∀ o, H sa = some o → H6 sa = some o := fun o h => by
        have n1 : sa ≠ d := ne_of_none h hd
        have h5 := k5 _ _ (k4 _ _ (k3 _ _ (k2 _ _ (s1 _ _ h) n1) n1) n1) n1
        exact k6 _ _ (sb _ _ h5) n1 (ne_of_none h5 hbx)
      rcases hS with (h | ⟨o, h⟩) | h
      · exact .inl (.inl (go _ h))
      · exact .inl (.inr ⟨o, go _ h⟩)
      · exact .inr h
    have ss4 : ss.length = 4 := ls
    dsimp only [gName]
    refine seq_rest (t := tIfS _ _ _) (u := tSeq _ _) (fun σ H' => ∃ (p : Addr) (f : Say), σ = [some (.ref sa), some (.ref d), some (.ref N), some (.ref R), some (.int dpn), some (.ref p), none, none] ∧ DatAt K H' (.ref p) f.dt ∧ f.deep ≤ 11 ∧ f.Over ss) ?re (fun rest => ?ifp)
    case ifp =>
      refine ⟨_, rfl, .ref p, f, rfl, hf, by have := hdeep.1; omega, by have := hdeep.1; omega, fun D xs H7 s7 eD dts => ?_⟩
      have lx : xs.length = f.all.length := by rw [dts.length, List.length_map]
      have fsz := size16 (f := f) (by have := hdeep.1; omega)
      refine ⟨D, rfl, ⟨_, .of eD⟩, fun C hC => ?_⟩
      refine comp_list (xs := xs) (fun i σ H' => ∃ (ys : List V) (gs : List Say) (v : Option V), σ = [v] ∧ Same H7 H' ∧ H' C = some (.lst ys) ∧ DatsAt K H' ys (gs.map Say.dt) ∧ ys.length ≤ i ∧ ∀ g ∈ gs, g.deep ≤ 11)
        ⟨[], [], none, ?sg, Same.new hC, upd_same, dats_nil, Nat.le_refl _, by simp⟩ (fun i σ H' _ ⟨_, _, _, _, h, _⟩ => .of (h _ _ eD)) ?_ ?_
      case sg => rfl
      · rintro i y σ H8 hy ⟨ys, gs, v, rfl, s8, eC, dy, ly, hg⟩
        obtain ⟨d0, ed0, hd0⟩ := dts.get hy
        rw [List.getElem?_map] at ed0
        cases et : f.all[i]? with
        | none => rw [et] at ed0; cases ed0
        | some g =>
          rw [et] at ed0
          have ed0' : g.dt = d0 := Option.some.inj ed0
          subst ed0'
          obtain ⟨go, gd⟩ := over_all f hdeep.2 g (List.mem_of_getElem? et)
          have hi : i < xs.length := (List.getElem?_eq_some_iff.mp hy).1
          have gd11 : g.deep ≤ 11 := by have := hdeep.1; omega
          have dg := dat_stay s8.kts _ _ g.noL hd0
          refine ⟨_, rfl, y, g, ss, rfl, dg, by omega, go, by omega, fun r ks H9 s9 er ifr => ?_⟩
          refine ⟨_, ks.length, rfl, .inr ⟨_, .of er, by rw [List.length_map]⟩, _, _, rfl, rfl, _, rfl, ?_⟩
          have eC9 := s9 _ _ eC
          refine ite2 (fun _ => ?_) (fun _ => ?_)
          · refine ⟨_, rfl, ys, eC9, Nat.lt_of_le_of_lt (show ys.length ≤ 70000 by rw [all_size] at lx; omega) (by decide), ys ++ [y], gs ++ [g], _, rfl, (s8.trans s9).kbn hC KB.write, upd_same, ?_, by rw [List.length_append]; show ys.length + 1 ≤ i + 1; omega, fun u hu => ?_⟩
            · have kk : KTs K H9 (upd H9 C (.lst (ys ++ [y]))) := KB.kts eC9 KB.write
              rw [List.map_append]
              exact dats_app (dats_stay (s9.kts.trans kk) _ _ (says_noL _) dy) (dats_cons (dat_stay (s9.kts.trans kk) _ _ g.noL dg) dats_nil)
            · rcases List.mem_append.mp hu with z | z
              · exact hg u z
              · rw [List.mem_singleton.mp z]; exact gd11
          · exact ⟨ys, gs, _, rfl, s8.trans s9, eC9, dats_stay s9.kts _ _ (says_noL _) dy, by omega, hg⟩
      rintro σ H8 ⟨ys, gs, v, rfl, s8, eC, dy, ly, hg⟩
      refine ⟨by decide, fun O hO => ?_⟩
      have sO := Same.new (o := .lst []) hO
      have s9 := (s7.trans s8).trans sO
      have dl : DatAt K (upd H8 O (.lst [])) (.ref C) (.lst (gs.map Say.dt)) := dat_lst (.of (sO _ _ eC)) (dats_stay sO.kts _ _ (says_noL _) dy)
      have d0 : DatAt K (upd H8 O (.lst [])) (.ref O) (.lst []) := dat_lst (.of upd_same) dats_nil
      generalize upd H8 O (.lst []) = H9 at s9 dl d0 ⊢
      refine ⟨⟨.lst (gs.map Say.dt), .lst [], dl, d0, rfl, rfl, ?_, _, rfl, ?_⟩, .lst (gs.map Say.dt), .lst [], dl, d0, .inr ⟨_, _, rfl, rfl⟩⟩
      · rw [Dt.dep]
        have := deps_le (n := 15) (ds := gs.map Say.dt) fun d hd => by
          obtain ⟨u, hu, rfl⟩ := List.mem_map.mp hd
          have h1 := u.dep
          have h2 := hg u hu
          omega
        omega
      have hf9 := dat_stay s9.kts _ _ f.noL hf
      refine ite2 (fun _ => ?_) (fun _ => rest _ _ ⟨p, f, rfl, hf9, by have := hdeep.1; omega, hdeep.2⟩)
      have eN9 := s9 _ _ eN6
      have eR9 := s9 _ _ eR6
      refine ⟨_, rfl, sa, ns, rfl, s9.seq hS6, hns, fun d' H10 hd' s10 d10 => ?_⟩
      have eN10 := s10 _ _ eN9
      have eR10 := s10 _ _ eR9
      have nRd' : R ≠ d' := ne_of_none eR9 hd'
      refine ⟨_, rfl, _, rfl, N, _, rfl, .of eN10, fun N3 hN3 => ?_⟩
      rw [show (some (3 : Int)) = some ((3 : Nat) : Int) from rfl, cutStr]
      have s11 := Same.new (o := .lst ((ss.take 3).map V.str)) hN3
      have nN3 : N3 ≠ d' := (d10.ne hN3).symm
      refine ⟨_, rfl, by show 1 ≤ sizeLine; decide, fun b2 hb2 => ?_⟩
      have s12 := Same.new (o := .lst [.int 26]) hb2
      have d12 := (d10.same s11).same s12
      have e12 := s12 _ _ (upd_same (H := H10) (a := N3) (o := .lst ((ss.take 3).map V.str)))
      have nN3b : N3 ≠ b2 := ne_of_none upd_same hb2
      have eR12 := s12 _ _ (s11 _ _ eR10)
      have nRb2 : R ≠ b2 := ne_of_none (s11 _ _ eR10) hb2
      have l3 : (ss.take 3).length = 3 := by rw [List.length_take]; omega
      refine ⟨_, rfl, d', N3, R, b2, ss.take 3, rs, 26, dpn, rfl, d12, ⟨.of e12, nN3, nN3b, by omega, by omega⟩, ⟨.of eR12, nRd', nRb2, by omega⟩, upd_same, ((d10.same s11).ne hb2).symm, by omega, fun p2 f2 H13 bk2 hf2 hdeep2 k13 d13 hb13 => ?_⟩
      exact rest _ _ ⟨p2, f2, rfl, hf2, by have := hdeep2.1; omega, over_mono (fun y hy => List.mem_of_mem_take hy) hdeep2.2⟩
    rintro σ H7 ⟨p, f, rfl, hf, hd11, ov⟩
    refine ⟨_, rfl, .ref p, f, rfl, hf, by omega, by omega, fun D xs H8 s8 eD dts => ?_⟩
    refine ⟨D, rfl, ⟨_, .of eD⟩, for_list (xs := xs) (fun i σ H' => ∃ (v6 v7 : Option V), σ = [some (.ref sa), some (.ref d), some (.ref N), some (.ref R), some (.int dpn), some (.ref p), v6, v7] ∧ Same H8 H')
      ⟨none, none, rfl, Same.refl _⟩ (fun i σ H' _ ⟨_, _, _, h⟩ => .of (h _ _ eD)) ?_ ?_⟩
    · rintro i y σ H9 hy ⟨v6, v7, rfl, s9⟩
      obtain ⟨d0, ed0, hd0⟩ := dts.get hy
      rw [List.getElem?_map] at ed0
      cases et : f.all[i]? with
      | none => rw [et] at ed0; cases ed0
      | some g =>
        rw [et] at ed0
        have ed0' : g.dt = d0 := Option.some.inj ed0
        subst ed0'
        obtain ⟨go, gd⟩ := over_all f ov g (List.mem_of_getElem? et)
        have dg := dat_stay s9.kts _ _ g.noL hd0
        refine ⟨_, rfl, y, g, ss, rfl, dg, by omega, go, by omega, fun r ks H10 s10 er ifr => ?_⟩
        refine ⟨_, rfl, V.ref r, _, "tuple", true, rfl, TyOf.tup er, kit_tt, true, rfl, iteF ?_⟩
        refine ⟨_, rfl, _, rfl, y, g, ss, rfl, dat_stay s10.kts _ _ g.noL dg, by omega, go, by omega, fun r2 ks2 H11 s11 er2 ifr2 => ?_⟩
        have e := ifr.uniq ifr2
        subst e
        have t1 : DatAt K H11 (.ref r) (.tup (ks.map Dt.str)) := dat_tup (.of (s11 _ _ er)) (dats_strs ks)
        have t2 : DatAt K H11 (.ref r2) (.tup (ks.map Dt.str)) := dat_tup (.of er2) (dats_strs ks)
        refine ⟨⟨_, _, t1, t2, rfl, rfl, strs_dep ks, ?_⟩, _, _, t1, t2, .inl ⟨_, _, rfl, rfl⟩⟩
        rw [Dt.beq_refl]
        exact ⟨false, rfl, iteF ⟨_, _, rfl, (s9.trans s10).trans s11⟩⟩
    · rintro σ H9 ⟨v6, v7, rfl, s9⟩
      have dg := dat_stay (s8.trans s9).kts _ _ f.noL hf
      refine ⟨_, rfl, .ref p, f, ss, rfl, dg, by omega, ov, by omega, fun r ks H10 s10 er ifr => ?_⟩
      refine ⟨_, rfl, .ref p, f, ss, rfl, dat_stay s10.kts _ _ f.noL dg, by omega, ov, by omega, fun r2 ks2 H11 s11 er2 ifr2 => ?_⟩
      have e := ifr.uniq ifr2
      subst e
      have t1 : DatAt K H11 (.ref r) (.tup (ks.map Dt.str)) := dat_tup (.of (s11 _ _ er)) (dats_strs ks)
      have t2 : DatAt K H11 (.ref r2) (.tup (ks.map Dt.str)) := dat_tup (.of er2) (dats_strs ks)
      refine ⟨_, _, t1, t2, rfl, rfl, strs_dep ks, ?_⟩
      rw [Dt.beq_refl]
      exact k _
end
end My
set_option Elab.async false
set_option linter.all false
set_option maxRecDepth 100000
set_option maxHeartbeats 4000000
namespace My
open PySem L2
theorem all_mk {l : PySem.W.OpenLaw} {w : World} {K : PySem.W.Frag} {h : Heap} {mg : Str → Option Value} {fa : Addr} (X : K.In h) (G : h.Ns mainGlobals mg) (hfa : mg "law" = some (.ref fa))
    {f0 : Addr} {od0 an0 : Option Addr} {sl0 : Array (Option Value)} {oc0 kV0 dc0 pm0 cd0 ct0 : Value}
    {f1 : Addr} {od1 an1 : Option Addr} {sl1 : Array (Option Value)} {oc1 kV1 dc1 pm1 cd1 ct1 : Value}
    {f2 : Addr} {od2 an2 : Option Addr} {sl2 : Array (Option Value)} {oc2 kV2 dc2 pm2 cd2 ct2 : Value}
    {f3 : Addr} {od3 an3 : Option Addr} {sl3 : Array (Option Value)} {oc3 kV3 dc3 pm3 cd3 ct3 : Value}
    {f4 : Addr} {od4 an4 : Option Addr} {sl4 : Array (Option Value)} {oc4 kV4 dc4 pm4 cd4 ct4 : Value}
    {f5 : Addr} {od5 an5 : Option Addr} {sl5 : Array (Option Value)} {oc5 kV5 dc5 pm5 cd5 ct5 : Value}
    {f6 : Addr} {od6 an6 : Option Addr} {sl6 : Array (Option Value)} {oc6 kV6 dc6 pm6 cd6 ct6 : Value}
    {f7 : Addr} {od7 an7 : Option Addr} {sl7 : Array (Option Value)} {oc7 kV7 dc7 pm7 cd7 ct7 : Value}
    {f8 : Addr} {od8 an8 : Option Addr} {sl8 : Array (Option Value)} {oc8 kV8 dc8 pm8 cd8 ct8 : Value}
    {f9 : Addr} {od9 an9 : Option Addr} {sl9 : Array (Option Value)} {oc9 kV9 dc9 pm9 cd9 ct9 : Value}
    {f10 : Addr} {od10 an10 : Option Addr} {sl10 : Array (Option Value)} {oc10 kV10 dc10 pm10 cd10 ct10 : Value}
    {f11 : Addr} {od11 an11 : Option Addr} {sl11 : Array (Option Value)} {oc11 kV11 dc11 pm11 cd11 ct11 : Value}
    {f12 : Addr} {od12 an12 : Option Addr} {sl12 : Array (Option Value)} {oc12 kV12 dc12 pm12 cd12 ct12 : Value}
    {f13 : Addr} {od13 an13 : Option Addr} {sl13 : Array (Option Value)} {oc13 kV13 dc13 pm13 cd13 ct13 : Value}
    {f14 : Addr} {od14 an14 : Option Addr} {sl14 : Array (Option Value)} {oc14 kV14 dc14 pm14 cd14 ct14 : Value}
    {f15 : Addr} {od15 an15 : Option Addr} {sl15 : Array (Option Value)} {oc15 kV15 dc15 pm15 cd15 ct15 : Value}
    {f16 : Addr} {od16 an16 : Option Addr} {sl16 : Array (Option Value)} {oc16 kV16 dc16 pm16 cd16 ct16 : Value}
    {f17 : Addr} {od17 an17 : Option Addr} {sl17 : Array (Option Value)} {oc17 kV17 dc17 pm17 cd17 ct17 : Value}
    {f18 : Addr} {od18 an18 : Option Addr} {sl18 : Array (Option Value)} {oc18 kV18 dc18 pm18 cd18 ct18 : Value}
    (a0 : PySem.W.nsIn K mainGlobals "inner_parts" = some (some (.ref f0))) (l0 : K.lookup f0 = some ⟨oc0, od0, .func (PySem.W.fnOf "inner_parts" "inner_parts" (defArgs s_inner_parts) (defBody s_inner_parts) (defScope s_inner_parts) .none kV0 dc0 pm0 an0 cd0 ct0), sl0⟩) (c0 : PySem.W.codeIn K cd0 "inner_parts" = true) (k0 : PySem.W.keepIn K (.ref f0) = true)
    (a1 : PySem.W.nsIn K mainGlobals "term_names" = some (some (.ref f1))) (l1 : K.lookup f1 = some ⟨oc1, od1, .func (PySem.W.fnOf "term_names" "term_names" (defArgs s_term_names) (defBody s_term_names) (defScope s_term_names) .none kV1 dc1 pm1 an1 cd1 ct1), sl1⟩) (c1 : PySem.W.codeIn K cd1 "term_names" = true) (k1 : PySem.W.keepIn K (.ref f1) = true)
    (a2 : PySem.W.nsIn K mainGlobals "parts_in_order" = some (some (.ref f2))) (l2 : K.lookup f2 = some ⟨oc2, od2, .func (PySem.W.fnOf "parts_in_order" "parts_in_order" (defArgs s_parts_in_order) (defBody s_parts_in_order) (defScope s_parts_in_order) .none kV2 dc2 pm2 an2 cd2 ct2), sl2⟩) (c2 : PySem.W.codeIn K cd2 "parts_in_order" = true) (k2 : PySem.W.keepIn K (.ref f2) = true)
    (a3 : PySem.W.nsIn K mainGlobals "told_of_parts" = some (some (.ref f3))) (l3 : K.lookup f3 = some ⟨oc3, od3, .func (PySem.W.fnOf "told_of_parts" "told_of_parts" (defArgs s_told_of_parts) (defBody s_told_of_parts) (defScope s_told_of_parts) .none kV3 dc3 pm3 an3 cd3 ct3), sl3⟩) (c3 : PySem.W.codeIn K cd3 "told_of_parts" = true) (k3 : PySem.W.keepIn K (.ref f3) = true)
    (a4 : PySem.W.nsIn K mainGlobals "names_over" = some (some (.ref f4))) (l4 : K.lookup f4 = some ⟨oc4, od4, .func (PySem.W.fnOf "names_over" "names_over" (defArgs s_names_over) (defBody s_names_over) (defScope s_names_over) .none kV4 dc4 pm4 an4 cd4 ct4), sl4⟩) (c4 : PySem.W.codeIn K cd4 "names_over" = true) (k4 : PySem.W.keepIn K (.ref f4) = true)
    (a5 : PySem.W.nsIn K mainGlobals "names_by_place" = some (some (.ref f5))) (l5 : K.lookup f5 = some ⟨oc5, od5, .func (PySem.W.fnOf "names_by_place" "names_by_place" (defArgs s_names_by_place) (defBody s_names_by_place) (defScope s_names_by_place) .none kV5 dc5 pm5 an5 cd5 ct5), sl5⟩) (c5 : PySem.W.codeIn K cd5 "names_by_place" = true) (k5 : PySem.W.keepIn K (.ref f5) = true)
    (a6 : PySem.W.nsIn K mainGlobals "free_names" = some (some (.ref f6))) (l6 : K.lookup f6 = some ⟨oc6, od6, .func (PySem.W.fnOf "free_names" "free_names" (defArgs s_free_names) (defBody s_free_names) (defScope s_free_names) .none kV6 dc6 pm6 an6 cd6 ct6), sl6⟩) (c6 : PySem.W.codeIn K cd6 "free_names" = true) (k6 : PySem.W.keepIn K (.ref f6) = true)
    (a7 : PySem.W.nsIn K mainGlobals "_law_deck" = some (some (.ref f7))) (l7 : K.lookup f7 = some ⟨oc7, od7, .func (PySem.W.fnOf "_law_deck" "_law_deck" (defArgs s_l_deck) (defBody s_l_deck) (defScope s_l_deck) .none kV7 dc7 pm7 an7 cd7 ct7), sl7⟩) (c7 : PySem.W.codeIn K cd7 "_law_deck" = true) (k7 : PySem.W.keepIn K (.ref f7) = true)
    (a8 : PySem.W.nsIn K mainGlobals "_law_next" = some (some (.ref f8))) (l8 : K.lookup f8 = some ⟨oc8, od8, .func (PySem.W.fnOf "_law_next" "_law_next" (defArgs s_l_next) (defBody s_l_next) (defScope s_l_next) .none kV8 dc8 pm8 an8 cd8 ct8), sl8⟩) (c8 : PySem.W.codeIn K cd8 "_law_next" = true) (k8 : PySem.W.keepIn K (.ref f8) = true)
    (a9 : PySem.W.nsIn K mainGlobals "_law_names" = some (some (.ref f9))) (l9 : K.lookup f9 = some ⟨oc9, od9, .func (PySem.W.fnOf "_law_names" "_law_names" (defArgs s_l_names) (defBody s_l_names) (defScope s_l_names) .none kV9 dc9 pm9 an9 cd9 ct9), sl9⟩) (c9 : PySem.W.codeIn K cd9 "_law_names" = true) (k9 : PySem.W.keepIn K (.ref f9) = true)
    (a10 : PySem.W.nsIn K mainGlobals "_law_term" = some (some (.ref f10))) (l10 : K.lookup f10 = some ⟨oc10, od10, .func (PySem.W.fnOf "_law_term" "_law_term" (defArgs s_l_term) (defBody s_l_term) (defScope s_l_term) .none kV10 dc10 pm10 an10 cd10 ct10), sl10⟩) (c10 : PySem.W.codeIn K cd10 "_law_term" = true) (k10 : PySem.W.keepIn K (.ref f10) = true)
    (a11 : PySem.W.nsIn K mainGlobals "_law_plain" = some (some (.ref f11))) (l11 : K.lookup f11 = some ⟨oc11, od11, .func (PySem.W.fnOf "_law_plain" "_law_plain" (defArgs s_l_plain) (defBody s_l_plain) (defScope s_l_plain) .none kV11 dc11 pm11 an11 cd11 ct11), sl11⟩) (c11 : PySem.W.codeIn K cd11 "_law_plain" = true) (k11 : PySem.W.keepIn K (.ref f11) = true)
    (a12 : PySem.W.nsIn K mainGlobals "_law_saying" = some (some (.ref f12))) (l12 : K.lookup f12 = some ⟨oc12, od12, .func (PySem.W.fnOf "_law_saying" "_law_saying" (defArgs s_l_saying) (defBody s_l_saying) (defScope s_l_saying) .none kV12 dc12 pm12 an12 cd12 ct12), sl12⟩) (c12 : PySem.W.codeIn K cd12 "_law_saying" = true) (k12 : PySem.W.keepIn K (.ref f12) = true)
    (a13 : PySem.W.nsIn K mainGlobals "_law_terms" = some (some (.ref f13))) (l13 : K.lookup f13 = some ⟨oc13, od13, .func (PySem.W.fnOf "_law_terms" "_law_terms" (defArgs s_l_terms) (defBody s_l_terms) (defScope s_l_terms) .none kV13 dc13 pm13 an13 cd13 ct13), sl13⟩) (c13 : PySem.W.codeIn K cd13 "_law_terms" = true) (k13 : PySem.W.keepIn K (.ref f13) = true)
    (a14 : PySem.W.nsIn K mainGlobals "_law_inner" = some (some (.ref f14))) (l14 : K.lookup f14 = some ⟨oc14, od14, .func (PySem.W.fnOf "_law_inner" "_law_inner" (defArgs s_l_inner) (defBody s_l_inner) (defScope s_l_inner) .none kV14 dc14 pm14 an14 cd14 ct14), sl14⟩) (c14 : PySem.W.codeIn K cd14 "_law_inner" = true) (k14 : PySem.W.keepIn K (.ref f14) = true)
    (a15 : PySem.W.nsIn K mainGlobals "_law_free" = some (some (.ref f15))) (l15 : K.lookup f15 = some ⟨oc15, od15, .func (PySem.W.fnOf "_law_free" "_law_free" (defArgs s_l_free) (defBody s_l_free) (defScope s_l_free) .none kV15 dc15 pm15 an15 cd15 ct15), sl15⟩) (c15 : PySem.W.codeIn K cd15 "_law_free" = true) (k15 : PySem.W.keepIn K (.ref f15) = true)
    (a16 : PySem.W.nsIn K mainGlobals "_law_all" = some (some (.ref f16))) (l16 : K.lookup f16 = some ⟨oc16, od16, .func (PySem.W.fnOf "_law_all" "_law_all" (defArgs s_l_all) (defBody s_l_all) (defScope s_l_all) .none kV16 dc16 pm16 an16 cd16 ct16), sl16⟩) (c16 : PySem.W.codeIn K cd16 "_law_all" = true) (k16 : PySem.W.keepIn K (.ref f16) = true)
    (a17 : PySem.W.nsIn K mainGlobals "_law_due" = some (some (.ref f17))) (l17 : K.lookup f17 = some ⟨oc17, od17, .func (PySem.W.fnOf "_law_due" "_law_due" (defArgs s_l_due) (defBody s_l_due) (defScope s_l_due) .none kV17 dc17 pm17 an17 cd17 ct17), sl17⟩) (c17 : PySem.W.codeIn K cd17 "_law_due" = true) (k17 : PySem.W.keepIn K (.ref f17) = true)
    (a18 : PySem.W.nsIn K mainGlobals "law" = some (some (.ref f18))) (l18 : K.lookup f18 = some ⟨oc18, od18, .func (PySem.W.fnOf "law" "law" (defArgs s_law) (defBody s_law) (defScope s_law) .none kV18 dc18 pm18 an18 cd18 ct18), sl18⟩) (c18 : PySem.W.codeIn K cd18 "law" = true) (k18 : PySem.W.keepIn K (.ref f18) = true)
    (z0 : PySem.W.nsIn K mainGlobals "list" = some none)
    (z1 : PySem.W.nsIn K mainGlobals "tuple" = some none)
    (z2 : PySem.W.nsIn K mainGlobals "range" = some none)
    (z3 : PySem.W.nsIn K mainGlobals "sorted" = some none)
    (z4 : PySem.W.nsIn K mainGlobals "enumerate" = some none)
    (z5 : PySem.W.nsIn K mainGlobals "reversed" = some none)
    (z6 : PySem.W.nsIn K mainGlobals "min" = some none)
    (z7 : PySem.W.nsIn K mainGlobals "len" = some none)
    (z8 : PySem.W.nsIn K mainGlobals "int" = some none)
    (z9 : PySem.W.nsIn K mainGlobals "set" = some none)
    (z10 : PySem.W.nsIn K mainGlobals "isinstance" = some none)
    {pd : Addr} {pes : Array DictEntry} {pn : Nat}
    {p_no : Addr} {pn_no : Nat} {pt_no0 : _}
    {p_an : Addr} {pn_an : Nat} {pt_an0 : _} {pt_an1 : _}
    {p_or : Addr} {pn_or : Nat} {pt_or0 : _} {pt_or1 : _}
    {p_so : Addr} {pn_so : Nat} {pt_so0 : _}
    {p_ea : Addr} {pn_ea : Nat} {pt_ea0 : _}
    (p_a : PySem.W.nsIn K mainGlobals "PART_SPOTS" = some (some (.ref pd))) (p_l : K.lookup pd = some ⟨.type "dict", none, .dict pes pn, #[]⟩) (p_k : PySem.W.KeysLit w.params pes.toList) (p_s : (pd == sysModules) = false)
    (pq_no : PySem.W.nsIn K pd "not" = some (some (.ref p_no))) (pr_no : K.lookup p_no = some ⟨.type "tuple", none, .seq #[.int 1 pt_no0] pn_no, #[]⟩)
    (pq_an : PySem.W.nsIn K pd "and" = some (some (.ref p_an))) (pr_an : K.lookup p_an = some ⟨.type "tuple", none, .seq #[.int 1 pt_an0, .int 2 pt_an1] pn_an, #[]⟩)
    (pq_or : PySem.W.nsIn K pd "or" = some (some (.ref p_or))) (pr_or : K.lookup p_or = some ⟨.type "tuple", none, .seq #[.int 1 pt_or0, .int 2 pt_or1] pn_or, #[]⟩)
    (pq_so : PySem.W.nsIn K pd "some" = some (some (.ref p_so))) (pr_so : K.lookup p_so = some ⟨.type "tuple", none, .seq #[.int 2 pt_so0] pn_so, #[]⟩)
    (pq_ea : PySem.W.nsIn K pd "each" = some (some (.ref p_ea))) (pr_ea : K.lookup p_ea = some ⟨.type "tuple", none, .seq #[.int 2 pt_ea0] pn_ea, #[]⟩)
    (pq_same : PySem.W.nsIn K pd "same" = some none)
    (pq_less : PySem.W.nsIn K pd "less" = some none)
    (pq_sign : PySem.W.nsIn K pd "sign" = some none)
    (pq_alike : PySem.W.nsIn K pd "alike" = some none)
    {sd : Addr} {ses : Array DictEntry} {sn : Nat}
    {s_sa : Addr} {sn_sa : Nat} {st_sa0 : _} {st_sa1 : _}
    {s_le : Addr} {sn_le : Nat} {st_le0 : _} {st_le1 : _}
    {s_si : Addr} {sn_si : Nat} {st_si0 : _}
    {s_al : Addr} {sn_al : Nat} {st_al0 : _} {st_al1 : _}
    (s_a : PySem.W.nsIn K mainGlobals "TERM_SPOTS" = some (some (.ref sd))) (s_l : K.lookup sd = some ⟨.type "dict", none, .dict ses sn, #[]⟩) (s_k : PySem.W.KeysLit w.params ses.toList) (s_s : (sd == sysModules) = false)
    (sq_sa : PySem.W.nsIn K sd "same" = some (some (.ref s_sa))) (sr_sa : K.lookup s_sa = some ⟨.type "tuple", none, .seq #[.int 1 st_sa0, .int 2 st_sa1] sn_sa, #[]⟩)
    (sq_le : PySem.W.nsIn K sd "less" = some (some (.ref s_le))) (sr_le : K.lookup s_le = some ⟨.type "tuple", none, .seq #[.int 1 st_le0, .int 2 st_le1] sn_le, #[]⟩)
    (sq_si : PySem.W.nsIn K sd "sign" = some (some (.ref s_si))) (sr_si : K.lookup s_si = some ⟨.type "tuple", none, .seq #[.int 2 st_si0] sn_si, #[]⟩)
    (sq_al : PySem.W.nsIn K sd "alike" = some (some (.ref s_al))) (sr_al : K.lookup s_al = some ⟨.type "tuple", none, .seq #[.int 2 st_al0, .int 4 st_al1] sn_al, #[]⟩)
    (sq_not : PySem.W.nsIn K sd "not" = some none)
    (sq_and : PySem.W.nsIn K sd "and" = some none)
    (sq_or : PySem.W.nsIn K sd "or" = some none)
    (sq_some : PySem.W.nsIn K sd "some" = some none)
    (sq_each : PySem.W.nsIn K sd "each" = some none)
    : ∃ fd : FuncData, (∀ (s : Shared) (v : Value), BindsTo s fd ⟨[v], []⟩ [("_law_script", v)]) ∧ ∀ base : Heap, K.In base → base.Ns mainGlobals mg → FnOk l.prog w K mg base CX0 18 fa fd ["_law_script"] (spLaw K) := by
  have e := hfa.symm.trans (PySem.W.mg_of X G a18)
  cases e
  have F0 := fun_mk (st := s_inner_parts) l0 c0 k0
  have b0 := F0.binds (ps := ["saying"]) fun _ _ _ _ _ _ us hl => match us, hl with | [_], _ => rfl
  have F1 := fun_mk (st := s_term_names) l1 c1 k1
  have b1 := F1.binds (ps := ["saying"]) fun _ _ _ _ _ _ us hl => match us, hl with | [_], _ => rfl
  have F2 := fun_mk (st := s_parts_in_order) l2 c2 k2
  have b2 := F2.binds (ps := ["saying"]) fun _ _ _ _ _ _ us hl => match us, hl with | [_], _ => rfl
  have F3 := fun_mk (st := s_told_of_parts) l3 c3 k3
  have b3 := F3.binds (ps := ["told", "place", "saying"]) fun _ _ _ _ _ _ us hl => match us, hl with | [_, _, _], _ => rfl
  have F4 := fun_mk (st := s_names_over) l4 c4 k4
  have b4 := F4.binds (ps := ["saying", "inner"]) fun _ _ _ _ _ _ us hl => match us, hl with | [_, _], _ => rfl
  have F5 := fun_mk (st := s_names_by_place) l5 c5 k5
  have b5 := F5.binds (ps := ["saying"]) fun _ _ _ _ _ _ us hl => match us, hl with | [_], _ => rfl
  have F6 := fun_mk (st := s_free_names) l6 c6 k6
  have b6 := F6.binds (ps := ["saying"]) fun _ _ _ _ _ _ us hl => match us, hl with | [_], _ => rfl
  have F7 := fun_mk (st := s_l_deck) l7 c7 k7
  have b7 := F7.binds (ps := ["_law_script", "_law_many"]) fun _ _ _ _ _ _ us hl => match us, hl with | [_, _], _ => rfl
  have F8 := fun_mk (st := s_l_next) l8 c8 k8
  have b8 := F8.binds (ps := ["_law_deck_here", "_law_many"]) fun _ _ _ _ _ _ us hl => match us, hl with | [_, _], _ => rfl
  have F9 := fun_mk (st := s_l_names) l9 c9 k9
  have b9 := F9.binds (ps := ["_law_deck_here", "_law_many", "_law_great"]) fun _ _ _ _ _ _ us hl => match us, hl with | [_, _, _], _ => rfl
  have F10 := fun_mk (st := s_l_term) l10 c10 k10
  have b10 := F10.binds (ps := ["_law_deck_here", "_law_names_here"]) fun _ _ _ _ _ _ us hl => match us, hl with | [_, _], _ => rfl
  have F11 := fun_mk (st := s_l_plain) l11 c11 k11
  have b11 := F11.binds (ps := ["_law_deck_here", "_law_names_here", "_law_rows"]) fun _ _ _ _ _ _ us hl => match us, hl with | [_, _, _], _ => rfl
  have F12 := fun_mk (st := s_l_saying) l12 c12 k12
  have b12 := F12.binds (ps := ["_law_deck_here", "_law_names_here", "_law_rows", "_law_box", "_law_deep"]) fun _ _ _ _ _ _ us hl => match us, hl with | [_, _, _, _, _], _ => rfl
  have F13 := fun_mk (st := s_l_terms) l13 c13 k13
  have b13 := F13.binds (ps := ["_law_saying_here"]) fun _ _ _ _ _ _ us hl => match us, hl with | [_], _ => rfl
  have F14 := fun_mk (st := s_l_inner) l14 c14 k14
  have b14 := F14.binds (ps := ["_law_saying_here"]) fun _ _ _ _ _ _ us hl => match us, hl with | [_], _ => rfl
  have F15 := fun_mk (st := s_l_free) l15 c15 k15
  have b15 := F15.binds (ps := ["_law_saying_here", "_law_bound", "_law_found"]) fun _ _ _ _ _ _ us hl => match us, hl with | [_, _, _], _ => rfl
  have F16 := fun_mk (st := s_l_all) l16 c16 k16
  have b16 := F16.binds (ps := ["_law_saying_here"]) fun _ _ _ _ _ _ us hl => match us, hl with | [_], _ => rfl
  have F17 := fun_mk (st := s_l_due) l17 c17 k17
  have b17 := F17.binds (ps := ["_law_saying_here"]) fun _ _ _ _ _ _ us hl => match us, hl with | [_], _ => rfl
  have F18 := fun_mk (st := s_law) l18 c18 k18
  have T : Txt K mg ⟨f0, _, f1, _, f2, _, f3, _, f4, _, f5, _, f6, _, f7, _, f8, _, f9, _, f10, _, f11, _, f12, _, f13, _, f14, _, f15, _, f16, _, f17, _, fa, _⟩ := ⟨F0, PySem.W.mg_of X G a0, k0, b0, F1, PySem.W.mg_of X G a1, k1, b1, F2, PySem.W.mg_of X G a2, k2, b2, F3, PySem.W.mg_of X G a3, k3, b3, F4, PySem.W.mg_of X G a4, k4, b4, F5, PySem.W.mg_of X G a5, k5, b5, F6, PySem.W.mg_of X G a6, k6, b6, F7, PySem.W.mg_of X G a7, k7, b7, F8, PySem.W.mg_of X G a8, k8, b8, F9, PySem.W.mg_of X G a9, k9, b9, F10, PySem.W.mg_of X G a10, k10, b10, F11, PySem.W.mg_of X G a11, k11, b11, F12, PySem.W.mg_of X G a12, k12, b12, F13, PySem.W.mg_of X G a13, k13, b13, F14, PySem.W.mg_of X G a14, k14, b14, F15, PySem.W.mg_of X G a15, k15, b15, F16, PySem.W.mg_of X G a16, k16, b16, F17, PySem.W.mg_of X G a17, k17, b17, F18, PySem.W.mg_of X G a18, PySem.W.mg_none_of X G z0, PySem.W.mg_none_of X G z1, PySem.W.mg_none_of X G z2, PySem.W.mg_none_of X G z3, PySem.W.mg_none_of X G z4, PySem.W.mg_none_of X G z5, PySem.W.mg_none_of X G z6, PySem.W.mg_none_of X G z7, PySem.W.mg_none_of X G z8, PySem.W.mg_none_of X G z9, PySem.W.mg_none_of X G z10⟩
  have Dp : TopDict K w.params pd (partTab ⟨pd, p_no, p_an, p_or, p_so, p_ea⟩) := ⟨⟨pes, pn, p_l, p_k, by
    intro x r hm
    simp only [partTab, List.mem_cons, List.mem_nil_iff, or_false, Prod.mk.injEq] at hm
    rcases hm with ⟨rfl, rfl⟩ | ⟨rfl, rfl⟩ | ⟨rfl, rfl⟩ | ⟨rfl, rfl⟩ | ⟨rfl, rfl⟩ | ⟨rfl, rfl⟩ | ⟨rfl, rfl⟩ | ⟨rfl, rfl⟩ | ⟨rfl, rfl⟩
    · rw [PySem.W.find_K p_l pq_no]; exact rfl
    · rw [PySem.W.find_K p_l pq_an]; exact rfl
    · rw [PySem.W.find_K p_l pq_or]; exact rfl
    · rw [PySem.W.find_K p_l pq_so]; exact rfl
    · rw [PySem.W.find_K p_l pq_ea]; exact rfl
    · rw [PySem.W.find_K p_l pq_same]; exact True.intro
    · rw [PySem.W.find_K p_l pq_less]; exact True.intro
    · rw [PySem.W.find_K p_l pq_sign]; exact True.intro
    · rw [PySem.W.find_K p_l pq_alike]; exact True.intro⟩, p_s⟩
  have U : TopsP K w.params mg ⟨pd, p_no, p_an, p_or, p_so, p_ea⟩ := ⟨PySem.W.mg_of X G p_a, Dp, fun H => sqT_top (us := [.int 1 _]) pr_no (.cons ⟨_, rfl⟩ (.nil)) (by decide), fun H => sqT_top (us := [.int 1 _, .int 2 _]) pr_an (.cons ⟨_, rfl⟩ (.cons ⟨_, rfl⟩ (.nil))) (by decide), fun H => sqT_top (us := [.int 1 _, .int 2 _]) pr_or (.cons ⟨_, rfl⟩ (.cons ⟨_, rfl⟩ (.nil))) (by decide), fun H => sqT_top (us := [.int 2 _]) pr_so (.cons ⟨_, rfl⟩ (.nil)) (by decide), fun H => sqT_top (us := [.int 2 _]) pr_ea (.cons ⟨_, rfl⟩ (.nil)) (by decide)⟩
  have Ds : TopDict K w.params sd (termTab ⟨sd, s_sa, s_le, s_si, s_al⟩) := ⟨⟨ses, sn, s_l, s_k, by
    intro x r hm
    simp only [termTab, List.mem_cons, List.mem_nil_iff, or_false, Prod.mk.injEq] at hm
    rcases hm with ⟨rfl, rfl⟩ | ⟨rfl, rfl⟩ | ⟨rfl, rfl⟩ | ⟨rfl, rfl⟩ | ⟨rfl, rfl⟩ | ⟨rfl, rfl⟩ | ⟨rfl, rfl⟩ | ⟨rfl, rfl⟩ | ⟨rfl, rfl⟩
    · rw [PySem.W.find_K s_l sq_sa]; exact rfl
    · rw [PySem.W.find_K s_l sq_le]; exact rfl
    · rw [PySem.W.find_K s_l sq_si]; exact rfl
    · rw [PySem.W.find_K s_l sq_al]; exact rfl
    · rw [PySem.W.find_K s_l sq_not]; exact True.intro
    · rw [PySem.W.find_K s_l sq_and]; exact True.intro
    · rw [PySem.W.find_K s_l sq_or]; exact True.intro
    · rw [PySem.W.find_K s_l sq_some]; exact True.intro
    · rw [PySem.W.find_K s_l sq_each]; exact True.intro⟩, s_s⟩
  have Y : TopsT K w.params mg ⟨sd, s_sa, s_le, s_si, s_al⟩ := ⟨PySem.W.mg_of X G s_a, Ds, fun H => sqT_top (us := [.int 1 _, .int 2 _]) sr_sa (.cons ⟨_, rfl⟩ (.cons ⟨_, rfl⟩ (.nil))) (by decide), fun H => sqT_top (us := [.int 1 _, .int 2 _]) sr_le (.cons ⟨_, rfl⟩ (.cons ⟨_, rfl⟩ (.nil))) (by decide), fun H => sqT_top (us := [.int 2 _]) sr_si (.cons ⟨_, rfl⟩ (.nil)) (by decide), fun H => sqT_top (us := [.int 2 _, .int 4 _]) sr_al (.cons ⟨_, rfl⟩ (.cons ⟨_, rfl⟩ (.nil))) (by decide)⟩
  exact ⟨PySem.W.fnOf "law" "law" (defArgs s_law) (defBody s_law) (defScope s_law) .none kV18 dc18 pm18 an18 cd18 ct18, fun s v => .of_eq rfl, fun base _ _ => ok_law T U Y⟩
theorem walk {l : PySem.W.OpenLaw} {q : Program} {loose : List Str} {XP : (Str → Option Value) → Heap → Prop} {YP : World → Heap → Prop} {d : DefRec} {K : Params → PySem.W.Frag} (hn : l.most = some 63) (hdf : d.params.defaults = [])
    (hY : ∀ (w : World) (h : Heap), YP w h → (K w.params).In h)
    (F : ∀ (w : World) (mg : Str → Option Value) (fa : Addr) (h : Heap), (K w.params).In h → h.Ns mainGlobals mg → mg d.name = some (.ref fa) →
      ∃ fd : FuncData, (∀ (s : Shared) (u : Value), BindsTo s fd ⟨[u], []⟩ [("_law_script", u)]) ∧ ∀ base : Heap, (K w.params).In base → base.Ns mainGlobals mg → FnOk l.prog w (K w.params) mg base CX0 18 fa fd ["_law_script"] (spLaw (K w.params))) :
    PySem.W.WalkO q loose XP YP l.row.toRowW d [] (fun f vs => PySem.call f vs) :=
  L2.walk_of (n := 63) (k := 18) (x := "_law_script") (CX := fun _ => CX0) (sp := fun w => spLaw (K w.params)) hn (by decide) hdf ⟨rfl, by decide, by decide, rfl⟩ hY F (fun _ _ a ns hl _ hS => ⟨a, ns, rfl, hS, hl, fun _ => rfl⟩) fun _ _ _ _ _ z => z
end My
open PySem PySem.W PyProof.Rows
set_option maxRecDepth 100000 in
set_option maxHeartbeats 0 in
theorem PySem.Challenge.cw_figurejudge_k21_free_names_holds : PySem.Challenge.rw_figurejudge_k21_free_names.Holds := by
  w_on; o_law; k_head; (case hw => w_witness2)
  k_fill
  refine My.walk (l := PySem.Challenge.rw_figurejudge_k21_free_names) rfl rfl (fun w h Y => PySem.W.kIn_of Y) ?F
  case F =>
    intro w mg fa h KX G hmg
    refine' My.all_mk KX G hmg ?a0 ?l0 ?c0 ?k0 ?a1 ?l1 ?c1 ?k1 ?a2 ?l2 ?c2 ?k2 ?a3 ?l3 ?c3 ?k3 ?a4 ?l4 ?c4 ?k4 ?a5 ?l5 ?c5 ?k5 ?a6 ?l6 ?c6 ?k6 ?a7 ?l7 ?c7 ?k7 ?a8 ?l8 ?c8 ?k8 ?a9 ?l9 ?c9 ?k9 ?a10 ?l10 ?c10 ?k10 ?a11 ?l11 ?c11 ?k11 ?a12 ?l12 ?c12 ?k12 ?a13 ?l13 ?c13 ?k13 ?a14 ?l14 ?c14 ?k14 ?a15 ?l15 ?c15 ?k15 ?a16 ?l16 ?c16 ?k16 ?a17 ?l17 ?c17 ?k17 ?a18 ?l18 ?c18 ?k18 ?z0 ?z1 ?z2 ?z3 ?z4 ?z5 ?z6 ?z7 ?z8 ?z9 ?z10 ?p_a ?p_l ?p_k ?p_s ?pq_no ?pr_no ?pq_an ?pr_an ?pq_or ?pr_or ?pq_so ?pr_so ?pq_ea ?pr_ea ?pq_same ?pq_less ?pq_sign ?pq_alike ?s_a ?s_l ?s_k ?s_s ?sq_sa ?sr_sa ?sq_le ?sr_le ?sq_si ?sr_si ?sq_al ?sr_al ?sq_not ?sq_and ?sq_or ?sq_some ?sq_each
    (case a0 => k_is)
    (case l0 => k_is)
    (case c0 => k_is)
    (case k0 => k_is)
    (case a1 => k_is)
    (case l1 => k_is)
    (case c1 => k_is)
    (case k1 => k_is)
    (case a2 => k_is)
    (case l2 => k_is)
    (case c2 => k_is)
    (case k2 => k_is)
    (case a3 => k_is)
    (case l3 => k_is)
    (case c3 => k_is)
    (case k3 => k_is)
    (case a4 => k_is)
    (case l4 => k_is)
    (case c4 => k_is)
    (case k4 => k_is)
    (case a5 => k_is)
    (case l5 => k_is)
    (case c5 => k_is)
    (case k5 => k_is)
    (case a6 => k_is)
    (case l6 => k_is)
    (case c6 => k_is)
    (case k6 => k_is)
    (case a7 => k_is)
    (case l7 => k_is)
    (case c7 => k_is)
    (case k7 => k_is)
    (case a8 => k_is)
    (case l8 => k_is)
    (case c8 => k_is)
    (case k8 => k_is)
    (case a9 => k_is)
    (case l9 => k_is)
    (case c9 => k_is)
    (case k9 => k_is)
    (case a10 => k_is)
    (case l10 => k_is)
    (case c10 => k_is)
    (case k10 => k_is)
    (case a11 => k_is)
    (case l11 => k_is)
    (case c11 => k_is)
    (case k11 => k_is)
    (case a12 => k_is)
    (case l12 => k_is)
    (case c12 => k_is)
    (case k12 => k_is)
    (case a13 => k_is)
    (case l13 => k_is)
    (case c13 => k_is)
    (case k13 => k_is)
    (case a14 => k_is)
    (case l14 => k_is)
    (case c14 => k_is)
    (case k14 => k_is)
    (case a15 => k_is)
    (case l15 => k_is)
    (case c15 => k_is)
    (case k15 => k_is)
    (case a16 => k_is)
    (case l16 => k_is)
    (case c16 => k_is)
    (case k16 => k_is)
    (case a17 => k_is)
    (case l17 => k_is)
    (case c17 => k_is)
    (case k17 => k_is)
    (case a18 => k_is)
    (case l18 => k_is)
    (case c18 => k_is)
    (case k18 => k_is)
    (case z0 => k_is)
    (case z1 => k_is)
    (case z2 => k_is)
    (case z3 => k_is)
    (case z4 => k_is)
    (case z5 => k_is)
    (case z6 => k_is)
    (case z7 => k_is)
    (case z8 => k_is)
    (case z9 => k_is)
    (case z10 => k_is)
    (case p_a => k_is)
    (case p_l => k_is)
    (case p_k => repeat (first | exact ⟨⟩ | refine ⟨⟨_, _, rfl, rfl⟩, ?_⟩))
    (case p_s => rfl)
    (case pq_no => k_is)
    (case pr_no => k_is)
    (case pq_an => k_is)
    (case pr_an => k_is)
    (case pq_or => k_is)
    (case pr_or => k_is)
    (case pq_so => k_is)
    (case pr_so => k_is)
    (case pq_ea => k_is)
    (case pr_ea => k_is)
    (case pq_same => k_is)
    (case pq_less => k_is)
    (case pq_sign => k_is)
    (case pq_alike => k_is)
    (case s_a => k_is)
    (case s_l => k_is)
    (case s_k => repeat (first | exact ⟨⟩ | refine ⟨⟨_, _, rfl, rfl⟩, ?_⟩))
    (case s_s => rfl)
    (case sq_sa => k_is)
    (case sr_sa => k_is)
    (case sq_le => k_is)
    (case sr_le => k_is)
    (case sq_si => k_is)
    (case sr_si => k_is)
    (case sq_al => k_is)
    (case sr_al => k_is)
    (case sq_not => k_is)
    (case sq_and => k_is)
    (case sq_or => k_is)
    (case sq_some => k_is)
    (case sq_each => k_is)
#print axioms PySem.Challenge.cw_figurejudge_k21_free_names_holds
